/-
  What the statements stand on, part ZA6.
-/
import Derived.Test.YtnnapkakbdpkaaaGreatZA5
set_option linter.unusedVariables false
set_option linter.unusedSimpArgs false
namespace Go.Proofs.YtnnapkakbdpkaaaGreat
set_option maxRecDepth 20000
open Go.RowKit
theorem evs_len (xs : List EvV) : (evs xs).length = xs.length := by simp [evs]
end Go.Proofs.YtnnapkakbdpkaaaGreat

namespace Go.Proofs.YtnnapkakbdpkaaaGreat
set_option maxRecDepth 20000
theorem snoc_ind {P : List Ev → Prop} (h0 : P []) (hs : ∀ l e, P l → P (l ++ [e])) (l : List Ev) : P l := by
 rw [← List.reverse_reverse l]
 induction l.reverse with
 | nil => exact h0
 | cons x r ih => rw [List.reverse_cons]; exact hs _ _ ih
def Valid (room : ByteArray) (l : List Ev) : Prop := ∀ (i : Nat) e, l[i]? = some e → errA room (l.take i) e = 0
theorem valid_nil (room : ByteArray) : Valid room [] := fun i e h => by simp at h
theorem valid_snoc {room : ByteArray} {l : List Ev} {e : Ev} (h : Valid room l) (he : errA room l e = 0) : Valid room (l ++ [e]) := by
 intro i x hx
 by_cases hi : i < l.length
 ·rw [List.getElem?_append_left hi] at hx
  rw [List.take_append_of_le_length (by omega)]
  exact h i x hx
 ·have hl := (List.getElem?_eq_some_iff.1 hx).1
  simp only [List.length_append, List.length_cons, List.length_nil] at hl
  obtain rfl : i = l.length := by omega
  simp only [List.getElem?_concat_length, Option.some.injEq] at hx
  subst hx
  rw [List.take_left]
  exact he
theorem valid_add {room : ByteArray} {l : List Ev} {e : Ev} (h : Valid room l) : Valid room (addA room l e) := by
 unfold addA
 split
 ·rename_i he
  exact valid_snoc h he
 ·exact h
theorem err_zero {room : ByteArray} {l : List Ev} {e : Ev} (h : errA room l e = 0) : mayE e = true ∧ e.room = room ∧ hasE l e.id = false ∧ (∀ p ∈ e.parents, hasE l p = true) ∧ (e.thread = ⟨#[]⟩ ∨ ∃ t ∈ l, t.id = e.thread ∧ t.thread = ⟨#[]⟩ ∧ t.does = 0) := by
 unfold errA at h
 split at h
 ·exact absurd h (by decide)
 rename_i h1
 split at h
 ·exact absurd h (by decide)
 rename_i h2
 split at h
 ·exact absurd h (by decide)
 rename_i h3
 simp only [Bool.not_eq_false, Bool.and_eq_true, decide_eq_true_eq] at h1
 simp only [Bool.not_eq_true] at h2
 simp only [Bool.not_eq_false, List.all_eq_true] at h3
 refine ⟨h1.1, h1.2, h2, h3, ?_⟩
 split at h
 ·rename_i ht; exact .inl ht
 ·cases hi : idx l e.thread with
  | none => rw [hi] at h; simp at h
  | some k =>
   rw [hi] at h
   simp only at h
   obtain ⟨x, hx, he, _⟩ := idx_some hi
   rw [hx] at h
   simp only at h
   split at h
   ·rename_i hh
    exact .inr ⟨x, List.mem_of_getElem? hx, he, hh.1, hh.2⟩
   ·exact absurd h (by decide)
theorem idx_take {l : List Ev} {k : ByteArray} {n : Nat} (h : hasE (l.take n) k = true) : idx l k = idx (l.take n) k ∧ ∃ i, idx (l.take n) k = some i ∧ i < n := by
 unfold hasE at h
 obtain ⟨i, hi⟩ := Option.isSome_iff_exists.1 h
 obtain ⟨x, hx, he, hn⟩ := idx_some hi
 rw [List.getElem?_take] at hx
 split at hx
 ·rename_i hin
  rw [hi]
  refine ⟨idx_hit hx he (fun j y hj hy => hn j y hj (by rw [List.getElem?_take, if_pos (by omega)]; exact hy)), i, rfl, hin⟩
 ·cases hx
def depE (pre : List Ev) (ds : List Nat) (e : Ev) : Nat := e.parents.foldl (fun m p => max m (ds.getD ((idx pre p).getD 0) 0 + 1)) 0
def depsA (pre : List Ev) (ds : List Nat) : List Ev → List Nat
 | [] => ds
 | e :: r => depsA (pre ++ [e]) (ds ++ [depE pre ds e]) r
def deps (l : List Ev) : List Nat := depsA [] [] l
theorem depsA_snoc (e : Ev) : ∀ (l pre : List Ev) (ds : List Nat), depsA pre ds (l ++ [e]) = depsA pre ds l ++ [depE (pre ++ l) (depsA pre ds l) e]
 | [], pre, ds => by simp [depsA]
 | x :: r, pre, ds => by
  rw [List.cons_append, depsA, depsA_snoc e r, depsA, List.append_assoc, List.singleton_append]
theorem deps_snoc (l : List Ev) (e : Ev) : deps (l ++ [e]) = deps l ++ [depE l (deps l) e] := by
 unfold deps
 rw [depsA_snoc, List.nil_append]
theorem depsA_len : ∀ (l pre : List Ev) (ds : List Nat), (depsA pre ds l).length = ds.length + l.length
 | [], pre, ds => rfl
 | x :: r, pre, ds => by rw [depsA, depsA_len r]; simp; omega
theorem deps_len (l : List Ev) : (deps l).length = l.length := by
 unfold deps
 rw [depsA_len]
 simp
theorem deps_take (l : List Ev) (n : Nat) : deps (l.take n) = (deps l).take n := by
 refine snoc_ind (P := fun l => deps (l.take n) = (deps l).take n) (by simp [deps, depsA]) (fun l e ih => ?_) l
 ·by_cases h : n ≤ l.length
  ·rw [List.take_append_of_le_length h, deps_snoc, List.take_append_of_le_length (by rw [deps_len]; exact h)]
   exact ih
  ·rw [List.take_of_length_le (by simp; omega), List.take_of_length_le (by rw [deps_len]; simp; omega)]
def depthL (l : List Ev) (k : ByteArray) : Nat := match idx l k with | some i => (deps l).getD i 0 | none => 0
def depTo (l : List Ev) (i : Nat) (e : Ev) (j : Nat) : Nat := (e.parents.take j).foldl (fun m p => max m ((deps (l.take i)).getD ((idx l p).getD 0) 0 + 1)) 0
theorem depTo_all {room : ByteArray} {l : List Ev} {i : Nat} {e : Ev} (hv : Valid room l) (he : l[i]? = some e) : depTo l i e e.parents.length = (deps l).getD i 0 := by
 have hi := (List.getElem?_eq_some_iff.1 he).1
 have h0 := hv i e he
 obtain ⟨_, _, _, hp, _⟩ := err_zero h0
 have h1 : (deps (l.take (i + 1))) = deps (l.take i) ++ [depE (l.take i) (deps (l.take i)) e] := by
  rw [List.take_add_one, he]
  exact deps_snoc _ _
 have h2 : (deps l).getD i 0 = (deps (l.take (i + 1))).getD i 0 := by
  rw [deps_take, List.getD_eq_getElem?_getD, List.getD_eq_getElem?_getD, List.getElem?_take, if_pos (by omega)]
 have h3 : (deps (l.take i)).length = i := by rw [deps_len, List.length_take]; omega
 rw [h2, h1, List.getD_eq_getElem?_getD, List.getElem?_append_right (by omega), h3, Nat.sub_self]
 simp only [List.getElem?_cons_zero, Option.getD_some]
 unfold depTo depE
 rw [List.take_length]
 have key : ∀ (ps : List ByteArray) (m : Nat), (∀ p ∈ ps, hasE (l.take i) p = true) → ps.foldl (fun m p => max m ((deps (l.take i)).getD ((idx l p).getD 0) 0 + 1)) m = ps.foldl (fun m p => max m ((deps (l.take i)).getD ((idx (l.take i) p).getD 0) 0 + 1)) m := by
  intro ps
  induction ps with
  | nil => intro m _; rfl
  | cons p r ih =>
   intro m hq
   rw [List.foldl_cons, List.foldl_cons, (idx_take (hq p List.mem_cons_self)).1]
   exact ih _ (fun q hq' => hq q (List.mem_cons_of_mem _ hq'))
 exact key _ _ hp
theorem deps_le (l : List Ev) : ∀ d ∈ deps l, d ≤ l.length := by
 refine snoc_ind (P := fun l => ∀ d ∈ deps l, d ≤ l.length) (fun d hd => by simp [deps, depsA] at hd) (fun l e ih => ?_) l
 ·intro d hd
  rw [deps_snoc] at hd
  rcases List.mem_append.1 hd with h | h
  ·have := ih d h
   simp; omega
  ·rw [List.mem_singleton.1 h]
   have key : ∀ (ps : List ByteArray) (m : Nat), m ≤ l.length + 1 → ps.foldl (fun m p => max m ((deps l).getD ((idx l p).getD 0) 0 + 1)) m ≤ l.length + 1 := by
    intro ps
    induction ps with
    | nil => intro m hm; exact hm
    | cons p r ih2 =>
     intro m hm
     rw [List.foldl_cons]
     refine ih2 _ ?_
     have : (deps l).getD ((idx l p).getD 0) 0 ≤ l.length := by
      rw [List.getD_eq_getElem?_getD]
      cases hg : (deps l)[(idx l p).getD 0]? with
      | none => simp
      | some d => exact ih d (List.mem_of_getElem? hg)
     omega
   simpa [depE] using key e.parents 0 (by omega)
end Go.Proofs.YtnnapkakbdpkaaaGreat

namespace Go.Proofs.YtnnapkakbdpkaaaGreat
set_option maxRecDepth 20000
open Go.RowKit
def LI : Lies Int := ⟨3, 1, fun x => [.int .i64 x], fun _ => rfl, fun x u hu => by
 simp only [List.mem_cons, List.not_mem_nil, or_false] at hu
 subst hu; rfl⟩
structure DepS (w wr : World) (B2 D k : Nat) (room : ByteArray) (v : Value) (ds : List Int) : Prop where
 box : wr.heap[B2]? = some (.cells #[.string room, v] 93 (0, 0))
 gr : Gr w wr
 row : LI.Mine wr w.heap.size (.slice (some ⟨D, 0, none⟩) (k + 1) (k + 1)) ds
theorem DepS.on {w wr w2 : World} {B2 D k : Nat} {room : ByteArray} {v : Value} {ds : List Int} (h : DepS w wr B2 D k room v ds) (hg : Gr wr w2) : DepS w w2 B2 D k room v ds :=
 ⟨(hg.below.block B2 (smem_lt h.box)).trans h.box, h.gr.trans hg, h.row.below hg.below⟩
theorem DepS.ne {w wr : World} {B2 D k : Nat} {room : ByteArray} {v : Value} {ds : List Int} (h : DepS w wr B2 D k room v ds) : B2 ≠ D := by
 rintro rfl
 rcases h.row with ⟨hv, _⟩ | ⟨g, off, cap, cur, hv, _, hh, _⟩
 ·cases hv
 ·injection hv with e _ _
  injection e with e
  injection e with e _ _
  subst e
  rw [h.box] at hh
  injection hh with hh
  injection hh with _ hh
  exact absurd hh (by decide)
theorem DepS.cell {w wr : World} {B2 D k i : Nat} {room : ByteArray} {v : Value} {ds : List Int} {m : Int} (h : DepS w wr B2 D k room v ds) (hi : ds[i]? = some m) : wr.cell? ⟨D, i, none⟩ = some (.int .i64 m) ∧ wr.frozen? ⟨D, i, none⟩ = false := by
 obtain ⟨b, off, e, _, hr⟩ := h.row.slice.at hi
 injection e with e
 injection e with e1 e2 _
 subst e1 e2
 have h0 := hr 0 _ rfl
 have ht := h.row.there (List.getElem?_eq_some_iff.1 hi).1 0 (by decide)
 simp only [LI, Nat.zero_add, Nat.mul_one, Nat.add_zero] at h0 ht
 exact ⟨h0, ht.2⟩
theorem DepS.set {w wr : World} {B2 D k i : Nat} {room : ByteArray} {v : Value} {ds : List Int} (h : DepS w wr B2 D k room v ds) (hi : i < ds.length) (m : Int) : DepS w (wr.setCell ⟨D, i, none⟩ (.int .i64 m)) B2 D k room v (ds.set i m) := by
 have hD := (h.row.lt D rfl).1
 refine ⟨(Below.heap_setCell _ _ _ B2 h.ne).trans h.box, h.gr.setCell hD _ _, ?_⟩
 have := h.row.set hi m
 simp only [LI, World.setCells, Nat.zero_add, Nat.mul_one] at this
 exact this
end Go.Proofs.YtnnapkakbdpkaaaGreat

namespace Go.Proofs.YtnnapkakbdpkaaaGreat
set_option maxRecDepth 20000
open Go.RowKit
def posL (l : List Ev) (k : ByteArray) : Po := ⟨((depthL l k : Nat) : Int), k⟩
end Go.Proofs.YtnnapkakbdpkaaaGreat

namespace Go.Proofs.YtnnapkakbdpkaaaGreat
set_option maxRecDepth 20000
open Go.RowKit
structure AllS (w wr : World) (B2 : Nat) (room : ByteArray) (v : Value) (xs ys : List EvV) (out : Value) : Prop where
 box : wr.heap[B2]? = some (.cells #[.string room, v] 93 (0, 0))
 below : Below w.heap.size w wr
 row : LV.Mine wr w.heap.size out ys
 mem : ∀ y ∈ ys, y ∈ xs
theorem AllS.on {w wr w2 : World} {B2 : Nat} {room : ByteArray} {v : Value} {xs ys : List EvV} {out : Value} (h : AllS w wr B2 room v xs ys out) (hb : Below wr.heap.size wr w2) : AllS w w2 B2 room v xs ys out :=
 ⟨(hb.block B2 (smem_lt h.box)).trans h.box, h.below.trans (hb.mono h.below.size), h.row.below hb, h.mem⟩
end Go.Proofs.YtnnapkakbdpkaaaGreat

namespace Go.Proofs.YtnnapkakbdpkaaaGreat
set_option maxRecDepth 20000
open Go.RowKit
structure HdS (w wr : World) (out : Value) (ts : List ByteArray) : Prop where
 below : Below w.heap.size w wr
 row : LT.Mine wr w.heap.size out ts
theorem HdS.on {w wr w2 : World} {ts : List ByteArray} {out : Value} (h : HdS w wr out ts) (hb : Below wr.heap.size wr w2) : HdS w w2 out ts :=
 ⟨h.below.trans (hb.mono h.below.size), h.row.below hb⟩
end Go.Proofs.YtnnapkakbdpkaaaGreat

namespace Go.Proofs.YtnnapkakbdpkaaaGreat
set_option maxRecDepth 20000
open Go.RowKit
structure BxS (w wr : World) (B1 B2 : Nat) (cs : Array Value) : Prop where
 ne : B1 ≠ B2
 lo1 : w.heap.size ≤ B1
 lo2 : w.heap.size ≤ B2
 box : wr.heap[B1]? = some (.cells cs 52 (0, 0))
 res : wr.heap[B2]? = some (.cells #[.string ⟨#[]⟩, .string ⟨#[]⟩, .slice none 0 0, .string ⟨#[]⟩, .string ⟨#[]⟩, .int .i64 0] 52 (0, 0))
 below : Below w.heap.size w wr
theorem BxS.on {w wr w2 : World} {B1 B2 : Nat} {cs : Array Value} (h : BxS w wr B1 B2 cs) (hb : Below wr.heap.size wr w2) : BxS w w2 B1 B2 cs :=
 ⟨h.ne, h.lo1, h.lo2, (hb.block B1 (smem_lt h.box)).trans h.box, (hb.block B2 (smem_lt h.res)).trans h.res, h.below.trans (hb.mono h.below.size)⟩
theorem BxS.set {w wr : World} {B1 B2 : Nat} {cs : Array Value} (h : BxS w wr B1 B2 cs) (i : Nat) (u : Value) : BxS w (wr.setCell ⟨B1, i, none⟩ u) B1 B2 (cs.setIfInBounds i u) :=
 ⟨h.ne, h.lo1, h.lo2, heap_set h.box i u, (Below.heap_setCell wr _ u B2 h.ne.symm).trans h.res, h.below.grown (sm_grown wr B1 i [u]) h.below.size (fun k hk => by injection hk with hk; have := h.lo1; omega)⟩
theorem BxS.start (w : World) (cs : Array Value) : BxS w ((w.alloc (.cells cs 52)).alloc (.cells #[.string ⟨#[]⟩, .string ⟨#[]⟩, .slice none 0 0, .string ⟨#[]⟩, .string ⟨#[]⟩, .int .i64 0] 52)) w.heap.size (w.heap.size + 1) cs := by
 have s1 : ∀ (u : World) (o : Obj), (u.alloc o).heap.size = u.heap.size + 1 := fun u o => by simp
 have h2 := heap_alloc_new w (.cells cs 52)
 have h3 := heap_alloc_new (w.alloc (.cells cs 52)) (.cells #[.string ⟨#[]⟩, .string ⟨#[]⟩, .slice none 0 0, .string ⟨#[]⟩, .string ⟨#[]⟩, .int .i64 0] 52)
 rw [s1] at h3
 refine ⟨by omega, Nat.le_refl _, by omega, ?_, h3, ((Gr.refl w).alloc _ |>.alloc _).below⟩
 rw [heap_alloc_old _ _ (by rw [s1]; omega)]
 exact h2
theorem BxS.answer {w wr : World} {B1 B2 : Nat} {cs : Array Value} (h : BxS w wr B1 B2 cs) (a0 a1 a2 a3 a4 a5 : Value) : ∀ W, W = wr.setCells B2 0 [a0, a1, a2, a3, a4, a5] → W.cell? ⟨B2, 0, none⟩ = some a0 ∧ W.cell? ⟨B2, 1, none⟩ = some a1 ∧ W.cell? ⟨B2, 2, none⟩ = some a2 ∧ W.cell? ⟨B2, 3, none⟩ = some a3 ∧ W.cell? ⟨B2, 4, none⟩ = some a4 ∧ W.cell? ⟨B2, 5, none⟩ = some a5 ∧ Below w.heap.size w W ∧ wr.grownBy W (some B2) := by
 rintro W rfl
 obtain ⟨cur, z1, z2, z3⟩ := sm_at B2 52 [a0, a1, a2, a3, a4, a5] 0 wr _ h.res (Nat.le_refl 6)
 refine ⟨?_, ?_, ?_, ?_, ?_, ?_, h.below.grown (sm_grown wr B2 0 _) h.below.size (fun k hk => by injection hk with hk; have := h.lo2; omega), sm_grown wr B2 0 _⟩
 ·rw [cell_at z1 0, ← Array.getElem?_toList, z3]; rfl
 ·rw [cell_at z1 1, ← Array.getElem?_toList, z3]; rfl
 ·rw [cell_at z1 2, ← Array.getElem?_toList, z3]; rfl
 ·rw [cell_at z1 3, ← Array.getElem?_toList, z3]; rfl
 ·rw [cell_at z1 4, ← Array.getElem?_toList, z3]; rfl
 ·rw [cell_at z1 5, ← Array.getElem?_toList, z3]; rfl
end Go.Proofs.YtnnapkakbdpkaaaGreat

namespace Go.Proofs.YtnnapkakbdpkaaaGreat
set_option maxRecDepth 20000
open Go.RowKit
theorem six_at {wr : World} {b : Nat} {cs : Array Value} {t : TypeId} (h : wr.heap[b]? = some (.cells cs t (0, 0))) (hs : cs.size = 6) (a0 a1 a2 a3 a4 a5 : Value) : (wr.setCells b 0 [a0, a1, a2, a3, a4, a5]).heap[b]? = some (.cells #[a0, a1, a2, a3, a4, a5] t (0, 0)) := by
 obtain ⟨cur, z1, z2, z3⟩ := sm_at b t [a0, a1, a2, a3, a4, a5] 0 wr _ h (by rw [hs]; exact Nat.le_refl 6)
 rw [z1]
 have : cur = #[a0, a1, a2, a3, a4, a5] := by
  apply Array.toList_inj.1
  rw [z3, List.take_zero, List.nil_append, List.drop_of_length_le (by rw [Array.length_toList, hs]; exact Nat.le_refl 6), List.append_nil]
 rw [this]
structure OdS (w wr : World) (B4 B7 B8 B9 : Nat) (room : ByteArray) (v : Value) (rs es : Array Value) : Prop where
 n47 : B4 ≠ B7
 n49 : B4 ≠ B9
 n78 : B7 ≠ B8
 n79 : B7 ≠ B9
 n89 : B8 ≠ B9
 lo7 : w.heap.size ≤ B7
 lo8 : w.heap.size ≤ B8
 lo9 : w.heap.size ≤ B9
 b4 : wr.heap[B4]? = some (.cells #[.string room, v] 93 (0, 0))
 b7 : wr.heap[B7]? = some (.cells rs 52 (0, 0))
 b8 : wr.heap[B8]? = some (.cells #[.string ⟨#[]⟩, .string ⟨#[]⟩, .slice none 0 0, .string ⟨#[]⟩, .string ⟨#[]⟩, .int .i64 0] 52 (0, 0))
 b9 : wr.heap[B9]? = some (.cells es 52 (0, 0))
 below : Below w.heap.size w wr
section
variable {w wr w2 : World} {B4 B7 B8 B9 : Nat} {room : ByteArray} {v : Value} {rs es : Array Value}
theorem OdS.on (h : OdS w wr B4 B7 B8 B9 room v rs es) (hb : Below wr.heap.size wr w2) : OdS w w2 B4 B7 B8 B9 room v rs es :=
 ⟨h.n47, h.n49, h.n78, h.n79, h.n89, h.lo7, h.lo8, h.lo9, (hb.block B4 (smem_lt h.b4)).trans h.b4, (hb.block B7 (smem_lt h.b7)).trans h.b7, (hb.block B8 (smem_lt h.b8)).trans h.b8, (hb.block B9 (smem_lt h.b9)).trans h.b9, h.below.trans (hb.mono h.below.size)⟩
theorem OdS.set (h : OdS w wr B4 B7 B8 B9 room v rs es) (i : Nat) (u : Value) : OdS w (wr.setCell ⟨B9, i, none⟩ u) B4 B7 B8 B9 room v rs (es.setIfInBounds i u) :=
 ⟨h.n47, h.n49, h.n78, h.n79, h.n89, h.lo7, h.lo8, h.lo9, (Below.heap_setCell wr _ u B4 h.n49).trans h.b4, (Below.heap_setCell wr _ u B7 h.n79).trans h.b7, (Below.heap_setCell wr _ u B8 h.n89).trans h.b8, heap_set h.b9 i u, h.below.grown (sm_grown wr B9 i [u]) h.below.size (fun k hk => by injection hk with hk; have := h.lo9; omega)⟩
theorem OdS.start (w : World) (room : ByteArray) (v : Value) (rs es : Array Value) : OdS w ((((w.alloc (.cells #[.string room, v] 93)).alloc (.cells rs 52)).alloc (.cells #[.string ⟨#[]⟩, .string ⟨#[]⟩, .slice none 0 0, .string ⟨#[]⟩, .string ⟨#[]⟩, .int .i64 0] 52)).alloc (.cells es 52)) w.heap.size (w.heap.size + 1) (w.heap.size + 1 + 1) (w.heap.size + 1 + 1 + 1) room v rs es := by
 have s1 : ∀ (u : World) (o : Obj), (u.alloc o).heap.size = u.heap.size + 1 := fun u o => by simp
 refine ⟨by omega, by omega, by omega, by omega, by omega, by omega, by omega, by omega, ?_, ?_, ?_, ?_, ((Gr.refl w).alloc _ |>.alloc _ |>.alloc _ |>.alloc _).below⟩
 ·rw [heap_alloc_old _ _ (by simp only [s1]; omega), heap_alloc_old _ _ (by simp only [s1]; omega), heap_alloc_old _ _ (by simp only [s1]; omega)]
  exact heap_alloc_new _ _
 ·rw [heap_alloc_old _ _ (by simp only [s1]; omega), heap_alloc_old _ _ (by simp only [s1]; omega), show w.heap.size + 1 = (w.alloc (.cells #[.string room, v] 93)).heap.size by simp only [s1]]
  exact heap_alloc_new _ _
 ·rw [heap_alloc_old _ _ (by simp only [s1]; omega), show w.heap.size + 1 + 1 = ((w.alloc (.cells #[.string room, v] 93)).alloc (.cells rs 52)).heap.size by simp only [s1]]
  exact heap_alloc_new _ _
 ·have := heap_alloc_new (((w.alloc (.cells #[.string room, v] 93)).alloc (.cells rs 52)).alloc (.cells #[.string ⟨#[]⟩, .string ⟨#[]⟩, .slice none 0 0, .string ⟨#[]⟩, .string ⟨#[]⟩, .int .i64 0] 52)) (.cells es 52)
  simp only [s1] at this
  exact this
theorem OdS.answer (h : OdS w wr B4 B7 B8 B9 room v rs es) (a0 a1 a2 a3 a4 a5 : Value) : ∀ W, W = wr.setCells B8 0 [a0, a1, a2, a3, a4, a5] → W.cell? ⟨B8, 0, none⟩ = some a0 ∧ W.cell? ⟨B8, 1, none⟩ = some a1 ∧ W.cell? ⟨B8, 2, none⟩ = some a2 ∧ W.cell? ⟨B8, 3, none⟩ = some a3 ∧ W.cell? ⟨B8, 4, none⟩ = some a4 ∧ W.cell? ⟨B8, 5, none⟩ = some a5 ∧ Below w.heap.size w W ∧ wr.grownBy W (some B8) := by
 rintro W rfl
 have z1 := six_at h.b8 rfl a0 a1 a2 a3 a4 a5
 exact ⟨cell_at z1 0, cell_at z1 1, cell_at z1 2, cell_at z1 3, cell_at z1 4, cell_at z1 5, h.below.grown (sm_grown wr B8 0 _) h.below.size (fun k hk => by injection hk with hk; have := h.lo8; omega), sm_grown wr B8 0 _⟩
end
end Go.Proofs.YtnnapkakbdpkaaaGreat

namespace Go.Proofs.YtnnapkakbdpkaaaGreat
set_option maxRecDepth 20000
structure Gp where
 user : Int
 does : Int
 parents : List Int
 thread : Int
def onP (g : Gp) (i k : Nat) : Bool := (g.parents.take 3).any (fun p => decide (aroundN p (i : Int) = k))
def fromP (g : Gp) (i : Nat) : List Nat := (List.range i).filter (onP g i)
def thrM (l : List Ev) (g : Gp) : ByteArray :=
 if aroundI g.does 3 = 0 ∧ 0 < l.length then
  match l[aroundN g.thread ((2 * l.length : Nat) : Int)]? with
  | some t => if t.does = 0 ∧ t.thread = ⟨#[]⟩ then eventK (aroundN g.thread ((2 * l.length : Nat) : Int)) else ⟨#[]⟩
  | none => ⟨#[]⟩
 else ⟨#[]⟩
def madeE (room : ByteArray) (l : List Ev) (g : Gp) : Ev := ⟨eventK l.length, room, (fromP g l.length).map eventK, thrM l g, userS g.user, aroundI g.does 3⟩
def madeTo (room : ByteArray) (gs : List Gp) (n : Nat) : List Ev := (gs.take n).foldl (fun l g => l ++ [madeE room l g]) []
theorem madeTo_succ {room : ByteArray} {gs : List Gp} {n : Nat} {g : Gp} (h : gs[n]? = some g) : madeTo room gs (n + 1) = madeTo room gs n ++ [madeE room (madeTo room gs n) g] := by
 unfold madeTo
 rw [List.take_add_one, h, List.foldl_append]
 rfl
theorem eventK_inj : ∀ a b : Fin 9, eventK a.val = eventK b.val → a = b := by decide +kernel
theorem eventK_less : ∀ a b : Fin 9, a < b → Op.bytesLess (eventK a.val).toList (eventK b.val).toList = true := by decide +kernel
theorem eventK_some : ∀ a : Fin 9, eventK a.val ≠ ⟨#[]⟩ := by decide +kernel
theorem fil_or (p q : Nat → Bool) : ∀ L : List Nat, (L.filter (fun k => p k || q k)).length ≤ (L.filter p).length + (L.filter q).length
 | [] => Nat.le_refl _
 | x :: r => by
  have := fil_or p q r
  cases hp : p x <;> cases hq : q x <;> simp [List.filter_cons, hp, hq] <;> omega
theorem fil_one (a i : Nat) : ((List.range i).filter (fun k => decide (a = k))).length ≤ (if a < i then 1 else 0) := by
 induction i with
 | zero => simp
 | succ i ih =>
  rw [List.range_succ, List.filter_append, List.length_append]
  by_cases h : a = i
  ·subst h
   simp at ih ⊢
   omega
  ·have h1 : ([i].filter (fun k => decide (a = k))).length = 0 := by simp [h]
   rw [h1]
   split at ih <;> split <;> omega
theorem fil_any (i : Nat) (f : Int → Nat) : ∀ ps : List Int, ((List.range i).filter (fun k => ps.any (fun p => decide (f p = k)))).length ≤ ps.length
 | [] => by simp
 | p :: r => by
  have h1 := fil_any i f r
  have h2 := fil_one (f p) i
  have h3 := fil_or (fun k => decide (f p = k)) (fun k => r.any (fun p => decide (f p = k))) (List.range i)
  simp only [List.any_cons, List.length_cons]
  split at h2 <;> omega
theorem fromP_len (g : Gp) (i : Nat) : (fromP g i).length ≤ 3 := by
 refine Nat.le_trans (fil_any i (fun p => aroundN p (i : Int)) (g.parents.take 3)) ?_
 rw [List.length_take]
 omega
theorem fromP_lt {g : Gp} {i k : Nat} (h : k ∈ fromP g i) : k < i := List.mem_range.1 (List.mem_filter.1 h).1
theorem fromP_up (g : Gp) (i : Nat) : (fromP g i).Pairwise (· < ·) := List.Pairwise.filter _ List.pairwise_lt_range
structure Rowed (room : ByteArray) (l : List Ev) : Prop where
 ids : ∀ (j : Nat) e, l[j]? = some e → e.id = eventK j
 le : l.length ≤ 9
 valid : Valid room l
theorem Rowed.has {room : ByteArray} {l : List Ev} (h : Rowed room l) {k : Nat} (hk : k < l.length) : idx l (eventK k) = some k := by
 refine idx_hit (x := l[k]) (List.getElem?_eq_getElem hk) (h.ids k _ (List.getElem?_eq_getElem hk)) (fun j y hj hy he => ?_)
 rw [h.ids j y hy] at he
 have h9 := h.le
 have := eventK_inj ⟨j, by omega⟩ ⟨k, by omega⟩ he
 simp only [Fin.mk.injEq] at this
 omega
theorem made_may {room : ByteArray} {l : List Ev} (hr : namedB 33 room = true) (h : Rowed room l) (hl : l.length < 9) (g : Gp) : mayE (madeE room l g) = true := by
 have hd := aroundI_bd g.does 3 (by decide)
 have h1 : headB (madeE room l g) = true := by
  unfold headB madeE
  simp only [List.length_map, Bool.and_eq_true, decide_eq_true_eq]
  have := fromP_len g l.length
  exact ⟨⟨⟨⟨⟨eventK_event ⟨l.length, hl⟩, hr⟩, userS_user _⟩, by omega⟩, by omega⟩, by omega⟩
 have h2 : thrB (madeE room l g) = true := by
  unfold thrB madeE thrM
  generalize aroundN g.thread ((2 * l.length : Nat) : Int) = k
  simp only
  split
  ·rename_i h0
   cases ht : l[k]? with
   | none => simp
   | some t =>
    simp only
    have hk := (List.getElem?_eq_some_iff.1 ht).1
    split
    ·have e1 := eventK_event ⟨k, by omega⟩
     simp only at e1
     rw [e1, h0.1]
     have e2 : ¬ eventK k = eventK l.length := fun he => by
      have := eventK_inj ⟨k, by omega⟩ ⟨l.length, hl⟩ he
      simp only [Fin.mk.injEq] at this
      omega
     simp [e2]
    ·simp
  ·simp
 have h3 : parTo (madeE room l g) (madeE room l g).parents.length = true := by
  unfold parTo
  rw [List.all_eq_true]
  intro i hi
  rw [List.mem_range] at hi
  have hp : (madeE room l g).parents = (fromP g l.length).map eventK := rfl
  rw [hp, List.length_map] at hi
  have gi : ∀ j, (hj : j < (fromP g l.length).length) → (madeE room l g).parents.getD j ⟨#[]⟩ = eventK (fromP g l.length)[j] := fun j hj => by
   rw [hp, List.getD_eq_getElem?_getD, List.getElem?_map, List.getElem?_eq_getElem hj]
   rfl
  have lt : ∀ j, (hj : j < (fromP g l.length).length) → (fromP g l.length)[j] < l.length := fun j hj => fromP_lt (List.getElem_mem hj)
  unfold parB
  rw [gi i hi]
  have l1 := lt i hi
  have e1 := eventK_event ⟨(fromP g l.length)[i], by omega⟩
  simp only at e1
  rw [e1]
  have e2 : ¬ eventK (fromP g l.length)[i] = (madeE room l g).id := fun he => by
   have := eventK_inj ⟨(fromP g l.length)[i], by omega⟩ ⟨l.length, hl⟩ he
   simp only [Fin.mk.injEq] at this
   omega
  rw [decide_eq_false e2]
  by_cases hi0 : i = 0
  ·simp [hi0]
  ·have l2 := lt (i - 1) (by omega)
   have l3 := List.pairwise_iff_getElem.1 (fromP_up g l.length) (i - 1) i (by omega) hi (by omega)
   rw [gi (i - 1) (by omega)]
   have e3 := eventK_less ⟨(fromP g l.length)[i - 1], by omega⟩ ⟨(fromP g l.length)[i], by omega⟩ l3
   simp only at e3
   rw [e3]
   simp
 unfold mayE
 rw [h1, h2, h3]
 rfl
theorem made_zero {room : ByteArray} {l : List Ev} (hr : namedB 33 room = true) (h : Rowed room l) (hl : l.length < 9) (g : Gp) : errA room l (madeE room l g) = 0 := by
 unfold errA
 rw [made_may hr h hl g]
 have hroom : (madeE room l g).room = room := rfl
 have hid : (madeE room l g).id = eventK l.length := rfl
 have h1 : hasE l (madeE room l g).id = false := by
  rw [Bool.eq_false_iff]
  intro hh
  obtain ⟨x, hx, he⟩ := has_iff.1 hh
  obtain ⟨j, hj, hxj⟩ := List.getElem_of_mem hx
  rw [h.ids j x (by rw [List.getElem?_eq_getElem hj, hxj]), hid] at he
  have := eventK_inj ⟨j, by omega⟩ ⟨l.length, hl⟩ he
  simp only [Fin.mk.injEq] at this
  omega
 have h2 : (madeE room l g).parents.all (hasE l) = true := by
  rw [List.all_eq_true]
  intro p hp
  obtain ⟨k, hk, rfl⟩ := List.mem_map.1 (show p ∈ (fromP g l.length).map eventK from hp)
  unfold hasE
  rw [h.has (fromP_lt hk)]
  rfl
 rw [h1, h2, hroom]
 simp only [decide_true, Bool.and_self, Bool.true_eq_false, Bool.false_eq_true, if_false]
 have ht : (madeE room l g).thread = thrM l g := rfl
 rw [ht]
 unfold thrM
 generalize aroundN g.thread ((2 * l.length : Nat) : Int) = k
 split
 ·cases hk : l[k]? with
  | none => simp
  | some t =>
   simp only
   by_cases hh : t.does = 0 ∧ t.thread = ⟨#[]⟩
   ·have hlt := (List.getElem?_eq_some_iff.1 hk).1
    rw [if_pos hh, if_neg (eventK_some ⟨k, by omega⟩), h.has hlt]
    simp only [hk]
    rw [if_pos ⟨hh.2, hh.1⟩]
   ·rw [if_neg hh]
    simp
 ·simp
theorem made_row {room : ByteArray} {l : List Ev} (hr : namedB 33 room = true) (h : Rowed room l) (hl : l.length < 9) (g : Gp) : Rowed room (l ++ [madeE room l g]) := by
 refine ⟨fun j e he => ?_, by rw [List.length_append]; simp only [List.length_cons, List.length_nil]; omega, valid_snoc h.valid (made_zero hr h hl g)⟩
 by_cases hj : j < l.length
 ·rw [List.getElem?_append_left hj] at he
  exact h.ids j e he
 ·have hl2 := (List.getElem?_eq_some_iff.1 he).1
  simp only [List.length_append, List.length_cons, List.length_nil] at hl2
  obtain rfl : j = l.length := by omega
  simp only [List.getElem?_concat_length, Option.some.injEq] at he
  rw [← he]
  rfl
theorem madeTo_row {room : ByteArray} (hr : namedB 33 room = true) (gs : List Gp) : ∀ n, n ≤ 9 → n ≤ gs.length → Rowed room (madeTo room gs n) ∧ (madeTo room gs n).length = n
 | 0, _, _ => ⟨⟨fun j e he => by simp [madeTo] at he, Nat.zero_le _, valid_nil room⟩, rfl⟩
 | n + 1, h9, hn => by
  obtain ⟨ih, hl⟩ := madeTo_row hr gs n (by omega) (by omega)
  rw [madeTo_succ (List.getElem?_eq_getElem (show n < gs.length by omega))]
  exact ⟨made_row hr ih (by omega) _, by rw [List.length_append, hl]; rfl⟩
end Go.Proofs.YtnnapkakbdpkaaaGreat

namespace Go.Proofs.YtnnapkakbdpkaaaGreat
set_option maxRecDepth 20000
theorem pos_iff (a b : Po) : beforeP a b = true ↔ a.depth < b.depth ∨ (a.depth = b.depth ∧ a.id.toList < b.id.toList) := by
 simp [beforeP, Proofs.bytesLess_eq]
theorem pos_irrefl (a : Po) : beforeP a a = false := by
 rw [Bool.eq_false_iff]
 intro h
 rw [pos_iff] at h
 rcases h with h | ⟨_, h⟩
 ·omega
 ·exact List.lt_irrefl _ h
theorem pos_trans {a b c : Po} (h : beforeP a b = true) (k : beforeP b c = true) : beforeP a c = true := by
 rw [pos_iff] at *
 rcases h with h | ⟨h, h'⟩ <;> rcases k with k | ⟨k, k'⟩
 ·exact .inl (by omega)
 ·exact .inl (by omega)
 ·exact .inl (by omega)
 ·exact .inr ⟨by omega, List.lt_trans h' k'⟩
theorem pos_total {a b : Po} (h : a ≠ b) : beforeP a b = true ∨ beforeP b a = true := by
 rw [pos_iff, pos_iff]
 rcases Int.lt_trichotomy a.depth b.depth with ht | ht | ht
 ·exact .inl (.inl ht)
 ·by_cases hk : a.id.toList < b.id.toList
  ·exact .inl (.inr ⟨ht, hk⟩)
  ·by_cases hk' : b.id.toList < a.id.toList
   ·exact .inr (.inr ⟨ht.symm, hk'⟩)
   ·exfalso
    apply h
    obtain ⟨x, y⟩ := a
    obtain ⟨z, u⟩ := b
    simp only at ht hk hk'
    have : y = u := key_ext (List.le_antisymm (List.not_lt.1 hk') (List.not_lt.1 hk))
    rw [ht, this]
 ·exact .inr (.inl ht)
theorem valid_idx {room : ByteArray} {l : List Ev} {i : Nat} {e : Ev} (hv : Valid room l) (he : l[i]? = some e) : idx l e.id = some i := by
 refine idx_hit he rfl (fun j y hj hy hh => ?_)
 have h0 := (err_zero (hv i e he)).2.2.1
 have : hasE (l.take i) e.id = true := has_iff.2 ⟨y, List.mem_of_getElem? (i := j) (by rw [List.getElem?_take, if_pos hj]; exact hy), hh⟩
 rw [h0] at this
 cases this
theorem valid_ids {room : ByteArray} {l : List Ev} {a b : Ev} (hv : Valid room l) (ha : a ∈ l) (hb : b ∈ l) (h : a.id = b.id) : a = b := by
 obtain ⟨i, hi, ei⟩ := List.getElem_of_mem ha
 obtain ⟨j, hj, ej⟩ := List.getElem_of_mem hb
 have h1 := valid_idx hv (List.getElem?_eq_getElem hi)
 have h2 := valid_idx hv (List.getElem?_eq_getElem hj)
 rw [ei] at h1
 rw [ej, ← h, h1] at h2
 injection h2 with h2
 subst h2
 rw [← ei, ← ej]
theorem depth_rec {room : ByteArray} {l : List Ev} {e : Ev} (hv : Valid room l) (he : e ∈ l) : depthL l e.id = e.parents.foldl (fun m p => max m (depthL l p + 1)) 0 := by
 obtain ⟨i, hi, ei⟩ := List.getElem_of_mem he
 have hie : l[i]? = some e := by rw [List.getElem?_eq_getElem hi, ei]
 have h1 : depthL l e.id = (deps l).getD i 0 := by unfold depthL; rw [valid_idx hv hie]
 rw [h1, ← depTo_all hv hie]
 unfold depTo
 rw [List.take_length]
 obtain ⟨_, _, _, hp, _⟩ := err_zero (hv i e hie)
 have key : ∀ (ps : List ByteArray) (m : Nat), (∀ p ∈ ps, hasE (l.take i) p = true) → ps.foldl (fun m p => max m ((deps (l.take i)).getD ((idx l p).getD 0) 0 + 1)) m = ps.foldl (fun m p => max m (depthL l p + 1)) m := by
  intro ps
  induction ps with
  | nil => intro m _; rfl
  | cons p r ih =>
   intro m hq
   rw [List.foldl_cons, List.foldl_cons]
   have hpp := hq p List.mem_cons_self
   obtain ⟨e1, t, e2, ht⟩ := idx_take hpp
   have h3 : (deps (l.take i)).getD ((idx l p).getD 0) 0 = depthL l p := by
    unfold depthL
    rw [e1, e2, deps_take]
    simp only [Option.getD_some]
    rw [List.getD_eq_getElem?_getD, List.getD_eq_getElem?_getD, List.getElem?_take, if_pos ht]
   rw [h3]
   exact ih _ (fun q hq' => hq q (List.mem_cons_of_mem _ hq'))
 exact key _ _ hp
end Go.Proofs.YtnnapkakbdpkaaaGreat

namespace Go.Proofs.YtnnapkakbdpkaaaGreat
set_option maxRecDepth 20000
def Up (l : List ByteArray) : Prop := l.Pairwise (fun a b => a.toList < b.toList)
def leS (s x : ByteArray) : Bool := !Op.bytesLess x.toList s.toList
theorem leS_iff {s x : ByteArray} : leS s x = true ↔ ¬ x.toList < s.toList := by
 unfold leS
 rw [Bool.not_eq_true', Proofs.bytesLess_eq]
 simp
def putL (s : ByteArray) : List ByteArray → List ByteArray
 | [] => [s]
 | x :: r => bif leS s x then s :: (x :: r).filter (fun y => !decide (y = s)) else x :: putL s r
theorem putL_mem (s z : ByteArray) : ∀ l : List ByteArray, z ∈ putL s l ↔ z = s ∨ z ∈ l
 | [] => by simp [putL]
 | x :: r => by
  unfold putL
  cases leS s x
  ·simp only [cond_false, List.mem_cons, putL_mem s z r]
   constructor
   ·rintro (h | h | h)
    ·exact .inr (.inl h)
    ·exact .inl h
    ·exact .inr (.inr h)
   ·rintro (h | h | h)
    ·exact .inr (.inl h)
    ·exact .inl h
    ·exact .inr (.inr h)
  ·simp only [cond_true, List.mem_cons, List.mem_filter, Bool.not_eq_true', decide_eq_false_iff_not]
   constructor
   ·rintro (h | ⟨h, _⟩)
    ·exact .inl h
    ·exact .inr h
   ·rintro (h | h)
    ·exact .inl h
    ·by_cases hz : z = s
     ·exact .inl hz
     ·exact .inr ⟨h, hz⟩
theorem putL_up (s : ByteArray) : ∀ l : List ByteArray, Up l → Up (putL s l)
 | [], _ => List.pairwise_singleton _ _
 | x :: r, h => by
  have h1 := List.pairwise_cons.1 h
  unfold putL
  cases hb : leS s x
  ·rw [cond_false]
   have hx : x.toList < s.toList := by
    by_cases hh : x.toList < s.toList
    ·exact hh
    ·rw [leS_iff.2 hh] at hb; cases hb
   refine List.pairwise_cons.2 ⟨fun y hy => ?_, putL_up s r h1.2⟩
   rcases (putL_mem s y r).1 hy with rfl | hy
   ·exact hx
   ·exact h1.1 y hy
  ·rw [cond_true]
   have hx := leS_iff.1 hb
   refine List.pairwise_cons.2 ⟨fun y hy => ?_, List.Pairwise.filter _ h⟩
   rw [List.mem_filter, Bool.not_eq_true', decide_eq_false_iff_not] at hy
   have hlt : ∀ z : ByteArray, ¬ z.toList < s.toList → z ≠ s → s.toList < z.toList := fun z hz hne => by
    by_cases h9 : s.toList < z.toList
    ·exact h9
    ·exact absurd (key_ext (List.le_antisymm (List.not_lt.1 h9) (List.not_lt.1 hz))) hne
   rcases List.mem_cons.1 hy.1 with rfl | hy1
   ·exact hlt _ hx hy.2
   ·refine hlt y (fun hh => hx (List.lt_trans (h1.1 y hy1) hh)) hy.2
theorem putL_len (s : ByteArray) : ∀ l : List ByteArray, (putL s l).length ≤ l.length + 1
 | [] => by simp [putL]
 | x :: r => by
  unfold putL
  cases leS s x
  ·simp only [cond_false, List.length_cons]
   have := putL_len s r
   omega
  ·simp only [cond_true, List.length_cons]
   have := List.length_filter_le (fun y => !decide (y = s)) (x :: r)
   simp only [List.length_cons] at this
   omega
end Go.Proofs.YtnnapkakbdpkaaaGreat
