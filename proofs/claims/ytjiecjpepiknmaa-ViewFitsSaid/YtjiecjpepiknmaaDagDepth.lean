/-
  The document's Depth, Position.
-/
import Derived.Test.YtjiecjpepiknmaaDagV
import Derived.Deep.OwnRows
namespace Go.Proofs.Ytjiecjpepiknmaa
set_option maxRecDepth 20000
open Go.RowKit
set_option linter.unusedVariables false
set_option linter.unusedSimpArgs false

/-- How numbers lie. -/
def LI : Lies Int := ⟨3, 1, fun x => [.int .i64 x], fun _ => rfl, fun x u hu => by
  simp only [List.mem_cons, List.not_mem_nil, or_false] at hu
  subst hu; rfl⟩
/-- Depths that are known, one that is being reckoned, the others. -/
def contM (l : List Ev) (k a : Nat) (m : Int) : List Int := (deps (l.take a)).map (fun d : Nat => (d : Int)) ++ m :: List.replicate (k - a) 0
def cont (l : List Ev) (k a : Nat) : List Int := (deps (l.take a)).map (fun d : Nat => (d : Int)) ++ List.replicate (k + 1 - a) 0
theorem cont_zero (l : List Ev) (k : Nat) : cont l k 0 = List.replicate (k + 1) 0 := by simp [cont, deps, depsA]
theorem cont_M {l : List Ev} {k a : Nat} (h : a ≤ k) : cont l k a = contM l k a 0 := by
  unfold cont contM
  rw [show k + 1 - a = k - a + 1 by omega, List.replicate_succ]
theorem contM_len {l : List Ev} {k a : Nat} {m : Int} (h : a ≤ k) (hl : a ≤ l.length) : (contM l k a m).length = k + 1 := by
  unfold contM
  simp [deps_len, List.length_take]
  omega
theorem dlen {l : List Ev} {a : Nat} (hl : a ≤ l.length) : ((deps (l.take a)).map (fun d : Nat => (d : Int))).length = a := by
  rw [List.length_map, deps_len, List.length_take]
  omega
theorem contM_at {l : List Ev} {k a : Nat} {m : Int} (hl : a ≤ l.length) : (contM l k a m)[a]? = some m := by
  unfold contM
  rw [List.getElem?_append_right (by rw [dlen hl]; exact Nat.le_refl _), dlen hl, Nat.sub_self]
  rfl
theorem contM_lt {l : List Ev} {k a t : Nat} {m : Int} (hl : a ≤ l.length) (ht : t < a) : (contM l k a m)[t]? = some (((deps (l.take a)).getD t 0 : Nat) : Int) := by
  unfold contM
  have h1 : t < (deps (l.take a)).length := by rw [deps_len, List.length_take]; omega
  rw [List.getElem?_append_left (by rw [dlen hl]; exact ht), List.getElem?_map, List.getElem?_eq_getElem h1, List.getD_eq_getElem?_getD, List.getElem?_eq_getElem h1]
  rfl
theorem contM_set {l : List Ev} {k a : Nat} {m m' : Int} (hl : a ≤ l.length) : (contM l k a m).set a m' = contM l k a m' := by
  unfold contM
  rw [List.set_append_right _ _ (by rw [dlen hl]; exact Nat.le_refl _), dlen hl, Nat.sub_self]
  rfl
theorem contM_next {l : List Ev} {k a : Nat} {e : Ev} (he : l[a]? = some e) (hak : a ≤ k) : contM l k a (((deps l).getD a 0 : Nat) : Int) = cont l k (a + 1) := by
  have hi := (List.getElem?_eq_some_iff.1 he).1
  unfold contM cont
  have h1 : deps (l.take (a + 1)) = deps (l.take a) ++ [(deps l).getD a 0] := by
    rw [deps_take, deps_take, List.take_add_one, List.getD_eq_getElem?_getD, List.getElem?_eq_getElem (by rw [deps_len]; exact hi)]
    rfl
  rw [h1, List.map_append, List.append_assoc]
  rw [show k + 1 - (a + 1) = k - a by omega]
  rfl
theorem cont_last {l : List Ev} {k : Nat} (hk : k < l.length) : (cont l k (k + 1))[k]? = some (((deps l).getD k 0 : Nat) : Int) := by
  have h1 : k < (deps (l.take (k + 1))).length := by rw [deps_len, List.length_take]; omega
  unfold cont
  rw [List.getElem?_append_left (by rw [List.length_map]; exact h1), List.getElem?_map, List.getElem?_eq_getElem h1]
  simp only [Option.map_some, Option.some.injEq, Int.ofNat_inj]
  have h2 : (deps (l.take (k + 1)))[k]? = (deps l)[k]? := by rw [deps_take, List.getElem?_take, if_pos (by omega)]
  rw [List.getElem?_eq_getElem h1] at h2
  rw [List.getD_eq_getElem?_getD, ← h2]
  rfl
theorem made_zeros (n : Nat) : (madeCells #[.int .i64 0] n).toList = LI.vs (List.replicate n 0) := by
  have h1 : (madeCells #[.int .i64 0] n).toList = List.replicate n (.int .i64 0) := by
    apply List.ext_getElem
    · simp [madeCells]
    · intro i h1 h2
      simp [madeCells, Nat.mod_one]
  rw [h1]
  induction n with
  | zero => rfl
  | succ n ih => rw [List.replicate_succ, List.replicate_succ, LI.vs_cons, ← ih (by
      apply List.ext_getElem
      · simp [madeCells]
      · intro i h1 h2
        simp [madeCells, Nat.mod_one])]; rfl
/-- While depths are reckoned. -/
structure DepS (w wr : World) (B2 D k : Nat) (room : ByteArray) (v : Value) (ds : List Int) : Prop where
  box : wr.heap[B2]? = some (.cells #[.string room, v] 51 (0, 0))
  gr : Gr w wr
  row : LI.Mine wr w.heap.size (.slice (some ⟨D, 0, none⟩) (k + 1) (k + 1)) ds
theorem DepS.on {w wr w2 : World} {B2 D k : Nat} {room : ByteArray} {v : Value} {ds : List Int} (h : DepS w wr B2 D k room v ds) (hg : Gr wr w2) : DepS w w2 B2 D k room v ds :=
  ⟨(hg.below.block B2 (smem_lt h.box)).trans h.box, h.gr.trans hg, h.row.below hg.below⟩
theorem DepS.ne {w wr : World} {B2 D k : Nat} {room : ByteArray} {v : Value} {ds : List Int} (h : DepS w wr B2 D k room v ds) : B2 ≠ D := by
  rintro rfl
  rcases h.row with ⟨hv, _⟩ | ⟨g, off, cap, cur, hv, _, hh, _⟩
  · cases hv
  · injection hv with e _ _
    injection e with e
    injection e with e _ _
    subst e
    rw [h.box] at hh
    injection hh with hh
    injection hh with _ hh
    exact absurd hh (by decide)
theorem DepS.cell {w wr : World} {B2 D k i : Nat} {room : ByteArray} {v : Value} {ds : List Int} {m : Int} (h : DepS w wr B2 D k room v ds) (hi : ds[i]? = some m) : wr.cell? ⟨D, i, none⟩ = some (.int .i64 m) ∧ wr.frozen? ⟨D, i, none⟩ = false := by
  obtain ⟨b, off, e, _, hr⟩ := h.row.slice.at hi
  injection e with e
  injection e with e1 e2 _
  subst e1 e2
  have h0 := hr 0 _ rfl
  have ht := h.row.there (List.getElem?_eq_some_iff.1 hi).1 0 (by decide)
  simp only [LI, Nat.zero_add, Nat.mul_one, Nat.add_zero] at h0 ht
  exact ⟨h0, ht.2⟩
theorem DepS.set {w wr : World} {B2 D k i : Nat} {room : ByteArray} {v : Value} {ds : List Int} (h : DepS w wr B2 D k room v ds) (hi : i < ds.length) (m : Int) : DepS w (wr.setCell ⟨D, i, none⟩ (.int .i64 m)) B2 D k room v (ds.set i m) := by
  have hD := (h.row.lt D rfl).1
  refine ⟨(Below.heap_setCell _ _ _ B2 h.ne).trans h.box, h.gr.setCell hD _ _, ?_⟩
  have := h.row.set hi m
  simp only [LI, World.setCells, Nat.zero_add, Nat.mul_one] at this
  exact this
theorem gr_cell {W W' : World} {p : Addr} {u : Value} (h : W.cell? p = some u) (g : Gr W W') : W'.cell? p = some u := (g.below.cell (p := p) (World.block_lt_of_cell? W p h)).trans h
theorem far_cell {W : World} {p : Addr} {u x : Value} {D i : Nat} (h : W.cell? p = some u) (hne : p.block ≠ D) : (W.setCell ⟨D, i, none⟩ x).cell? p = some u := (World.cell?_of_block (a := p) (Below.heap_setCell W _ x p.block hne)).trans h
theorem keep4 {W W' : World} {p1 p2 p3 p4 : Addr} {u1 u2 u3 u4 : Value} (h : W.cell? p1 = some u1 ∧ W.cell? p2 = some u2 ∧ W.cell? p3 = some u3 ∧ W.cell? p4 = some u4) (g : Gr W W') : W'.cell? p1 = some u1 ∧ W'.cell? p2 = some u2 ∧ W'.cell? p3 = some u3 ∧ W'.cell? p4 = some u4 :=
  ⟨gr_cell h.1 g, gr_cell h.2.1 g, gr_cell h.2.2.1 g, gr_cell h.2.2.2 g⟩
theorem far4 {W : World} {p1 p2 p3 p4 : Addr} {u1 u2 u3 u4 x : Value} {D i : Nat} (h : W.cell? p1 = some u1 ∧ W.cell? p2 = some u2 ∧ W.cell? p3 = some u3 ∧ W.cell? p4 = some u4) (h1 : p1.block ≠ D) (h2 : p2.block ≠ D) (h3 : p3.block ≠ D) (h4 : p4.block ≠ D) : (W.setCell ⟨D, i, none⟩ x).cell? p1 = some u1 ∧ (W.setCell ⟨D, i, none⟩ x).cell? p2 = some u2 ∧ (W.setCell ⟨D, i, none⟩ x).cell? p3 = some u3 ∧ (W.setCell ⟨D, i, none⟩ x).cell? p4 = some u4 :=
  ⟨far_cell h.1 h1, far_cell h.2.1 h2, far_cell h.2.2.1 h3, far_cell h.2.2.2 h4⟩

end Go.Proofs.Ytjiecjpepiknmaa
