/-
  Arguments; what a dag of the code keeps to; Made's memory.
-/
import Derived.Test.YtfbfdkibdjinaaaGreatDoorB0
import Derived.Lib.SmallJoins
import Derived.Deep.Slices
import Derived.Deep.Fields
import Derived.ChangeSame
import Derived.OpenShut
import Derived.ProofKit
import Derived.Test.YtfbfdkibdjinaaaGreatDoorB7
namespace Go.Proofs.YtfbfdkibdjinaaaGreatDoor
open Go.Joins Go.ChangeShapes Go.WideShapes Go.RowKit Go.Deep
set_option linter.unusedVariables false
set_option linter.unusedSimpArgs false

section
variable {H : Type} {enc : TypeId × Value → H} {P : Program} {w : World} {base : Nat} {spare : Nat → Bool} {held : Bool} {α : Type}
theorem lies_vs_at {L : Lies α} : ∀ {xs : List α} {q : Nat} {u : Value}, 0 < L.c → (L.vs xs)[q]? = some u → ∃ i j y, q = i * L.c + j ∧ xs[i]? = some y ∧ (L.cl y)[j]? = some u
  | [], q, u, _, h => by simp [Lies.vs] at h
  | x :: xs, q, u, hp, h => by
    rw [L.vs_cons] at h
    by_cases hq : q < L.c
    · rw [List.getElem?_append_left (by rw [L.len]; exact hq)] at h
      exact ⟨0, q, x, by omega, rfl, h⟩
    · rw [List.getElem?_append_right (by rw [L.len]; omega), L.len] at h
      obtain ⟨i, j, y, h1, h2, h3⟩ := lies_vs_at hp h
      exact ⟨i + 1, j, y, by rw [Nat.succ_mul]; omega, h2, h3⟩
/-- A slice of such things that is handed in. -/
theorem open_lies {L : Lies α} {ok : α → Prop} (dflt : α) {t : TypeId} {fuel : Nat} {cs : List Value} {x : DataW H × List MemPlace} (ht : P.underlying t = some (.slice L.e)) (hC : P.cellsOf L.e = L.c) (hp : 0 < L.c)
    (rd : ∀ (fuel : Nat) (cs : List Value) (x : DataW H × List MemPlace), cs.length = L.c → DataW.trod enc P w base spare held fuel L.e cs = some x → ∃ y, cs = L.cl y ∧ ok y)
    (hf : DataW.trod enc P w base spare held fuel t cs = some x) : ∃ A cap xs, cs = [.slice A xs.length cap] ∧ L.Slice w (.slice A xs.length cap) xs ∧ ∀ y ∈ xs, ok y := by
  rcases open_slice ht hf with ⟨hcs, _⟩ | ⟨a, l, c, m, n, D, Pl, hcs, _, hl, hm, hmm, _, hi⟩
  · exact ⟨none, 0, [], hcs, Lies.Slice.nil w, fun y hy => (List.not_mem_nil hy).elim⟩
  · have hml : l ≤ m := by rw [hmm]; split <;> omega
    have hone' : ∀ i, ∃ e : α, i < l → ok e ∧ ∀ j u, (L.cl e)[j]? = some u → w.cell? ((a.add (i * L.c)).add j) = some u := by
      intro i
      by_cases hil : i < l
      · obtain ⟨cs', hc, ht'⟩ := hi i (by omega)
        rw [hC] at hc
        obtain ⟨_, hcl, hat⟩ := World.cells?_some hc
        obtain ⟨e, rfl, hw⟩ := rd _ _ _ hcl ht'
        refine ⟨e, fun _ => ⟨hw, fun j u hu => ?_⟩⟩
        have hj : j < L.c := by have := (List.getElem?_eq_some_iff.1 hu).1; rw [hcl] at this; exact this
        rw [hat j hj, hu]
      · exact ⟨dflt, fun h => absurd h hil⟩
    obtain ⟨f, hf'⟩ := Classical.axiomOfChoice hone'
    have hlen : ((List.range l).map f).length = l := by simp
    have hget : ∀ i e, ((List.range l).map f)[i]? = some e → i < l ∧ e = f i := by
      intro i e he
      rw [List.getElem?_map] at he
      have hil : i < l := by
        rcases Nat.lt_or_ge i l with h | h
        · exact h
        · rw [List.getElem?_eq_none (by simpa using h)] at he
          cases he
      rw [List.getElem?_range hil] at he
      injection he with he
      exact ⟨hil, he.symm⟩
    refine ⟨some a, c, (List.range l).map f, by rw [hlen]; exact hcs, ⟨some a, c, rfl, by rw [hlen]; exact hl, hm, (fun h => by cases h), fun h0 => ?_⟩, ?_⟩
    · rw [hlen] at h0
      obtain ⟨b, off, spot⟩ := a
      have hc0 : ∃ u, (L.cl (f 0))[0]? = some u := ⟨_, List.getElem?_eq_getElem (by rw [L.len]; exact hp)⟩
      obtain ⟨u0, hu0⟩ := hc0
      have h00 := (hf' 0 h0).2 0 u0 hu0
      have hspot : spot = none := by simpa [Addr.add] using World.cell?_spot h00
      subst hspot
      refine ⟨b, off, rfl, ?_, fun q u hu => ?_⟩
      · have := World.block_lt_of_cell? w _ h00
        simpa [Addr.add] using this
      · obtain ⟨i, j, y, rfl, hy, hu'⟩ := lies_vs_at hp hu
        obtain ⟨hil, rfl⟩ := hget i y hy
        have := (hf' i hil).2 j u hu'
        rw [Go.WideShapes.add_plain, Go.WideShapes.add_plain, Nat.add_assoc] at this
        exact this
    · intro e he
      obtain ⟨i, hi', rfl⟩ := List.mem_map.1 he
      exact (hf' i (List.mem_range.1 hi')).1
end
end Go.Proofs.YtfbfdkibdjinaaaGreatDoor

namespace Go.Proofs.YtfbfdkibdjinaaaGreatDoor
set_option maxRecDepth 20000
open Go.Joins Go.ChangeShapes Go.WideShapes Go.RowKit Go.Deep
set_option linter.unusedVariables false
set_option linter.unusedSimpArgs false

/-- What an event is made of, and where the numbers of its parents lie. -/
structure GV where
  g : Gp
  A : Option Addr
  cap : Nat
def GV.pv (x : GV) : Value := .slice x.A x.g.parents.length x.cap
def GV.cells (x : GV) : List Value := [.int .i64 x.g.user, .int .i64 x.g.does, x.pv, .int .i64 x.g.thread]
def LG : Lies GV := ⟨98, 4, GV.cells, fun _ => rfl, fun x u hu => by
  simp only [GV.cells, GV.pv, List.mem_cons, List.not_mem_nil, or_false] at hu
  rcases hu with rfl | rfl | rfl | rfl <;> rfl⟩
def i64B (n : Int) : Prop := -9223372036854775808 ≤ n ∧ n ≤ 9223372036854775807
def GV.at (x : GV) (w : World) : Prop := LI.Slice w x.pv x.g.parents ∧ i64B x.g.user ∧ i64B x.g.does ∧ i64B x.g.thread ∧ ∀ p ∈ x.g.parents, i64B p
def GsS (w : World) (v : Value) (gs : List GV) : Prop := LG.Slice w v gs ∧ ∀ x ∈ gs, x.at w
theorem GV.at.below {x : GV} {w w' : World} (h : x.at w) (hb : Below w.heap.size w w') : x.at w' := ⟨h.1.below hb, h.2⟩
theorem GsS.below {w w' : World} {v : Value} {gs : List GV} (h : GsS w v gs) (hb : Below w.heap.size w w') : GsS w' v gs := ⟨h.1.below hb, fun x hx => (h.2 x hx).below hb⟩

section
variable {H : Type} {enc : TypeId × Value → H} {w : World} {base : Nat} {spare : Nat → Bool} {held : Bool}
theorem open_texts {fuel : Nat} {cs : List Value} {x : DataW H × List MemPlace} (hf : DataW.trod enc Tryz.prog w base spare held fuel 39 cs = some x) :
    ∃ A cap xs, cs = [.slice A xs.length cap] ∧ LT.Slice w (.slice A xs.length cap) xs ∧ ∀ y ∈ xs, y.size ≤ maxLen :=
  open_lies (L := LT) (ok := fun y => y.size ≤ maxLen) ⟨#[]⟩ Tryz.underlying39 (by kernel_rfl) (by decide) (fun fuel cs x hl ht => by
    obtain ⟨s, e, _, hw⟩ := DataW.trod_string Tryz.underlying9 ht
    exact ⟨s, e, hw⟩) hf
theorem open_nums {fuel : Nat} {cs : List Value} {x : DataW H × List MemPlace} (hf : DataW.trod enc Tryz.prog w base spare held fuel 96 cs = some x) :
    ∃ A cap xs, cs = [.slice A xs.length cap] ∧ LI.Slice w (.slice A xs.length cap) xs ∧ ∀ y ∈ xs, i64B y :=
  open_lies (L := LI) (ok := i64B) 0 Tryz.underlying96 (by kernel_rfl) (by decide) (fun fuel cs x hl ht => by
    obtain ⟨s, e, _, hw⟩ := DataW.trod_int Tryz.underlying3 ht
    exact ⟨s, e, bounds_i64 hw⟩) hf
theorem ev_of_cells {f0 f1 f2 f3 f4 f5 : Field} {fuel : Nat} {cs : List Value} {x : DataW H × List MemPlace} (hs : Tryz.prog.underlying 45 = some (.struct #[f0, f1, f2, f3, f4, f5])) (hone : oneCellFields Tryz.prog #[f0, f1, f2, f3, f4, f5] = true) (hl : cs.length = 6)
    (u0 : f0.type = 9) (u1 : f1.type = 9) (u2 : f2.type = 39) (u3 : f3.type = 9) (u4 : f4.type = 9) (u5 : Tryz.prog.underlying f5.type = some (.int .i64))
    (hf : DataW.trod enc Tryz.prog w base spare held fuel 45 cs = some x) : ∃ y : EvV, cs = LV.cl y ∧ y.at w := by
  match cs, hl with
  | [c0, c1, c2, c3, c4, c5], _ =>
    obtain ⟨xs, n, _, hx, _, hlen, hg⟩ := DataW.trod_struct hs hf
    obtain ⟨o0, k0⟩ := hone_of hone 0 f0 rfl
    obtain ⟨o1, k1⟩ := hone_of hone 1 f1 rfl
    obtain ⟨o2, k2⟩ := hone_of hone 2 f2 rfl
    obtain ⟨o3, k3⟩ := hone_of hone 3 f3 rfl
    obtain ⟨o4, k4⟩ := hone_of hone 4 f4 rfl
    obtain ⟨o5, k5⟩ := hone_of hone 5 f5 rfl
    match xs, hlen with
    | [y0, y1, y2, y3, y4, y5], _ =>
      have t0 : DataW.trod enc Tryz.prog w base spare held n f0.type [c0] = some y0 := by simpa [o0, k0] using hg 0 f0 rfl
      have t1 : DataW.trod enc Tryz.prog w base spare held n f1.type [c1] = some y1 := by simpa [o1, k1] using hg 1 f1 rfl
      have t2 : DataW.trod enc Tryz.prog w base spare held n f2.type [c2] = some y2 := by simpa [o2, k2] using hg 2 f2 rfl
      have t3 : DataW.trod enc Tryz.prog w base spare held n f3.type [c3] = some y3 := by simpa [o3, k3] using hg 3 f3 rfl
      have t4 : DataW.trod enc Tryz.prog w base spare held n f4.type [c4] = some y4 := by simpa [o4, k4] using hg 4 f4 rfl
      have t5 : DataW.trod enc Tryz.prog w base spare held n f5.type [c5] = some y5 := by simpa [o5, k5] using hg 5 f5 rfl
      rw [u0] at t0
      rw [u1] at t1
      rw [u2] at t2
      rw [u3] at t3
      rw [u4] at t4
      obtain ⟨x0, e0, _, w0⟩ := DataW.trod_string Tryz.underlying9 t0
      obtain ⟨x1, e1, _, w1⟩ := DataW.trod_string Tryz.underlying9 t1
      obtain ⟨A, cap, ps, e2, s2, w2⟩ := open_texts t2
      obtain ⟨x3, e3, _, w3⟩ := DataW.trod_string Tryz.underlying9 t3
      obtain ⟨x4, e4, _, w4⟩ := DataW.trod_string Tryz.underlying9 t4
      obtain ⟨x5, e5, _, w5⟩ := DataW.trod_int u5 t5
      simp only [List.cons.injEq, and_true] at e0 e1 e2 e3 e4 e5
      subst e0 e1 e2 e3 e4 e5
      exact ⟨⟨⟨x0, x1, ps, x3, x4, x5⟩, A, cap⟩, rfl, s2, w0, w1, w3, w4, w2, bounds_i64 w5⟩
theorem g_of_cells {f0 f1 f2 f3 : Field} {fuel : Nat} {cs : List Value} {x : DataW H × List MemPlace} (hs : Tryz.prog.underlying 98 = some (.struct #[f0, f1, f2, f3])) (hone : oneCellFields Tryz.prog #[f0, f1, f2, f3] = true) (hl : cs.length = 4)
    (u0 : f0.type = 3) (u1 : f1.type = 3) (u2 : f2.type = 96) (u3 : f3.type = 3)
    (hf : DataW.trod enc Tryz.prog w base spare held fuel 98 cs = some x) : ∃ y : GV, cs = LG.cl y ∧ y.at w := by
  match cs, hl with
  | [c0, c1, c2, c3], _ =>
    obtain ⟨xs, n, _, hx, _, hlen, hg⟩ := DataW.trod_struct hs hf
    obtain ⟨o0, k0⟩ := hone_of hone 0 f0 rfl
    obtain ⟨o1, k1⟩ := hone_of hone 1 f1 rfl
    obtain ⟨o2, k2⟩ := hone_of hone 2 f2 rfl
    obtain ⟨o3, k3⟩ := hone_of hone 3 f3 rfl
    match xs, hlen with
    | [y0, y1, y2, y3], _ =>
      have t0 : DataW.trod enc Tryz.prog w base spare held n f0.type [c0] = some y0 := by simpa [o0, k0] using hg 0 f0 rfl
      have t1 : DataW.trod enc Tryz.prog w base spare held n f1.type [c1] = some y1 := by simpa [o1, k1] using hg 1 f1 rfl
      have t2 : DataW.trod enc Tryz.prog w base spare held n f2.type [c2] = some y2 := by simpa [o2, k2] using hg 2 f2 rfl
      have t3 : DataW.trod enc Tryz.prog w base spare held n f3.type [c3] = some y3 := by simpa [o3, k3] using hg 3 f3 rfl
      rw [u0] at t0
      rw [u1] at t1
      rw [u2] at t2
      rw [u3] at t3
      obtain ⟨x0, e0, _, w0⟩ := DataW.trod_int Tryz.underlying3 t0
      obtain ⟨x1, e1, _, w1⟩ := DataW.trod_int Tryz.underlying3 t1
      obtain ⟨A, cap, ps, e2, s2, w2⟩ := open_nums t2
      obtain ⟨x3, e3, _, w3⟩ := DataW.trod_int Tryz.underlying3 t3
      simp only [List.cons.injEq, and_true] at e0 e1 e2 e3
      subst e0 e1 e2 e3
      exact ⟨⟨⟨x0, x1, ps, x3⟩, A, cap⟩, rfl, s2, bounds_i64 w0, bounds_i64 w1, bounds_i64 w3, w2⟩
/-- A slice of events. -/
theorem open_events {fuel : Nat} {cs : List Value} {x : DataW H × List MemPlace} (hf : DataW.trod enc Tryz.prog w base spare held fuel 24 cs = some x) :
    ∃ A cap xs, cs = [.slice A xs.length cap] ∧ EvsS w (.slice A xs.length cap) xs :=
  open_lies (L := LV) (ok := fun y => y.at w) ⟨⟨⟨#[]⟩, ⟨#[]⟩, [], ⟨#[]⟩, ⟨#[]⟩, 0⟩, none, 0⟩ Tryz.underlying24 (by kernel_rfl) (by decide) (fun fuel cs x hl ht => ev_of_cells Tryz.underlying45 (by kernel_rfl) hl rfl rfl rfl rfl rfl Tryz.underlying3 ht) hf
/-- A slice of what events are made of. -/
theorem open_gs {fuel : Nat} {cs : List Value} {x : DataW H × List MemPlace} (hf : DataW.trod enc Tryz.prog w base spare held fuel 22 cs = some x) :
    ∃ A cap xs, cs = [.slice A xs.length cap] ∧ GsS w (.slice A xs.length cap) xs :=
  open_lies (L := LG) (ok := fun y => y.at w) ⟨⟨0, 0, [], 0⟩, none, 0⟩ Tryz.underlying22 (by kernel_rfl) (by decide) (fun fuel cs x hl ht => g_of_cells Tryz.underlying98 (by kernel_rfl) hl rfl rfl rfl rfl ht) hf
/-- An event. -/
theorem open_event {r : Reach} {b0 : Nat} {v : Value} {d : DataW H} {pl : List MemPlace} (hv : Value.okWide Tryz.prog w r b0 45 v) (h : DataW.Trod enc Tryz.prog w base spare held 45 v d pl) : ∃ y : EvV, v = y.val ∧ y.at w := by
  obtain ⟨cs, rfl, hsz⟩ := okWide_struct Tryz.underlying45 hv
  obtain ⟨fuel, hf⟩ := h
  obtain ⟨l⟩ := cs
  have hl : l.length = 6 := hsz.trans (by kernel_rfl)
  obtain ⟨y, he, hy⟩ := ev_of_cells (cs := l) Tryz.underlying45 (by kernel_rfl) hl rfl rfl rfl rfl rfl Tryz.underlying3 (by simpa [Value.cells] using hf)
  subst he
  exact ⟨y, rfl, hy⟩
/-- A position. -/
theorem open_pos {f0 f1 : Field} {r : Reach} {b0 : Nat} {v : Value} {d : DataW H} {pl : List MemPlace} (hs : Tryz.prog.underlying 47 = some (.struct #[f0, f1])) (hone : oneCellFields Tryz.prog #[f0, f1] = true) (u0 : f0.type = 3) (u1 : f1.type = 9) (hv : Value.okWide Tryz.prog w r b0 47 v) (h : DataW.Trod enc Tryz.prog w base spare held 47 v d pl) : ∃ p : Po, v = p.val ∧ i64B p.depth ∧ p.id.size ≤ maxLen := by
  obtain ⟨cs, rfl, hsz⟩ := okWide_struct hs hv
  obtain ⟨l⟩ := cs
  have hl : l.length = 2 := hsz.trans (by kernel_rfl)
  match l, hl with
  | [c0, c1], _ =>
    obtain ⟨fuel, hf⟩ := h
    obtain ⟨xs, n, _, hx, _, hlen, hg⟩ := DataW.trod_struct hs hf
    obtain ⟨o0, k0⟩ := hone_of hone 0 f0 rfl
    obtain ⟨o1, k1⟩ := hone_of hone 1 f1 rfl
    match xs, hlen with
    | [y0, y1], _ =>
      have t0 : DataW.trod enc Tryz.prog w base spare held n f0.type [c0] = some y0 := by simpa [Value.cells, o0, k0] using hg 0 f0 rfl
      have t1 : DataW.trod enc Tryz.prog w base spare held n f1.type [c1] = some y1 := by simpa [Value.cells, o1, k1] using hg 1 f1 rfl
      rw [u0] at t0
      rw [u1] at t1
      obtain ⟨x0, e0, _, w0⟩ := DataW.trod_int Tryz.underlying3 t0
      obtain ⟨x1, e1, _, w1⟩ := DataW.trod_string Tryz.underlying9 t1
      simp only [List.cons.injEq, and_true] at e0 e1
      subst e0 e1
      exact ⟨⟨x0, x1⟩, rfl, bounds_i64 w0, w1⟩
theorem open_position {r : Reach} {b0 : Nat} {v : Value} {d : DataW H} {pl : List MemPlace} (hv : Value.okWide Tryz.prog w r b0 47 v) (h : DataW.Trod enc Tryz.prog w base spare held 47 v d pl) : ∃ p : Po, v = p.val ∧ i64B p.depth ∧ p.id.size ≤ maxLen := open_pos Tryz.underlying47 (by kernel_rfl) rfl rfl hv h
end
end Go.Proofs.YtfbfdkibdjinaaaGreatDoor

namespace Go.Proofs.YtfbfdkibdjinaaaGreatDoor
set_option maxRecDepth 20000
open Go.RowKit
set_option linter.unusedVariables false
set_option linter.unusedSimpArgs false

/-- A list stays where its block stays. -/
theorem Lies.Slice.stay0 {α : Type} {L : Lies α} {w w' : World} {v : Value} {xs : List α} (h : L.Slice w v xs) (hs : w.heap.size ≤ w'.heap.size) (hb : ∀ k, k < w.heap.size → 0 < xs.length → v.ownBlock = some k → w'.heap[k]? = w.heap[k]?) : L.Slice w' v xs := by
  obtain ⟨A, cap, rfl, h1, h2, h3, h4⟩ := h
  refine ⟨A, cap, rfl, h1, h2, h3, fun h0 => ?_⟩
  obtain ⟨b, off, rfl, hl, hr⟩ := h4 h0
  refine ⟨b, off, rfl, Nat.lt_of_lt_of_le hl hs, fun j u hu => ?_⟩
  exact (World.cell?_of_block (a := ⟨b, off + j, none⟩) (hb b hl h0 rfl)).trans (hr j u hu)
theorem Lies.Slice.stay {α : Type} {L : Lies α} {w w' : World} {v : Value} {xs : List α} (h : L.Slice w v xs) (hs : w.heap.size ≤ w'.heap.size) (hb : ∀ k, k < w.heap.size → v.ownBlock = some k → w'.heap[k]? = w.heap[k]?) : L.Slice w' v xs :=
  h.stay0 hs (fun k hk _ hv => hb k hk hv)
theorem Lies.Slice.foot {α : Type} {L : Lies α} {w : World} {v : Value} {xs : List α} (h : L.Slice w v xs) {k : Nat} (h0 : 0 < xs.length) (hk : v.ownBlock = some k) : k < w.heap.size := by
  obtain ⟨A, cap, rfl, h1, h2, h3, h4⟩ := h
  obtain ⟨b, off, rfl, hl, hr⟩ := h4 h0
  have h5 : b = k := by simpa [Value.ownBlock] using hk
  rw [← h5]; exact hl
/-- The blocks that an event, a list of events lies in. -/
def footV (x : EvV) (k : Nat) : Prop := 0 < x.ev.parents.length ∧ x.pv.ownBlock = some k
def footE (v : Value) (xs : List EvV) (k : Nat) : Prop := (0 < xs.length ∧ v.ownBlock = some k) ∨ ∃ x ∈ xs, footV x k
theorem EvV.at.foot {x : EvV} {w : World} (h : x.at w) {k : Nat} (hk : footV x k) : k < w.heap.size := h.1.foot hk.1 hk.2
theorem EvsS.foot {w : World} {v : Value} {xs : List EvV} (h : EvsS w v xs) {k : Nat} (hk : footE v xs k) : k < w.heap.size := by
  rcases hk with hk | ⟨x, hx, hk⟩
  · exact h.1.foot hk.1 hk.2
  · exact (h.2 x hx).foot hk
theorem EvV.at.stay0 {x : EvV} {w w' : World} (h : x.at w) (hs : w.heap.size ≤ w'.heap.size) (hb : ∀ k, k < w.heap.size → footV x k → w'.heap[k]? = w.heap[k]?) : x.at w' := ⟨h.1.stay0 hs (fun k hk h0 hv => hb k hk ⟨h0, hv⟩), h.2⟩
theorem EvV.at.stay {x : EvV} {w w' : World} (h : x.at w) (hs : w.heap.size ≤ w'.heap.size) (hb : ∀ k, k < w.heap.size → x.pv.ownBlock = some k → w'.heap[k]? = w.heap[k]?) : x.at w' := ⟨h.1.stay hs hb, h.2⟩
theorem EvsS.stay {w w' : World} {v : Value} {xs : List EvV} (h : EvsS w v xs) (hs : w.heap.size ≤ w'.heap.size) (hb : ∀ k, k < w.heap.size → footE v xs k → w'.heap[k]? = w.heap[k]?) : EvsS w' v xs :=
  ⟨h.1.stay0 hs (fun k hk h0 hv => hb k hk (.inl ⟨h0, hv⟩)), fun x hx => (h.2 x hx).stay0 hs (fun k hk hv => hb k hk (.inr ⟨x, hx, hv⟩))⟩
/-- From w to w' only the dag's own blocks have turned, and new ones have come. -/
structure TurnD (own : World → Nat → Nat → Prop) (w w' : World) (g : Nat) : Prop where
  os : w'.os = w.os
  tape : w'.tape = w.tape
  output : w'.output = w.output
  size : w.heap.size ≤ w'.heap.size
  block : ∀ k, k < w.heap.size → ¬ own w g k → w'.heap[k]? = w.heap[k]?
  owns : ∀ k, own w' g k → own w g k ∨ w.heap.size ≤ k
theorem TurnD.trans {own : World → Nat → Nat → Prop} {w w' w'' : World} {g : Nat} (h : TurnD own w w' g) (h' : TurnD own w' w'' g) : TurnD own w w'' g :=
  ⟨h'.os.trans h.os, h'.tape.trans h.tape, h'.output.trans h.output, Nat.le_trans h.size h'.size,
   fun k hk ho => (h'.block k (Nat.lt_of_lt_of_le hk h.size) (fun hh => by rcases h.owns k hh with hh | hh; exact ho hh; omega)).trans (h.block k hk ho),
   fun k hk => by
    rcases h'.owns k hk with hh | hh
    · exact h.owns k hh
    · exact .inr (Nat.le_trans h.size hh)⟩
theorem TurnD.below {own : World → Nat → Nat → Prop} {w w' : World} {g B : Nat} (h : TurnD own w w' g) (hf : ∀ k, own w g k → B ≤ k) (hB : B ≤ w.heap.size) : Below B w w' :=
  ⟨h.os, h.tape, h.output, h.size, fun k hk => h.block k (Nat.lt_of_lt_of_le hk hB) (fun ho => by have := hf k ho; omega)⟩
/-- What is told is new memory, and not the dag's. -/
def ToldD (own : World → Nat → Nat → Prop) (w : World) (g : Nat) (v : Value) : Prop := ∀ k, v.ownBlock = some k → ¬ own w g k

structure Dags where
  CD : World → Nat → ByteArray → List Ev → Prop
  own : World → Nat → Nat → Prop
  old : ∀ {w g room l k}, CD w g room l → own w g k → k < w.heap.size
  valid : ∀ {w g room l}, CD w g room l → Valid room l
  keep : ∀ {w w' : World} {g room l}, CD w g room l → w.heap.size ≤ w'.heap.size → (∀ k, own w g k → w'.heap[k]? = w.heap[k]?) → CD w' g room l ∧ ∀ k, own w' g k → own w g k
  new : ∀ w (room : ByteArray), room.size ≤ maxLen → namedB 33 room = true → Calls Tryz.prog 26 #[.string room] w fun e w' => ∃ g, e = .returned (.pointer (some ⟨g, 0, none⟩)) ∧ CD w' g room [] ∧ Below w.heap.size w w' ∧ ∀ k, own w' g k → w.heap.size ≤ k
  add : ∀ {w g room l} (x : EvV), CD w g room l → l.length ≤ 100 → x.at w → Calls Tryz.prog 28 #[.pointer (some ⟨g, 0, none⟩), x.val] w fun e w' => e = .returned (.int .i64 (errA room l x.ev)) ∧ CD w' g room (addA room l x.ev) ∧ TurnD own w w' g
  has : ∀ {w g room l} (k : ByteArray), CD w g room l → l.length ≤ 100 → k.size ≤ maxLen → Calls Tryz.prog 45 #[.pointer (some ⟨g, 0, none⟩), .string k] w fun e w' => e = .returned (.bool (hasE l k)) ∧ CD w' g room l ∧ TurnD own w w' g
  position : ∀ {w g room l} (k : ByteArray), CD w g room l → l.length ≤ 100 → k.size ≤ maxLen → Calls Tryz.prog 23 #[.pointer (some ⟨g, 0, none⟩), .string k] w fun e w' => ∃ p : Po, e = .returned (.tuple #[p.val, .bool (hasE l k)]) ∧ (hasE l k = true → p = posL l k) ∧ CD w' g room l ∧ TurnD own w w' g
  may : ∀ {w} (x : EvV), x.at w → Calls Tryz.prog 44 #[x.val] w fun e w' => e = .returned (.bool (mayE x.ev)) ∧ Below w.heap.size w w'
  compare : ∀ {w} (p q : Po), Calls Tryz.prog 24 #[p.val, q.val] w fun e w' => e = .returned (.int .i64 (cmpP p q)) ∧ Below w.heap.size w w'
structure DagAlls (C : Dags) : Prop where
  all : ∀ {w g room l}, C.CD w g room l → l.length ≤ 100 → Calls Tryz.prog 29 #[.pointer (some ⟨g, 0, none⟩)] w fun e w' => ∃ v, e = .returned v ∧ ∃ ys, LV.Mine w' w.heap.size v ys ∧ ToldD C.own w' g v ∧ (∀ y ∈ ys, y.at w' ∧ LT.Mine w' w.heap.size y.pv y.ev.parents ∧ ToldD C.own w' g y.pv) ∧ evs ys = allL l ∧ C.CD w' g room l ∧ TurnD C.own w w' g
variable {C : Dags}
/-- The document's memory beside a dag of the code: it stays, whatever is called. -/
theorem Dags.stays {w w' : World} {g : Nat} {v : Value} {xs : List EvV} (h : EvsS w v xs) (ha : ∀ k, footE v xs k → ¬ C.own w g k) (ht : TurnD C.own w w' g) : EvsS w' v xs ∧ ∀ k, k < w.heap.size → footE v xs k → ¬ C.own w' g k :=
  ⟨h.stay ht.size (fun k hk hf => ht.block k hk (ha k hf)), fun k hk hf ho => by
    rcases ht.owns k ho with hh | hh
    · exact ha k hf hh
    · omega⟩
end Go.Proofs.YtfbfdkibdjinaaaGreatDoor

namespace Go.Proofs.YtfbfdkibdjinaaaGreatDoor
set_option maxRecDepth 20000
open Go.RowKit
set_option linter.unusedVariables false
set_option linter.unusedSimpArgs false

theorem knG : Kn Tryz.prog LG 22 (.agg #[.int .i64 0, .int .i64 0, .slice none 0 0, .int .i64 0]) 48 := ⟨Tryz.underlying22, by kernel_rfl, rfl, by decide⟩
abbrev gps (xs : List GV) : List Gp := xs.map GV.g
/-- While events are made: the answer's block, the dag's block. -/
structure MdS (w wr : World) (B4 B5 : Nat) (room : ByteArray) (v : Value) (xs : List EvV) : Prop where
  ne : B4 ≠ B5
  lo4 : w.heap.size ≤ B4
  lo5 : w.heap.size ≤ B5
  b4 : wr.heap[B4]? = some (.cells #[.string ⟨#[]⟩, .slice none 0 0] 26 (0, 0))
  b5 : wr.heap[B5]? = some (.cells #[.string room, v] 26 (0, 0))
  row : EvsS wr v xs
  below : Below w.heap.size w wr
theorem MdS.on {w wr w2 : World} {B4 B5 : Nat} {room : ByteArray} {v : Value} {xs : List EvV} (h : MdS w wr B4 B5 room v xs) (hb : Below wr.heap.size wr w2) : MdS w w2 B4 B5 room v xs :=
  ⟨h.ne, h.lo4, h.lo5, (hb.block B4 (smem_lt h.b4)).trans h.b4, (hb.block B5 (smem_lt h.b5)).trans h.b5, h.row.below hb, h.below.trans (hb.mono h.below.size)⟩
theorem MdS.start (w : World) (room : ByteArray) : MdS w ((w.alloc (.cells #[.string ⟨#[]⟩, .slice none 0 0] 26)).alloc (.cells #[.string room, .slice none 0 0] 26)) w.heap.size (w.heap.size + 1) room (.slice none 0 0) [] := by
  have s1 : ∀ (u : World) (o : Obj), (u.alloc o).heap.size = u.heap.size + 1 := fun u o => by simp
  refine ⟨by omega, Nat.le_refl _, by omega, ?_, ?_, ⟨Lies.Slice.nil _, fun x hx => absurd hx List.not_mem_nil⟩, ((Gr.refl w).alloc _ |>.alloc _).below⟩
  · rw [heap_alloc_old _ _ (by simp only [s1]; omega)]
    exact heap_alloc_new _ _
  · have := heap_alloc_new (w.alloc (.cells #[.string ⟨#[]⟩, .slice none 0 0] 26)) (.cells #[.string room, .slice none 0 0] 26)
    rw [s1] at this
    exact this

/-- Which of those ahead are parents, of the first n numbers. -/
def onTo (g : Gp) (i n : Nat) : List Bool := (List.range 9).map (fun j => (g.parents.take (min n 3)).any (fun p => decide (aroundN p (i : Int) = j)))
theorem onTo_zero (g : Gp) (i : Nat) : onTo g i 0 = List.replicate 9 false := by
  unfold onTo
  simp only [Nat.zero_min, List.take_zero, List.any_nil]
  rfl
theorem onTo_len (g : Gp) (i n : Nat) : (onTo g i n).length = 9 := by simp [onTo]
theorem onTo_succ {g : Gp} {i n : Nat} {p : Int} (hn : n < 3) (h : g.parents[n]? = some p) (ha : aroundN p (i : Int) < 9) : onTo g i (n + 1) = (onTo g i n).set (aroundN p (i : Int)) true := by
  apply List.ext_getElem?
  intro j
  unfold onTo
  rw [List.getElem?_set, List.getElem?_map, List.getElem?_map, List.length_map, List.length_range, Nat.min_eq_left (by omega), Nat.min_eq_left (by omega), List.take_add_one, h]
  by_cases hj : j < 9
  · rw [List.getElem?_range hj]
    by_cases he : aroundN p (i : Int) = j
    · subst he
      simp [hj]
    · simp [he]
  · rw [List.getElem?_eq_none (by simpa using hj)]
    have : aroundN p (i : Int) ≠ j := by omega
    simp [this]
theorem onTo_all {g : Gp} {i n j : Nat} (hn : n = 3 ∨ n = g.parents.length) (hj : j < 9) (h3 : n ≤ 3) : (onTo g i n)[j]? = some (onP g i j) := by
  unfold onTo onP
  rw [List.getElem?_map, List.getElem?_range hj, Nat.min_eq_left h3]
  simp only [Option.map_some]
  congr 2
  rcases hn with rfl | rfl
  · rfl
  · rw [List.take_length, List.take_of_length_le h3]
/-- Its parents so far. -/
def parsTo (g : Gp) (i k : Nat) : List ByteArray := ((List.range k).filter (onP g i)).map eventK
theorem parsTo_yes {g : Gp} {i k : Nat} (h : onP g i k = true) : parsTo g i (k + 1) = parsTo g i k ++ [eventK k] := by
  unfold parsTo
  rw [List.range_succ, List.filter_append, List.map_append]
  simp [h]
theorem parsTo_no {g : Gp} {i k : Nat} (h : onP g i k = false) : parsTo g i (k + 1) = parsTo g i k := by
  unfold parsTo
  rw [List.range_succ, List.filter_append, List.map_append]
  simp [h]
theorem parsTo_all (g : Gp) (i : Nat) : parsTo g i i = (fromP g i).map eventK := rfl
end Go.Proofs.YtfbfdkibdjinaaaGreatDoor
