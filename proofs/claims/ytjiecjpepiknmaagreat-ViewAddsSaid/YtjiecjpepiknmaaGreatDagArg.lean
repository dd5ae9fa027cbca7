/-
  Events, lists of them, and what events are made of, as they are handed in.
-/
import Derived.Test.YtjiecjpepiknmaaGreatDagMk
import Derived.Test.YtjiecjpepiknmaaGreatSOpen
namespace Go.Proofs.YtjiecjpepiknmaaGreat
set_option maxRecDepth 20000
open Go.Joins Go.ChangeShapes Go.WideShapes Go.RowKit Go.Deep
set_option linter.unusedVariables false
set_option linter.unusedSimpArgs false

/-- What an event is made of, and where the numbers of its parents lie. -/
structure GV where
  g : Gp
  A : Option Addr
  cap : Nat
def GV.pv (x : GV) : Value := .slice x.A x.g.parents.length x.cap
def GV.cells (x : GV) : List Value := [.int .i64 x.g.user, .int .i64 x.g.does, x.pv, .int .i64 x.g.thread]
def LG : Lies GV := ⟨134, 4, GV.cells, fun _ => rfl, fun x u hu => by
  simp only [GV.cells, GV.pv, List.mem_cons, List.not_mem_nil, or_false] at hu
  rcases hu with rfl | rfl | rfl | rfl <;> rfl⟩
def i64B (n : Int) : Prop := -9223372036854775808 ≤ n ∧ n ≤ 9223372036854775807
def GV.at (x : GV) (w : World) : Prop := LI.Slice w x.pv x.g.parents ∧ i64B x.g.user ∧ i64B x.g.does ∧ i64B x.g.thread ∧ ∀ p ∈ x.g.parents, i64B p
def GsS (w : World) (v : Value) (gs : List GV) : Prop := LG.Slice w v gs ∧ ∀ x ∈ gs, x.at w
theorem GV.at.below {x : GV} {w w' : World} (h : x.at w) (hb : Below w.heap.size w w') : x.at w' := ⟨h.1.below hb, h.2⟩
theorem GsS.below {w w' : World} {v : Value} {gs : List GV} (h : GsS w v gs) (hb : Below w.heap.size w w') : GsS w' v gs := ⟨h.1.below hb, fun x hx => (h.2 x hx).below hb⟩

section
variable {H : Type} {enc : TypeId × Value → H} {w : World} {base : Nat} {spare : Nat → Bool} {held : Bool}
theorem open_texts {fuel : Nat} {cs : List Value} {x : DataW H × List MemPlace} (hf : DataW.trod enc Tryz.prog w base spare held fuel 31 cs = some x) :
    ∃ A cap xs, cs = [.slice A xs.length cap] ∧ LT.Slice w (.slice A xs.length cap) xs ∧ ∀ y ∈ xs, y.size ≤ maxLen :=
  open_lies (L := LT) (ok := fun y => y.size ≤ maxLen) ⟨#[]⟩ Tryz.underlying31 (by kernel_rfl) (by decide) (fun fuel cs x hl ht => by
    obtain ⟨s, e, _, hw⟩ := DataW.trod_string Tryz.underlying9 ht
    exact ⟨s, e, hw⟩) hf
theorem open_nums {fuel : Nat} {cs : List Value} {x : DataW H × List MemPlace} (hf : DataW.trod enc Tryz.prog w base spare held fuel 24 cs = some x) :
    ∃ A cap xs, cs = [.slice A xs.length cap] ∧ LI.Slice w (.slice A xs.length cap) xs ∧ ∀ y ∈ xs, i64B y :=
  open_lies (L := LI) (ok := i64B) 0 Tryz.underlying24 (by kernel_rfl) (by decide) (fun fuel cs x hl ht => by
    obtain ⟨s, e, _, hw⟩ := DataW.trod_int Tryz.underlying3 ht
    exact ⟨s, e, bounds_i64 hw⟩) hf
theorem ev_of_cells {f0 f1 f2 f3 f4 f5 : Field} {fuel : Nat} {cs : List Value} {x : DataW H × List MemPlace} (hs : Tryz.prog.underlying 33 = some (.struct #[f0, f1, f2, f3, f4, f5])) (hone : oneCellFields Tryz.prog #[f0, f1, f2, f3, f4, f5] = true) (hl : cs.length = 6)
    (u0 : f0.type = 9) (u1 : f1.type = 9) (u2 : f2.type = 31) (u3 : f3.type = 9) (u4 : f4.type = 9) (u5 : Tryz.prog.underlying f5.type = some (.int .i64))
    (hf : DataW.trod enc Tryz.prog w base spare held fuel 33 cs = some x) : ∃ y : EvV, cs = LV.cl y ∧ y.at w := by
  match cs, hl with
  | [c0, c1, c2, c3, c4, c5], _ =>
    obtain ⟨xs, n, _, hx, _, hlen, hg⟩ := DataW.trod_struct hs hf
    obtain ⟨o0, k0⟩ := hone_of hone 0 f0 rfl
    obtain ⟨o1, k1⟩ := hone_of hone 1 f1 rfl
    obtain ⟨o2, k2⟩ := hone_of hone 2 f2 rfl
    obtain ⟨o3, k3⟩ := hone_of hone 3 f3 rfl
    obtain ⟨o4, k4⟩ := hone_of hone 4 f4 rfl
    obtain ⟨o5, k5⟩ := hone_of hone 5 f5 rfl
    match xs, hlen with
    | [y0, y1, y2, y3, y4, y5], _ =>
      have t0 : DataW.trod enc Tryz.prog w base spare held n f0.type [c0] = some y0 := by simpa [o0, k0] using hg 0 f0 rfl
      have t1 : DataW.trod enc Tryz.prog w base spare held n f1.type [c1] = some y1 := by simpa [o1, k1] using hg 1 f1 rfl
      have t2 : DataW.trod enc Tryz.prog w base spare held n f2.type [c2] = some y2 := by simpa [o2, k2] using hg 2 f2 rfl
      have t3 : DataW.trod enc Tryz.prog w base spare held n f3.type [c3] = some y3 := by simpa [o3, k3] using hg 3 f3 rfl
      have t4 : DataW.trod enc Tryz.prog w base spare held n f4.type [c4] = some y4 := by simpa [o4, k4] using hg 4 f4 rfl
      have t5 : DataW.trod enc Tryz.prog w base spare held n f5.type [c5] = some y5 := by simpa [o5, k5] using hg 5 f5 rfl
      rw [u0] at t0
      rw [u1] at t1
      rw [u2] at t2
      rw [u3] at t3
      rw [u4] at t4
      obtain ⟨x0, e0, _, w0⟩ := DataW.trod_string Tryz.underlying9 t0
      obtain ⟨x1, e1, _, w1⟩ := DataW.trod_string Tryz.underlying9 t1
      obtain ⟨A, cap, ps, e2, s2, w2⟩ := open_texts t2
      obtain ⟨x3, e3, _, w3⟩ := DataW.trod_string Tryz.underlying9 t3
      obtain ⟨x4, e4, _, w4⟩ := DataW.trod_string Tryz.underlying9 t4
      obtain ⟨x5, e5, _, w5⟩ := DataW.trod_int u5 t5
      simp only [List.cons.injEq, and_true] at e0 e1 e2 e3 e4 e5
      subst e0 e1 e2 e3 e4 e5
      exact ⟨⟨⟨x0, x1, ps, x3, x4, x5⟩, A, cap⟩, rfl, s2, w0, w1, w3, w4, w2, bounds_i64 w5⟩
theorem g_of_cells {f0 f1 f2 f3 : Field} {fuel : Nat} {cs : List Value} {x : DataW H × List MemPlace} (hs : Tryz.prog.underlying 134 = some (.struct #[f0, f1, f2, f3])) (hone : oneCellFields Tryz.prog #[f0, f1, f2, f3] = true) (hl : cs.length = 4)
    (u0 : f0.type = 3) (u1 : f1.type = 3) (u2 : f2.type = 24) (u3 : f3.type = 3)
    (hf : DataW.trod enc Tryz.prog w base spare held fuel 134 cs = some x) : ∃ y : GV, cs = LG.cl y ∧ y.at w := by
  match cs, hl with
  | [c0, c1, c2, c3], _ =>
    obtain ⟨xs, n, _, hx, _, hlen, hg⟩ := DataW.trod_struct hs hf
    obtain ⟨o0, k0⟩ := hone_of hone 0 f0 rfl
    obtain ⟨o1, k1⟩ := hone_of hone 1 f1 rfl
    obtain ⟨o2, k2⟩ := hone_of hone 2 f2 rfl
    obtain ⟨o3, k3⟩ := hone_of hone 3 f3 rfl
    match xs, hlen with
    | [y0, y1, y2, y3], _ =>
      have t0 : DataW.trod enc Tryz.prog w base spare held n f0.type [c0] = some y0 := by simpa [o0, k0] using hg 0 f0 rfl
      have t1 : DataW.trod enc Tryz.prog w base spare held n f1.type [c1] = some y1 := by simpa [o1, k1] using hg 1 f1 rfl
      have t2 : DataW.trod enc Tryz.prog w base spare held n f2.type [c2] = some y2 := by simpa [o2, k2] using hg 2 f2 rfl
      have t3 : DataW.trod enc Tryz.prog w base spare held n f3.type [c3] = some y3 := by simpa [o3, k3] using hg 3 f3 rfl
      rw [u0] at t0
      rw [u1] at t1
      rw [u2] at t2
      rw [u3] at t3
      obtain ⟨x0, e0, _, w0⟩ := DataW.trod_int Tryz.underlying3 t0
      obtain ⟨x1, e1, _, w1⟩ := DataW.trod_int Tryz.underlying3 t1
      obtain ⟨A, cap, ps, e2, s2, w2⟩ := open_nums t2
      obtain ⟨x3, e3, _, w3⟩ := DataW.trod_int Tryz.underlying3 t3
      simp only [List.cons.injEq, and_true] at e0 e1 e2 e3
      subst e0 e1 e2 e3
      exact ⟨⟨⟨x0, x1, ps, x3⟩, A, cap⟩, rfl, s2, bounds_i64 w0, bounds_i64 w1, bounds_i64 w3, w2⟩
/-- A slice of events. -/
theorem open_events {fuel : Nat} {cs : List Value} {x : DataW H × List MemPlace} (hf : DataW.trod enc Tryz.prog w base spare held fuel 23 cs = some x) :
    ∃ A cap xs, cs = [.slice A xs.length cap] ∧ EvsS w (.slice A xs.length cap) xs :=
  open_lies (L := LV) (ok := fun y => y.at w) ⟨⟨⟨#[]⟩, ⟨#[]⟩, [], ⟨#[]⟩, ⟨#[]⟩, 0⟩, none, 0⟩ Tryz.underlying23 (by kernel_rfl) (by decide) (fun fuel cs x hl ht => ev_of_cells Tryz.underlying33 (by kernel_rfl) hl rfl rfl rfl rfl rfl Tryz.underlying3 ht) hf
/-- A slice of what events are made of. -/
theorem open_gs {fuel : Nat} {cs : List Value} {x : DataW H × List MemPlace} (hf : DataW.trod enc Tryz.prog w base spare held fuel 22 cs = some x) :
    ∃ A cap xs, cs = [.slice A xs.length cap] ∧ GsS w (.slice A xs.length cap) xs :=
  open_lies (L := LG) (ok := fun y => y.at w) ⟨⟨0, 0, [], 0⟩, none, 0⟩ Tryz.underlying22 (by kernel_rfl) (by decide) (fun fuel cs x hl ht => g_of_cells Tryz.underlying134 (by kernel_rfl) hl rfl rfl rfl rfl ht) hf
/-- An event. -/
theorem open_event {r : Reach} {b0 : Nat} {v : Value} {d : DataW H} {pl : List MemPlace} (hv : Value.okWide Tryz.prog w r b0 33 v) (h : DataW.Trod enc Tryz.prog w base spare held 33 v d pl) : ∃ y : EvV, v = y.val ∧ y.at w := by
  obtain ⟨cs, rfl, hsz⟩ := okWide_struct Tryz.underlying33 hv
  obtain ⟨fuel, hf⟩ := h
  obtain ⟨l⟩ := cs
  have hl : l.length = 6 := hsz.trans (by kernel_rfl)
  obtain ⟨y, he, hy⟩ := ev_of_cells (cs := l) Tryz.underlying33 (by kernel_rfl) hl rfl rfl rfl rfl rfl Tryz.underlying3 (by simpa [Value.cells] using hf)
  subst he
  exact ⟨y, rfl, hy⟩
/-- A position. -/
theorem open_pos {f0 f1 : Field} {r : Reach} {b0 : Nat} {v : Value} {d : DataW H} {pl : List MemPlace} (hs : Tryz.prog.underlying 55 = some (.struct #[f0, f1])) (hone : oneCellFields Tryz.prog #[f0, f1] = true) (u0 : f0.type = 3) (u1 : f1.type = 9) (hv : Value.okWide Tryz.prog w r b0 55 v) (h : DataW.Trod enc Tryz.prog w base spare held 55 v d pl) : ∃ p : Po, v = p.val ∧ i64B p.depth ∧ p.id.size ≤ maxLen := by
  obtain ⟨cs, rfl, hsz⟩ := okWide_struct hs hv
  obtain ⟨l⟩ := cs
  have hl : l.length = 2 := hsz.trans (by kernel_rfl)
  match l, hl with
  | [c0, c1], _ =>
    obtain ⟨fuel, hf⟩ := h
    obtain ⟨xs, n, _, hx, _, hlen, hg⟩ := DataW.trod_struct hs hf
    obtain ⟨o0, k0⟩ := hone_of hone 0 f0 rfl
    obtain ⟨o1, k1⟩ := hone_of hone 1 f1 rfl
    match xs, hlen with
    | [y0, y1], _ =>
      have t0 : DataW.trod enc Tryz.prog w base spare held n f0.type [c0] = some y0 := by simpa [Value.cells, o0, k0] using hg 0 f0 rfl
      have t1 : DataW.trod enc Tryz.prog w base spare held n f1.type [c1] = some y1 := by simpa [Value.cells, o1, k1] using hg 1 f1 rfl
      rw [u0] at t0
      rw [u1] at t1
      obtain ⟨x0, e0, _, w0⟩ := DataW.trod_int Tryz.underlying3 t0
      obtain ⟨x1, e1, _, w1⟩ := DataW.trod_string Tryz.underlying9 t1
      simp only [List.cons.injEq, and_true] at e0 e1
      subst e0 e1
      exact ⟨⟨x0, x1⟩, rfl, bounds_i64 w0, w1⟩
theorem open_position {r : Reach} {b0 : Nat} {v : Value} {d : DataW H} {pl : List MemPlace} (hv : Value.okWide Tryz.prog w r b0 55 v) (h : DataW.Trod enc Tryz.prog w base spare held 55 v d pl) : ∃ p : Po, v = p.val ∧ i64B p.depth ∧ p.id.size ≤ maxLen := open_pos Tryz.underlying55 (by kernel_rfl) rfl rfl hv h
end
end Go.Proofs.YtjiecjpepiknmaaGreat
