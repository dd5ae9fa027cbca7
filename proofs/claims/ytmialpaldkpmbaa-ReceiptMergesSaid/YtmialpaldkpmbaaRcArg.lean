/-
  Marks, and lists of them, as they are handed in.
-/
import Derived.Test.YtmialpaldkpmbaaRcL
import Derived.Test.YtmialpaldkpmbaaSOpen
namespace Go.Proofs.Ytmialpaldkpmbaa
set_option maxRecDepth 20000
open Go.Joins Go.ChangeShapes Go.WideShapes Go.RowKit Go.Deep
set_option linter.unusedVariables false
set_option linter.unusedSimpArgs false
def i64M (n : Int) : Prop := -9223372036854775808 ≤ n ∧ n ≤ 9223372036854775807
def MsS (w : World) (v : Value) (l : List Mk) : Prop := LM.Slice w v l ∧ ∀ m ∈ l, m.fit
section
variable {H : Type} {enc : TypeId × Value → H} {w : World} {base : Nat} {spare : Nat → Bool} {held : Bool}
theorem k_of_cells {f0 f1 f2 f3 : Field} {fuel : Nat} {cs : List Value} {x : DataW H × List MemPlace} (hs : Try.prog.underlying 34 = some (.struct #[f0, f1, f2, f3])) (hone : oneCellFields Try.prog #[f0, f1, f2, f3] = true) (hl : cs.length = 4)
    (u0 : f0.type = 9) (u1 : f1.type = 9) (u2 : f2.type = 9) (u3 : Try.prog.underlying f3.type = some .bool)
    (hf : DataW.trod enc Try.prog w base spare held fuel 34 cs = some x) : ∃ k : Rk, cs = k.cells ∧ k.room.size ≤ maxLen ∧ k.user.size ≤ maxLen ∧ k.thread.size ≤ maxLen := by
  match cs, hl with
  | [c0, c1, c2, c3], _ =>
    obtain ⟨xs, n, _, hx, _, hlen, hg⟩ := DataW.trod_struct hs hf
    obtain ⟨o0, k0⟩ := hone_of hone 0 f0 rfl
    obtain ⟨o1, k1⟩ := hone_of hone 1 f1 rfl
    obtain ⟨o2, k2⟩ := hone_of hone 2 f2 rfl
    obtain ⟨o3, k3⟩ := hone_of hone 3 f3 rfl
    match xs, hlen with
    | [y0, y1, y2, y3], _ =>
      have t0 : DataW.trod enc Try.prog w base spare held n f0.type [c0] = some y0 := by simpa [o0, k0] using hg 0 f0 rfl
      have t1 : DataW.trod enc Try.prog w base spare held n f1.type [c1] = some y1 := by simpa [o1, k1] using hg 1 f1 rfl
      have t2 : DataW.trod enc Try.prog w base spare held n f2.type [c2] = some y2 := by simpa [o2, k2] using hg 2 f2 rfl
      have t3 : DataW.trod enc Try.prog w base spare held n f3.type [c3] = some y3 := by simpa [o3, k3] using hg 3 f3 rfl
      rw [u0] at t0
      rw [u1] at t1
      rw [u2] at t2
      obtain ⟨x0, e0, _, w0⟩ := DataW.trod_string Try.underlying9 t0
      obtain ⟨x1, e1, _, w1⟩ := DataW.trod_string Try.underlying9 t1
      obtain ⟨x2, e2, _, w2⟩ := DataW.trod_string Try.underlying9 t2
      obtain ⟨x3, e3, _⟩ := DataW.trod_bool u3 t3
      simp only [List.cons.injEq, and_true] at e0 e1 e2 e3
      subst e0 e1 e2 e3
      exact ⟨⟨x0, x1, x2, x3⟩, rfl, w0, w1, w2⟩
theorem p_of_cells {f0 f1 : Field} {fuel : Nat} {cs : List Value} {x : DataW H × List MemPlace} (hs : Try.prog.underlying 36 = some (.struct #[f0, f1])) (hone : oneCellFields Try.prog #[f0, f1] = true) (hl : cs.length = 2)
    (u0 : Try.prog.underlying f0.type = some (.int .i64)) (u1 : f1.type = 9)
    (hf : DataW.trod enc Try.prog w base spare held fuel 36 cs = some x) : ∃ p : Po, cs = [.int .i64 p.depth, .string p.id] ∧ i64M p.depth ∧ p.id.size ≤ maxLen := by
  match cs, hl with
  | [c0, c1], _ =>
    obtain ⟨xs, n, _, hx, _, hlen, hg⟩ := DataW.trod_struct hs hf
    obtain ⟨o0, k0⟩ := hone_of hone 0 f0 rfl
    obtain ⟨o1, k1⟩ := hone_of hone 1 f1 rfl
    match xs, hlen with
    | [y0, y1], _ =>
      have t0 : DataW.trod enc Try.prog w base spare held n f0.type [c0] = some y0 := by simpa [o0, k0] using hg 0 f0 rfl
      have t1 : DataW.trod enc Try.prog w base spare held n f1.type [c1] = some y1 := by simpa [o1, k1] using hg 1 f1 rfl
      rw [u1] at t1
      obtain ⟨x0, e0, _, w0⟩ := DataW.trod_int u0 t0
      obtain ⟨x1, e1, _, w1⟩ := DataW.trod_string Try.underlying9 t1
      simp only [List.cons.injEq, and_true] at e0 e1
      subst e0 e1
      exact ⟨⟨x0, x1⟩, rfl, bounds_i64 w0, w1⟩
theorem m_of_cells {f0 f1 : Field} {fuel : Nat} {cs : List Value} {x : DataW H × List MemPlace} (hs : Try.prog.underlying 38 = some (.struct #[f0, f1])) (hl : cs.length = 6)
    (o0 : f0.offset = 0) (o1 : f1.offset = 4) (k0 : Try.prog.cellsOf f0.type = 4) (k1 : Try.prog.cellsOf f1.type = 2) (u0 : f0.type = 34) (u1 : f1.type = 36)
    (hf : DataW.trod enc Try.prog w base spare held fuel 38 cs = some x) : ∃ m : Mk, cs = LM.cl m ∧ m.fit := by
  match cs, hl with
  | [c0, c1, c2, c3, c4, c5], _ =>
    obtain ⟨xs, n, _, hx, _, hlen, hg⟩ := DataW.trod_struct hs hf
    match xs, hlen with
    | [y0, y1], _ =>
      have t0 : DataW.trod enc Try.prog w base spare held n f0.type [c0, c1, c2, c3] = some y0 := by simpa [o0, k0] using hg 0 f0 rfl
      have t1 : DataW.trod enc Try.prog w base spare held n f1.type [c4, c5] = some y1 := by simpa [o1, k1] using hg 1 f1 rfl
      rw [u0] at t0
      rw [u1] at t1
      obtain ⟨k, e0, w0, w1, w2⟩ := k_of_cells Try.underlying34 (by kernel_rfl) rfl rfl rfl rfl Try.underlying4 t0
      obtain ⟨p, e1, w3, w4⟩ := p_of_cells Try.underlying36 (by kernel_rfl) rfl Try.underlying3 rfl t1
      unfold Rk.cells at e0
      simp only [List.cons.injEq, and_true] at e0 e1
      obtain ⟨rfl, rfl, rfl, rfl⟩ := e0
      obtain ⟨rfl, rfl⟩ := e1
      exact ⟨⟨k, p⟩, rfl, w0, w1, w2, w4, w3.1, w3.2⟩
/-- A slice of marks. -/
theorem open_marks {fuel : Nat} {cs : List Value} {x : DataW H × List MemPlace} (hf : DataW.trod enc Try.prog w base spare held fuel 22 cs = some x) :
    ∃ A cap xs, cs = [.slice A xs.length cap] ∧ MsS w (.slice A xs.length cap) xs :=
  open_lies (L := LM) (ok := Mk.fit) ⟨⟨⟨#[]⟩, ⟨#[]⟩, ⟨#[]⟩, false⟩, ⟨0, ⟨#[]⟩⟩⟩ Try.underlying22 (by kernel_rfl) (by decide) (fun fuel cs x hl ht => m_of_cells Try.underlying38 hl rfl rfl (by kernel_rfl) (by kernel_rfl) rfl rfl ht) hf
/-- A mark. -/
theorem open_mark {r : Reach} {b0 : Nat} {v : Value} {d : DataW H} {pl : List MemPlace} (hv : Value.okWide Try.prog w r b0 38 v) (h : DataW.Trod enc Try.prog w base spare held 38 v d pl) : ∃ m : Mk, v = m.val ∧ m.fit := by
  obtain ⟨cs, rfl, hsz⟩ := okWide_struct Try.underlying38 hv
  obtain ⟨fuel, hf⟩ := h
  obtain ⟨l⟩ := cs
  have hl : l.length = 6 := hsz.trans (by kernel_rfl)
  obtain ⟨m, he, hm⟩ := m_of_cells (cs := l) Try.underlying38 hl rfl rfl (by kernel_rfl) (by kernel_rfl) rfl rfl (by simpa [Value.cells] using hf)
  subst he
  exact ⟨m, rfl, hm⟩
end
end Go.Proofs.Ytmialpaldkpmbaa
