/-
  Deeds that are handed in.
-/
import Derived.Test.YtkbmkbmbkmeenaaHeapPlays
import Derived.Test.YtkbmkbmbkmeenaaSOpen
namespace Go.Proofs.Ytkbmkbmbkmeenaa
open Go.Joins Go.ChangeShapes Go.WideShapes Go.RowKit Go.Deep
set_option linter.unusedVariables false
set_option linter.unusedSimpArgs false

section
variable {H : Type} {enc : TypeId × Value → H} {P : Program} {w : World} {base : Nat} {spare : Nat → Bool} {held : Bool}
theorem deed_of_cells {t : TypeId} {f0 f1 f2 : Field} {fuel : Nat} {cs : List Value} {x : DataW H × List MemPlace} (hs : P.underlying t = some (.struct #[f0, f1, f2])) (hone : oneCellFields P #[f0, f1, f2] = true) (hl : cs.length = 3)
    (u0 : P.underlying f0.type = some (.int .i64)) (u1 : P.underlying f1.type = some (.int .i64)) (u2 : P.underlying f2.type = some .string)
    (hf : DataW.trod enc P w base spare held fuel t cs = some x) : ∃ o : Deed, cs = LO.cl o ∧ o.arg := by
  match cs, hl with
  | [c0, c1, c2], _ =>
    obtain ⟨xs, n, _, hx, _, hlen, hg⟩ := DataW.trod_struct hs hf
    obtain ⟨o0, k0⟩ := hone_of hone 0 f0 rfl
    obtain ⟨o1, k1⟩ := hone_of hone 1 f1 rfl
    obtain ⟨o2, k2⟩ := hone_of hone 2 f2 rfl
    match xs, hlen with
    | [y0, y1, y2], _ =>
      have t0 : DataW.trod enc P w base spare held n f0.type [c0] = some y0 := by simpa [o0, k0] using hg 0 f0 rfl
      have t1 : DataW.trod enc P w base spare held n f1.type [c1] = some y1 := by simpa [o1, k1] using hg 1 f1 rfl
      have t2 : DataW.trod enc P w base spare held n f2.type [c2] = some y2 := by simpa [o2, k2] using hg 2 f2 rfl
      obtain ⟨x0, e0, _, w0⟩ := DataW.trod_int u0 t0
      obtain ⟨x1, e1, _, w1⟩ := DataW.trod_int u1 t1
      obtain ⟨x2, e2, _, w2⟩ := DataW.trod_string u2 t2
      simp only [List.cons.injEq, and_true] at e0 e1 e2
      subst e0 e1 e2
      exact ⟨⟨x0, x1, x2⟩, rfl, bounds_i64 w0, bounds_i64 w1, w2⟩
/-- A slice of deeds, as this program has it. -/
theorem open_deeds {fuel : Nat} {cs : List Value} {x : DataW H × List MemPlace} (hf : DataW.trod enc Try.prog w base spare held fuel 22 cs = some x) :
    ∃ A cap os, cs = [.slice A os.length cap] ∧ LO.Slice w (.slice A os.length cap) os ∧ ∀ o ∈ os, o.arg :=
  open_lies (L := LO) ⟨0, 0, ⟨#[]⟩⟩ Try.underlying22 (by kernel_rfl) (by decide) (fun fuel cs x hl ht => deed_of_cells Try.underlying30 (by kernel_rfl) hl Try.underlying3 Try.underlying3 Try.underlying9 ht) hf
end

/-- A row of numbers that was handed in. -/
def RowI (w : World) (a : Option Addr) (len cap : Nat) (zs : List Int) : Prop :=
  (a = none ∧ len = 0 ∧ cap = 0 ∧ zs = []) ∨
  ∃ x, a = some x ∧ len ≤ cap ∧ cap ≤ maxLen ∧ zs.length = cap ∧ (∀ i, i < zs.length → w.cell? (x.add i) = some (.int .i64 (zs.getD i 0))) ∧ ∀ n ∈ zs, (Lit.int .i64 n).wf = true
theorem RowI.cells {w : World} {a : Option Addr} {len cap : Nat} {zs : List Int} (h : RowI w a len cap zs) : ∀ j : Nat, j < len → ∃ g off z, a = some ⟨g, off, none⟩ ∧ g < w.heap.size ∧ w.cell? ⟨g, off + j, none⟩ = some (.int .i64 z) ∧ -9223372036854775808 ≤ z ∧ z ≤ 9223372036854775807 := by
  rcases h with ⟨_, rfl, _⟩ | ⟨x, rfl, h1, h2, h3, h4, h5⟩
  · intro j hj; omega
  · intro j hj
    have hz : j < zs.length := by omega
    have hc := h4 j hz
    have hc0 := h4 0 (by omega)
    rw [Addr.add_zero'] at hc0
    have hs := World.cell?_spot hc0
    obtain ⟨g, off, sp⟩ := x
    obtain rfl : sp = none := hs
    rw [Addr.add_lit] at hc
    have hb := bounds_i64 (h5 (zs.getD j 0) (by rw [List.getD_eq_getElem?_getD, List.getElem?_eq_getElem hz]; exact List.getElem_mem _))
    exact ⟨g, off, zs.getD j 0, rfl, World.block_lt_of_cell? w _ hc, hc, hb.1, hb.2⟩
theorem RowI.len {w : World} {a : Option Addr} {len cap : Nat} {zs : List Int} (h : RowI w a len cap zs) : len ≤ 9223372036854775807 := by
  rcases h with ⟨_, rfl, _⟩ | ⟨x, rfl, h1, h2, _⟩
  · omega
  · unfold maxLen at h2; omega
end Go.Proofs.Ytkbmkbmbkmeenaa
