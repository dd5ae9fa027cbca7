/-
  The table of math/bits lies where the program's text lays it.
-/
import Derived.Test.YtfbfdkibdjinaaaGreatDoorRows
import Derived.Test.YtfbfdkibdjinaaaGreatDoorI8A
import Derived.ProofKit
import Derived.LaidMore
import Derived.OpenShut
import Derived.Stop.Joined
namespace Go.Proofs.YtfbfdkibdjinaaaGreatDoor
open Go.ChangeShapes Go.WideShapes Go.ChangeAt Go.WideMaps Go.WideElems Go.RowKit
set_option linter.unusedVariables false

theorem gTab : Tryz.prog.globalNamed "math/bits.deBruijn64tab" = some 0 := by kernel_rfl
theorem tTab : (Tryz.prog.globals[0]?).map (·.type) = some 125 := by kernel_rfl
theorem tab_data {H : Type} : (Rows.laid_math_bits_deBruijn64tab : DataW H) = .agg (tabL.map (fun n : Nat => .lit (.int .u8 (n : Int)))) := rfl
theorem door_met (os : Os) (args : Array Value) : laidMetH Tryz.prog Rows.indexParentsRow.laid ((World.doorLaid Tryz.prog 400 os).forCall (fun _ _ => 0) ⟨#[], args, []⟩).memory :=
  laidMetH_of_parts3 (fuel := 8) (laidMet_of_run' 8 (by kernel_rfl) (by kernel_rfl)) (by kernel_rfl) (by kernel_rfl)
theorem of_laid {W : World} (h : laidMetH Tryz.prog Rows.indexParentsRow.laid W) : TabW W := by
  rw [MakeChecks.laidMetH_plain _ _ _ (by kernel_rfl)] at h
  obtain ⟨ps, ⟨g0, t0, cs0, f0, p0, q0, hg0, ht0, hv0, hd0, _, _⟩, _, _⟩ := h
  obtain rfl := Option.some.inj (gTab.symm.trans hg0)
  obtain rfl := Option.some.inj (tTab.symm.trans ht0)
  obtain ⟨xs, m1, rfl, hx1, hlen, hn, hel⟩ := DataW.trod_array Tryz.underlying125 hd0
  have c1 : Tryz.prog.cellsOf 5 = 1 := by kernel_rfl
  rw [tab_data] at hx1
  simp only [Prod.mk.injEq, DataW.agg.injEq] at hx1
  have key : ∀ i, i < 64 → W.cell? ⟨0, i, none⟩ = some (.int .u8 ((tabL.getD i 0 : Nat) : Int)) := fun i hi => by
    have h1 := hel i hi
    have h2 : xs[i]? = some xs[i] := List.getElem?_eq_getElem (by omega)
    rw [h2] at h1
    obtain ⟨k, e1, e2, _⟩ := DataW.trod_int Tryz.underlying5 h1
    have h3 : (tabL.map (fun n : Nat => (DataW.lit (.int .u8 (n : Int)) : DataW _)))[i]? = some xs[i].1 := by rw [hx1.1, List.getElem?_map, h2]; rfl
    have htl : i < tabL.length := hi
    rw [List.getElem?_map, List.getElem?_eq_getElem htl, e2] at h3
    simp only [Option.map_some, Option.some.injEq, DataW.lit.injEq, Lit.int.injEq, true_and] at h3
    have h4 := World.var?_cell hg0 hv0 i
    rw [c1, Nat.mul_one] at e1
    have h5 : cs0[i]? = some (.int .u8 k) := by
      rw [← Array.getElem?_toList, ← Nat.add_zero i, ← List.getElem?_drop]
      have h6 := congrArg (fun l : List Value => l[0]?) e1
      simpa using h6
    rw [h4, h5, List.getD_eq_getElem?_getD, List.getElem?_eq_getElem htl, Option.getD_some, h3]
  refine ⟨?_, key⟩
  have h7 := key 0 (by omega)
  unfold World.cell? at h7
  cases hh : W.heap[0]? with
  | none => simp [hh] at h7
  | some o => exact (Array.getElem?_eq_some_iff.1 hh).1
end Go.Proofs.YtfbfdkibdjinaaaGreatDoor
