/-
  Package dag: which position is greater, whether two events are the same.
-/
import Derived.Test.YtjiecjpepiknmaaDgA
import Derived.Test.YtjiecjpepiknmaaDagSame
import Derived.BigQuiet
namespace Go.Proofs.Ytjiecjpepiknmaa
set_option maxRecDepth 20000
open Go.RowKit
set_option linter.unusedVariables false
set_option linter.unusedSimpArgs false

/-- How numbers lie. -/
def LI2 : Lies Int := ⟨3, 1, fun x => [.int .i64 x], fun _ => rfl, fun x u hu => by
  simp only [List.mem_cons, List.not_mem_nil, or_false] at hu
  subst hu; rfl⟩
theorem knI2 : Kn Try.prog LI2 70 (.int .i64 0) 8 := ⟨Try.underlying70, by kernel_rfl, rfl, by decide⟩
def orI (a b : Int) : Int := if a = 0 then b else a
theorem cmpB_lt : ∀ a b : List UInt8, Lib.compareBytes a b = (bif Op.bytesLess a b then -1 else bif Op.bytesLess b a then 1 else 0)
  | [], [] => by simp [Lib.compareBytes, Op.bytesLess]
  | [], _ :: _ => by simp [Lib.compareBytes, Op.bytesLess]
  | _ :: _, [] => by simp [Lib.compareBytes, Op.bytesLess]
  | a :: x, b :: y => by
    unfold Lib.compareBytes Op.bytesLess
    by_cases h : a < b
    · simp [h]
    · by_cases h2 : b < a
      · have : ¬ a = b := fun e => by rw [e] at h2; exact absurd h2 (by rw [e] at h; exact h)
        have hq : (a == b) = false := by rw [beq_eq_false_iff_ne]; exact this
        simp [h, h2, hq]
      · have : a = b := by
          apply UInt8.toNat_inj.1
          rw [UInt8.lt_iff_toNat_lt] at h h2
          omega
        subst this
        simp [h, cmpB_lt x y]
theorem cmpP_code (a b : Po) : orI (Lib.compareInt a.depth b.depth) (Lib.compareBytes a.id.data.toList b.id.data.toList) = cmpP a b := by
  unfold orI cmpP beforeP Lib.compareInt
  rw [cmpB_lt, ByteArray.toList_eq, ByteArray.toList_eq]
  by_cases h : a.depth < b.depth
  · have h2 : ¬ b.depth < a.depth := by omega
    have h3 : ¬ b.depth = a.depth := by omega
    simp [h]
  · by_cases h2 : b.depth < a.depth
    · have h3 : ¬ a.depth = b.depth := by omega
      simp [h, h2, h3]
    · have h3 : a.depth = b.depth := by omega
      simp [h3]


end Go.Proofs.Ytjiecjpepiknmaa
