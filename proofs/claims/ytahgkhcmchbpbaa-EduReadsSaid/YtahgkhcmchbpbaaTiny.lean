/-
  What the statements' own helpers give: a number brought into a range, the first bytes of a text. The world stays as it was.
-/
import Derived.Test.YtahgkhcmchbpbaaRows
import Derived.WalkKit
import Derived.WalkSpells
import Derived.WalkLawsBesides
import Derived.Lib.Bytealg
import Derived.Lib.IndexBytes
import Derived.Lib.Hide
namespace Go.Proofs.Ytahgkhcmchbpbaa
open Go.RowKit
set_option linter.unusedVariables false
set_option linter.unusedSimpArgs false

/-- The first so many bytes of a text. -/
def fewS (s : ByteArray) (m : Nat) : ByteArray := if m < s.size then s.extract 0 m else s
theorem fewS_size (s : ByteArray) (m : Nat) : (fewS s m).size ≤ m := by
  unfold fewS
  split
  · rw [Lib.size_eq, Lib.extract_data, List.length_take]; omega
  · omega
/-- A number brought between 0 and m. -/
def aroundI (n m : Int) : Int := (if n < 0 then -(n + 1) else n) % m
theorem aroundI_bd (n m : Int) (h : 0 < m) : 0 ≤ aroundI n m ∧ aroundI n m < m := by
  unfold aroundI
  exact ⟨Int.emod_nonneg _ (by omega), Int.emod_lt_of_pos _ h⟩


theorem few_any (s : ByteArray) (m : Nat) (hm : m ≤ 1000) (w : World) (hs : s.size ≤ maxLen) :
    Calls Try.prog 27 #[.string s, .int .i64 (m : Int)] w fun e w' => e = .returned (.string (fewS s m)) ∧ w = w' := by
  unfold maxLen at hs
  by_cases h : m < s.size
  · have Hn := Lib.hid (show fewS s m = s.extract 0 m by simp [fewS, h])
    go_enter Try.func27, Try.ntmps27
    go_wp2
    go_ret
    rw [Hn.out]
    exact ⟨rfl, rfl⟩
  · have Hn := Lib.hid (show fewS s m = s by simp [fewS, h])
    go_enter Try.func27, Try.ntmps27
    go_wp2
    go_ret
    rw [Hn.out]
    exact ⟨rfl, rfl⟩

theorem around_any (n m : Int) (w : World) (h0 : -9223372036854775808 ≤ n) (h1 : n ≤ 9223372036854775807) (hm0 : 0 < m) (hm1 : m ≤ 9223372036854775807) :
    Calls Try.prog 11 #[.int .i64 n, .int .i64 m] w fun e w' => e = .returned (.int .i64 (aroundI n m)) ∧ w = w' := by
  have q0 : (m == 0) = false := by rw [beq_eq_false_iff_ne]; omega
  by_cases h : n < 0
  · have Hn := Lib.hid (show aroundI n m = -((n + 1).tmod m) by unfold aroundI; rw [if_pos h, ← Int.neg_tmod, Int.tmod_eq_emod_of_nonneg (by omega)])
    go_enter Try.func11, Try.ntmps11
    go_wp2
    go_ret
    rw [Hn.out]
    exact ⟨rfl, rfl⟩
  · have Hn := Lib.hid (show aroundI n m = n % m by simp [aroundI, h])
    go_enter Try.func11, Try.ntmps11
    go_wp2
    go_ret
    rw [Hn.out]
    exact ⟨rfl, rfl⟩
end Go.Proofs.Ytahgkhcmchbpbaa
