/-
  Package clock: how long to wait.
-/
import Derived.Test.YtnehcmlaoginiaaClk
namespace Go.Proofs.Ytnehcmlaoginiaa
set_option maxRecDepth 20000
open Go.RowKit
set_option linter.unusedVariables false
set_option linter.unusedSimpArgs false

/-- How long to wait behind so many tries. -/
def backN (k : Nat) : Int := if k = 0 then 1 else if k = 1 then 2 else if k = 2 then 4 else if k = 3 then 8 else 16
theorem backN_great {k : Nat} (h : 4 ≤ k) : backN k = 16 := by
  unfold backN
  rw [if_neg (by omega), if_neg (by omega), if_neg (by omega), if_neg (by omega)]

theorem back_any (t : Int) (w : World) (h0 : -9223372036854775808 ≤ t) (h1 : t ≤ 9223372036854775807) :
    Calls Try.prog 17 #[.int .i64 t] w fun e w' => e = .returned (.int .i64 (backN t.toNat)) ∧ w = w' := by
  go_enter Try.func17, Try.ntmps17
  go_wp2_with fail
  go_loop [3, 5] (fun x i => ∃ k : Nat, k ≤ 4 ∧ k ≤ t.toNat ∧ i = .int .i64 (k : Int) ∧ x = .int .i64 (backN k)) (fun _ i => 4 - (intOf i).toNat)
  case atStart => exact ⟨0, by omega, by omega, rfl, rfl⟩
  case round =>
    obtain ⟨k, hk, hkt, rfl, rfl⟩ := hrel
    by_cases hlt : (k : Int) < t
    · have q1 : decide ((k : Int) < t) = true := decide_eq_true hlt
      by_cases h4 : k = 4
      · subst h4
        have Hn := Lib.hid (show backN t.toNat = 16 from backN_great (by omega))
        rw [show backN 4 = 16 from rfl]
        go_wp2_with fail
        go_ret
        rw [Hn.out]
        exact ⟨rfl, rfl⟩
      · have hb : (backN k == 16) = false ∧ 2 * backN k = backN (k + 1) ∧ 0 ≤ backN k ∧ backN (k + 1) ≤ 16 := by
          have : k = 0 ∨ k = 1 ∨ k = 2 ∨ k = 3 := by omega
          rcases this with rfl | rfl | rfl | rfl <;> decide
        obtain ⟨q2, Hb, b0, b1⟩ := hb
        replace Hb := Lib.hid Hb
        have b2 : 2 * backN k ≤ 16 := by rw [Hb.out]; exact b1
        generalize hx : backN k = x at *
        clear hx b1
        go_wp2_with fail
        refine ⟨⟨k + 1, by omega, by omega, by go_num, by rw [Hb.out]⟩, ?_⟩
        simp [intOf]; omega
    · have q1 : decide ((k : Int) < t) = false := decide_eq_false hlt
      have Hk := Lib.hid (show t.toNat = k by omega)
      go_wp2_with fail
      go_ret
      rw [Hk.out]
      exact ⟨rfl, rfl⟩

theorem back_told (t r : Int) (w : World) (h0 : -9223372036854775808 ≤ t) (h1 : t ≤ 9223372036854775807) (hr : backN t.toNat = r) :
    Calls Try.prog 17 #[.int .i64 t] w fun e w' => e = .returned (.int .i64 r) ∧ w = w' := by
  subst hr
  exact back_any t w h0 h1

/-- How long the first so many tries take. -/
def sumN (k : Nat) : Int := if k = 0 then 0 else if k = 1 then 1 else if k = 2 then 3 else if k = 3 then 7 else 15

theorem sum_any (t : Int) (w : World) (h0 : 4 ≤ t) (h1 : t ≤ 1048576) :
    Calls Try.prog 16 #[.int .i64 t] w fun e w' => e = .returned (.int .i64 (15 + 16 * (t - 4))) ∧ w = w' := by
  go_enter Try.func16, Try.ntmps16
  go_wp2_with fail
  go_loop [3, 7] (fun x i => ∃ k : Nat, k ≤ 4 ∧ i = .int .i64 (k : Int) ∧ x = .int .i64 (sumN k)) (fun _ i => 4 - (intOf i).toNat)
  case atStart => exact ⟨0, by omega, rfl, rfl⟩
  case round =>
    obtain ⟨k, hk, rfl, rfl⟩ := hrel
    by_cases h4 : k = 4
    · subst h4
      rw [show sumN 4 = 15 from rfl]
      by_cases hlt : (4 : Int) < t
      · have q1 : decide ((4 : Int) < t) = true := decide_eq_true hlt
        go_wp2_with (go_at_call 17; refine (back_any 4 _ (by decide) (by decide)).mono ?_; rintro e wz ⟨rfl, rfl⟩; rw [show backN (Int.toNat 4) = 16 from rfl])
        go_ret
        exact ⟨congrArg (fun z => Ending.returned (.int .i64 z)) (by omega), rfl⟩
      · obtain rfl : t = 4 := by omega
        go_wp2_with fail
        go_ret
        exact ⟨rfl, rfl⟩
    · have q1 : decide ((k : Int) < t) = true := decide_eq_true (by omega)
      have hb : (backN k == 16) = false ∧ sumN k + backN k = sumN (k + 1) ∧ 0 ≤ backN k ∧ 0 ≤ sumN k ∧ sumN k ≤ 15 ∧ backN k ≤ 16 := by
        have : k = 0 ∨ k = 1 ∨ k = 2 ∨ k = 3 := by omega
        rcases this with rfl | rfl | rfl | rfl <;> decide
      obtain ⟨q2, Hb, b0, b1, b2, b3⟩ := hb
      replace Hb := Lib.hid Hb
      generalize hx : sumN k = x at *
      clear hx
      go_wp2_with (go_at_call 17; refine (back_any (k : Int) _ (by omega) (by omega)).mono ?_; rintro e wz ⟨rfl, rfl⟩; rw [show ((k : Int)).toNat = k from by omega])
      refine ⟨⟨k + 1, by omega, by go_num, by rw [Hb.out]⟩, ?_⟩
      simp [intOf]; omega
end Go.Proofs.Ytnehcmlaoginiaa
