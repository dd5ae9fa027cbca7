/-
  ClockEnds' walk.
-/
import Derived.Test.YtnehcmlaoginiaaClkLives
namespace Go.Proofs.Ytnehcmlaoginiaa
set_option maxRecDepth 20000
open Go.RowKit
set_option linter.unusedVariables false
set_option linter.unusedSimpArgs false

set_option maxHeartbeats 1600000 in
theorem clockEnds_walk (most n : Int) (w : World) (h0 : -9223372036854775808 ≤ most) (h1 : most ≤ 9223372036854775807) (h2 : -9223372036854775808 ≤ n) (h3 : n ≤ 9223372036854775807) :
    Calls Try.prog 5 #[.int .i64 most, .int .i64 n] w fun e w' => e = .returned (.bool true) ∧ Below w.heap.size w w' := by
  have hb := aroundI_bd most 1099511627776 (by decide)
  have hc := aroundI_bd n 9223372036854775807 (by decide)
  go_enter Try.func5, Try.ntmps5
  go_wp2_with fail
  go_at_call 7
  refine (around_any most 1099511627776 _ h0 h1 (by decide) (by decide)).mono ?_
  rintro e wz ⟨rfl, rfl⟩
  generalize aroundI most 1099511627776 = a at hb ⊢
  obtain ⟨a0, a1⟩ := hb
  have F1 : fitB (1 + a) (1 + a) = true := fitB_fit.2 ⟨by omega, by omega, by omega, by omega⟩
  have F0 : fitB 0 (1 + a) = true := fitB_fit.2 ⟨by omega, by omega, by omega, by omega⟩
  replace F1 := Lib.hid F1
  replace F0 := Lib.hid F0
  go_wp2_with fail
  generalize hm : 1 + a = m at F0 F1 ⊢
  have m1 : 1 ≤ m := by omega
  have m2 : m ≤ 1099511627776 := by omega
  clear hm a0 a1
  go_at_call 8
  refine (new_yes m m _ F1.out).mono ?_
  rintro e w1 ⟨rfl, hC, b1⟩
  have lC := hC.lt
  replace hC := Lib.hid hC
  replace b1 := Lib.hid b1
  generalize hB : w.heap.size = B at hC b1 lC ⊢
  replace hB := Lib.hid hB
  go_wp2_with fail
  go_at_call 8
  refine (new_yes 0 m _ F0.out).mono ?_
  rintro e w2 ⟨rfl, hD, b2⟩
  replace hC := Lib.hid (hC.out.below b2)
  replace hD := Lib.hid hD
  replace b1 := Lib.hid (b1.out.trans (b2.mono (Nat.le_of_lt lC)))
  clear b2
  generalize w1.heap.size = D at hD lC ⊢
  go_wp2_with fail
  go_at_call 7
  refine (around_any n 9223372036854775807 _ h2 h3 (by decide) (by decide)).mono ?_
  rintro e wz ⟨rfl, rfl⟩
  generalize aroundI n 9223372036854775807 = c at hc ⊢
  obtain ⟨c0, c1⟩ := hc
  go_wp2_with fail
  generalize hk : 1 + c = k
  have k1 : 1 ≤ k := by omega
  have k2 : k ≤ 9223372036854775807 := by omega
  clear hk c0 c1
  go_at_call 10
  refine (told (add_any B m m k w2 hC.out (fitB_fit.1 F1.out) (by omega) (by omega)) 0 11 m (by unfold addX; rw [if_neg (by omega), if_pos (by omega)]) (by unfold addE; rw [if_neg (by omega), if_pos (by omega)]) (by unfold addN; rw [if_neg (by omega)]; omega)).mono ?_
  rintro e w3 ⟨rfl, hN, gN⟩
  replace b1 := Lib.hid (b1.out.grown gN (Nat.le_trans (Nat.le_of_lt lC) (Nat.le_of_lt hD.out.lt)) (fun j hj => by injection hj with hj; omega))
  replace hD := Lib.hid (hD.out.grown gN (by omega))
  replace hC := Lib.hid hN
  clear hN gN
  go_wp2_with fail
  go_at_call 10
  refine (told (add_any B m m 0 w3 hC.out (fitB_fit.1 F1.out) (by omega) (by omega)) m 0 m (by unfold addX; rw [if_neg (by omega), if_neg (by omega)]; omega) (by unfold addE; rw [if_neg (by omega), if_neg (by omega)]) (by unfold addN; rw [if_neg (by omega)]; omega)).mono ?_
  rintro e w4 ⟨rfl, hN, gN⟩
  replace b1 := Lib.hid (b1.out.grown gN (Nat.le_trans (Nat.le_of_lt lC) (Nat.le_of_lt hD.out.lt)) (fun j hj => by injection hj with hj; omega))
  replace hD := Lib.hid (hD.out.grown gN (by omega))
  replace hC := Lib.hid hN
  clear hN gN
  go_wp2_with fail
  go_at_call 10
  refine (told (add_any D 0 m k w4 hD.out (fitB_fit.1 F0.out) (by omega) (by omega)) (min k m) 0 (min k m) (by unfold addX; rw [if_neg (by omega), if_neg (by omega)]; omega) (by unfold addE; rw [if_neg (by omega), if_neg (by omega)]) (by unfold addN; rw [if_neg (by omega)]; omega)).mono ?_
  rintro e w5 ⟨rfl, hN, gN⟩
  replace b1 := Lib.hid (b1.out.grown gN (Nat.le_trans (Nat.le_of_lt lC) (Nat.le_of_lt hD.out.lt)) (fun j hj => by injection hj with hj; omega))
  replace hC := Lib.hid (hC.out.grown gN (by omega))
  replace hD := Lib.hid hN
  clear hN gN
  have hy : (m < k ∧ m = min k m) ∨ (k ≤ m ∧ k = min k m) := by omega
  generalize min k m = y at hy hD ⊢
  have hs : n < 0 ∨ n = 0 ∨ 0 < n := by omega
  rcases hy with ⟨hmk, hy⟩ | ⟨hmk, hy⟩ <;> subst y
  · have q4 : decide (m < k) = true := decide_eq_true hmk
    rcases hs with hn | hn | hn
    · have q1 : decide (n < 0) = true := decide_eq_true hn
      have q2 : (n == 0) = false := by rw [beq_eq_false_iff_ne]; omega
      go_wp2_with fail
      go_at_call 10
      refine (told (add_any B m m n w5 hC.out (fitB_fit.1 F1.out) (by omega) (by omega)) 0 1 m (by unfold addX; rw [if_pos (by omega)]) (by unfold addE; rw [if_pos (by omega)]) (by unfold addN; rw [if_pos (by omega)])).mono ?_
      rintro e w6 ⟨rfl, hN, gN⟩
      replace b1 := Lib.hid (b1.out.grown gN (Nat.le_trans (Nat.le_of_lt lC) (Nat.le_of_lt hD.out.lt)) (fun j hj => by injection hj with hj; omega))
      replace hC := Lib.hid hN
      clear hN gN hD
      go_wp2_with fail
      go_at_call 13
      refine (at_any B m m w6 hC.out).mono ?_
      rintro e wz ⟨rfl, rfl⟩
      go_wp2_with fail
      go_at_call 15
      refine (lives_any _).mono ?_
      rintro e w7 ⟨rfl, b7⟩
      replace b1 := Lib.hid (b1.out.trans (b7.mono (Nat.le_of_lt hC.out.lt)))
      clear b7
      go_wp2_with fail
      go_ret
      exact ⟨rfl, by rw [hB.out]; exact b1.out⟩
    · subst hn
      go_wp2_with fail
      go_at_call 10
      refine (told (add_any B m m 0 w5 hC.out (fitB_fit.1 F1.out) (by omega) (by omega)) m 0 m (by unfold addX; rw [if_neg (by omega), if_neg (by omega)]; omega) (by unfold addE; rw [if_neg (by omega), if_neg (by omega)]) (by unfold addN; rw [if_neg (by omega)]; omega)).mono ?_
      rintro e w6 ⟨rfl, hN, gN⟩
      replace b1 := Lib.hid (b1.out.grown gN (Nat.le_trans (Nat.le_of_lt lC) (Nat.le_of_lt hD.out.lt)) (fun j hj => by injection hj with hj; omega))
      replace hC := Lib.hid hN
      clear hN gN hD
      go_wp2_with fail
      go_at_call 13
      refine (at_any B m m w6 hC.out).mono ?_
      rintro e wz ⟨rfl, rfl⟩
      go_wp2_with fail
      go_at_call 15
      refine (lives_any _).mono ?_
      rintro e w7 ⟨rfl, b7⟩
      replace b1 := Lib.hid (b1.out.trans (b7.mono (Nat.le_of_lt hC.out.lt)))
      clear b7
      go_wp2_with fail
      go_ret
      exact ⟨rfl, by rw [hB.out]; exact b1.out⟩
    · have q1 : decide (n < 0) = false := decide_eq_false (by omega)
      have q2 : (n == 0) = false := by rw [beq_eq_false_iff_ne]; omega
      go_wp2_with fail
      go_at_call 10
      refine (told (add_any B m m n w5 hC.out (fitB_fit.1 F1.out) (by omega) (by omega)) 0 11 m (by unfold addX; rw [if_neg (by omega), if_pos (by omega)]) (by unfold addE; rw [if_neg (by omega), if_pos (by omega)]) (by unfold addN; rw [if_neg (by omega)]; omega)).mono ?_
      rintro e w6 ⟨rfl, hN, gN⟩
      replace b1 := Lib.hid (b1.out.grown gN (Nat.le_trans (Nat.le_of_lt lC) (Nat.le_of_lt hD.out.lt)) (fun j hj => by injection hj with hj; omega))
      replace hC := Lib.hid hN
      clear hN gN hD
      go_wp2_with fail
      go_at_call 13
      refine (at_any B m m w6 hC.out).mono ?_
      rintro e wz ⟨rfl, rfl⟩
      go_wp2_with fail
      go_at_call 15
      refine (lives_any _).mono ?_
      rintro e w7 ⟨rfl, b7⟩
      replace b1 := Lib.hid (b1.out.trans (b7.mono (Nat.le_of_lt hC.out.lt)))
      clear b7
      go_wp2_with fail
      go_ret
      exact ⟨rfl, by rw [hB.out]; exact b1.out⟩
  · have q4 : decide (m < k) = false := decide_eq_false (by omega)
    rcases hs with hn | hn | hn
    · have q1 : decide (n < 0) = true := decide_eq_true hn
      have q2 : (n == 0) = false := by rw [beq_eq_false_iff_ne]; omega
      go_wp2_with fail
      go_at_call 10
      refine (told (add_any B m m n w5 hC.out (fitB_fit.1 F1.out) (by omega) (by omega)) 0 1 m (by unfold addX; rw [if_pos (by omega)]) (by unfold addE; rw [if_pos (by omega)]) (by unfold addN; rw [if_pos (by omega)])).mono ?_
      rintro e w6 ⟨rfl, hN, gN⟩
      replace b1 := Lib.hid (b1.out.grown gN (Nat.le_trans (Nat.le_of_lt lC) (Nat.le_of_lt hD.out.lt)) (fun j hj => by injection hj with hj; omega))
      replace hC := Lib.hid hN
      clear hN gN hD
      go_wp2_with fail
      go_at_call 13
      refine (at_any B m m w6 hC.out).mono ?_
      rintro e wz ⟨rfl, rfl⟩
      go_wp2_with fail
      go_at_call 15
      refine (lives_any _).mono ?_
      rintro e w7 ⟨rfl, b7⟩
      replace b1 := Lib.hid (b1.out.trans (b7.mono (Nat.le_of_lt hC.out.lt)))
      clear b7
      go_wp2_with fail
      go_ret
      exact ⟨rfl, by rw [hB.out]; exact b1.out⟩
    · subst hn
      go_wp2_with fail
      go_at_call 10
      refine (told (add_any B m m 0 w5 hC.out (fitB_fit.1 F1.out) (by omega) (by omega)) m 0 m (by unfold addX; rw [if_neg (by omega), if_neg (by omega)]; omega) (by unfold addE; rw [if_neg (by omega), if_neg (by omega)]) (by unfold addN; rw [if_neg (by omega)]; omega)).mono ?_
      rintro e w6 ⟨rfl, hN, gN⟩
      replace b1 := Lib.hid (b1.out.grown gN (Nat.le_trans (Nat.le_of_lt lC) (Nat.le_of_lt hD.out.lt)) (fun j hj => by injection hj with hj; omega))
      replace hC := Lib.hid hN
      clear hN gN hD
      go_wp2_with fail
      go_at_call 13
      refine (at_any B m m w6 hC.out).mono ?_
      rintro e wz ⟨rfl, rfl⟩
      go_wp2_with fail
      go_at_call 15
      refine (lives_any _).mono ?_
      rintro e w7 ⟨rfl, b7⟩
      replace b1 := Lib.hid (b1.out.trans (b7.mono (Nat.le_of_lt hC.out.lt)))
      clear b7
      go_wp2_with fail
      go_ret
      exact ⟨rfl, by rw [hB.out]; exact b1.out⟩
    · have q1 : decide (n < 0) = false := decide_eq_false (by omega)
      have q2 : (n == 0) = false := by rw [beq_eq_false_iff_ne]; omega
      go_wp2_with fail
      go_at_call 10
      refine (told (add_any B m m n w5 hC.out (fitB_fit.1 F1.out) (by omega) (by omega)) 0 11 m (by unfold addX; rw [if_neg (by omega), if_pos (by omega)]) (by unfold addE; rw [if_neg (by omega), if_pos (by omega)]) (by unfold addN; rw [if_neg (by omega)]; omega)).mono ?_
      rintro e w6 ⟨rfl, hN, gN⟩
      replace b1 := Lib.hid (b1.out.grown gN (Nat.le_trans (Nat.le_of_lt lC) (Nat.le_of_lt hD.out.lt)) (fun j hj => by injection hj with hj; omega))
      replace hC := Lib.hid hN
      clear hN gN hD
      go_wp2_with fail
      go_at_call 13
      refine (at_any B m m w6 hC.out).mono ?_
      rintro e wz ⟨rfl, rfl⟩
      go_wp2_with fail
      go_at_call 15
      refine (lives_any _).mono ?_
      rintro e w7 ⟨rfl, b7⟩
      replace b1 := Lib.hid (b1.out.trans (b7.mono (Nat.le_of_lt hC.out.lt)))
      clear b7
      go_wp2_with fail
      go_ret
      exact ⟨rfl, by rw [hB.out]; exact b1.out⟩
end Go.Proofs.Ytnehcmlaoginiaa
