/-
  ClockOnce's walk.
-/
import Derived.Test.YtnehcmlaoginiaaClkLives
import Derived.Deep.DeepCutAuto
namespace Go.Proofs.Ytnehcmlaoginiaa
set_option maxRecDepth 20000
open Go.RowKit
set_option linter.unusedVariables false
set_option linter.unusedSimpArgs false

set_option maxHeartbeats 1600000 in
theorem clockOnce_walk (f m c : Int) (w : World) (h0 : -9223372036854775808 ≤ f) (h1 : f ≤ 9223372036854775807) (h2 : -9223372036854775808 ≤ m) (h3 : m ≤ 9223372036854775807) (h4 : -9223372036854775808 ≤ c) (h5 : c ≤ 9223372036854775807) :
    Calls Try.prog 4 #[.int .i64 f, .int .i64 m, .int .i64 c] w fun e w' => e = .returned (.bool true) ∧ Below w.heap.size w w' := by
  have ha := aroundI_bd f 10 (by decide)
  have hr := aroundI_bd m 10 (by decide)
  have hq := aroundI_bd c 21 (by decide)
  have HA := Lib.hid (show ∀ w, Calls Try.prog 7 #[.int .i64 c, .int .i64 21] w fun e w' => e = .returned (.int .i64 (aroundI c 21)) ∧ w = w' from fun w => around_any c 21 w h4 h5 (by decide) (by decide))
  generalize aroundI c 21 = q at hq HA
  go_enter Try.func4, Try.ntmps4
  go_wp2_with fail
  go_at_call 7
  refine (around_any f 10 _ h0 h1 (by decide) (by decide)).mono ?_
  rintro e wz ⟨rfl, rfl⟩
  generalize aroundI f 10 = a at ha ⊢
  go_wp2_with fail
  go_at_call 7
  refine (around_any m 10 _ h2 h3 (by decide) (by decide)).mono ?_
  rintro e wz ⟨rfl, rfl⟩
  generalize aroundI m 10 = r at hr ⊢
  obtain ⟨a0, a1⟩ := ha
  obtain ⟨r0, r1⟩ := hr
  obtain ⟨c0, c1⟩ := hq
  go_upto_region 3 with (fail)
  generalize hb : (if a + r < 1 then 1 else a + r) = b
  have b0 : 1 ≤ b ∧ a ≤ b ∧ b ≤ 18 := by split at hb <;> omega
  obtain ⟨b0, b1, b2⟩ := b0
  replace hb := Lib.hid hb
  have F0 := Lib.hid (show fitB a b = true from fitB_fit.2 ⟨by omega, by omega, by omega, by omega⟩)
  go_wp2_with fail
  go_at_call 8
  refine (new_yes a b _ F0.out).mono ?_
  rintro e w1 ⟨rfl, hC, bC⟩
  replace hC := Lib.hid hC
  replace bC := Lib.hid bC
  generalize hB : w.heap.size = B at hC bC ⊢
  replace hB := Lib.hid hB
  go_wp2_with fail
  go_loopw [11] (fun i wr => ∃ k : Nat, (k : Int) ≤ q ∧ i = .int .i64 ((k : Int) + 1) ∧ Hid (Cnt wr B 48 (min (a + k) b) b) ∧ Hid (Below B w wr)) (fun i _ => 22 - (intOf i).toNat)
  case atStart => exact ⟨0, by omega, rfl, Lib.hid (by rw [show min (a + ((0 : Nat) : Int)) b = a by omega]; exact hC.out), bC⟩
  case round =>
    obtain ⟨k, hk, rfl, hC, bC⟩ := hrel
    go_wp2_with fail
    go_at_call 7
    refine (HA.out _).mono ?_
    rintro e wz ⟨rfl, rfl⟩
    by_cases hi : (k : Int) + 1 ≤ q
    · have q1 : decide ((k : Int) + 1 ≤ q) = true := decide_eq_true hi
      have F1 := Lib.hid (show fitB (min (a + (k : Int)) b) b = true from fitB_fit.2 ⟨by omega, by omega, by omega, by omega⟩)
      by_cases hab : a + ((k : Int) + 1) ≤ b
      · have q2 : decide (a + ((k : Int) + 1) ≤ b) = true := decide_eq_true hab
        have q3 : decide (b < a + ((k : Int) + 1)) = false := decide_eq_false (by omega)
        go_wp2_with fail
        go_at_call 12
        refine (told (next_any B _ b wr hC.out (fitB_fit.1 F1.out)) (a + ((k : Int) + 1)) 0 (min (a + ((k + 1 : Nat) : Int)) b) (by unfold addX; rw [if_neg (by omega), if_neg (by omega)]; omega) (by unfold addE; rw [if_neg (by omega), if_neg (by omega)]) (by unfold addN; rw [if_neg (by omega)]; omega)).mono ?_
        rintro e w2 ⟨rfl, hN, gN⟩
        replace bC := Lib.hid (bC.out.grown gN (Nat.le_of_lt hC.out.lt) (fun j hj => by injection hj with hj; omega))
        replace hC := Lib.hid hN
        clear hN gN
        go_wp2_with fail
        refine ⟨⟨k + 1, by omega, by go_num, hC, bC⟩, ?_⟩
        simp [intOf]; omega
      · have q2 : decide (a + ((k : Int) + 1) ≤ b) = false := decide_eq_false hab
        have q3 : decide (b < a + ((k : Int) + 1)) = true := decide_eq_true (by omega)
        go_wp2_with fail
        go_at_call 12
        refine (told (next_any B _ b wr hC.out (fitB_fit.1 F1.out)) 0 11 (min (a + ((k + 1 : Nat) : Int)) b) (by unfold addX; rw [if_neg (by omega), if_pos (by omega)]) (by unfold addE; rw [if_neg (by omega), if_pos (by omega)]) (by unfold addN; rw [if_neg (by omega)]; omega)).mono ?_
        rintro e w2 ⟨rfl, hN, gN⟩
        replace bC := Lib.hid (bC.out.grown gN (Nat.le_of_lt hC.out.lt) (fun j hj => by injection hj with hj; omega))
        replace hC := Lib.hid hN
        clear hN gN
        go_wp2_with fail
        go_at_call 13
        refine (at_any B _ b w2 hC.out).mono ?_
        rintro e wz ⟨rfl, rfl⟩
        have HM := Lib.hid (show min (a + ((k + 1 : Nat) : Int)) b = b by omega)
        rw [HM.out]
        go_wp2_with fail
        refine ⟨⟨k + 1, by omega, by go_num, hC, bC⟩, ?_⟩
        simp [intOf]; omega
    · have q1 : decide ((k : Int) + 1 ≤ q) = false := decide_eq_false hi
      go_wp2_with fail
      go_at_call 15
      refine (lives_any _).mono ?_
      rintro e w7 ⟨rfl, b7⟩
      replace bC := Lib.hid (bC.out.trans (b7.mono (Nat.le_of_lt hC.out.lt)))
      clear b7
      go_wp2_with fail
      go_ret
      exact ⟨rfl, by rw [hB.out]; exact bC.out⟩
end Go.Proofs.Ytnehcmlaoginiaa
