/-
  The document's example of a counter; ClockLong's and ClockEnds' walks.
-/
import Derived.Test.YtnehcmlaoginiaaClkAdd
import Derived.Test.YtnehcmlaoginiaaClkBack
namespace Go.Proofs.Ytnehcmlaoginiaa
set_option maxRecDepth 20000
open Go.RowKit
set_option linter.unusedVariables false
set_option linter.unusedSimpArgs false

set_option maxHeartbeats 800000 in
theorem lives_any (w : World) : Calls Try.prog 15 #[] w fun e w' => e = .returned (.bool true) ∧ Below w.heap.size w w' := by
  go_enter Try.func15, Try.ntmps15
  go_wp2_with (go_at_call 8; refine (new_yes 0 2 _ (by decide)).mono ?_; rintro e w1 ⟨rfl, h1, b1⟩; replace h1 := Lib.hid h1; replace b1 := Lib.hid b1)
  generalize hB : w.heap.size = B at h1 b1 ⊢
  replace hB := Lib.hid hB
  go_at_call 12
  refine (told (next_any B 0 2 w1 h1.out (fitB_fit.1 (by decide))) 1 0 1 (by decide) (by decide) (by decide)).mono ?_
  have hlt := h1.out.lt
  rintro e w2 ⟨rfl, h2, g2⟩
  replace h1 := Lib.hid h2
  replace b1 := Lib.hid (b1.out.grown g2 (Nat.le_of_lt hlt) (fun k hk => by injection hk with hk; omega))
  clear h2 g2 hlt
  go_wp2_with fail
  go_at_call 12
  refine (told (next_any B 1 2 w2 h1.out (fitB_fit.1 (by decide))) 2 0 2 (by decide) (by decide) (by decide)).mono ?_
  have hlt := h1.out.lt
  rintro e w3 ⟨rfl, h2, g2⟩
  replace h1 := Lib.hid h2
  replace b1 := Lib.hid (b1.out.grown g2 (Nat.le_of_lt hlt) (fun k hk => by injection hk with hk; omega))
  clear h2 g2 hlt
  go_wp2_with fail
  go_at_call 12
  refine (told (next_any B 2 2 w3 h1.out (fitB_fit.1 (by decide))) 0 11 2 (by decide) (by decide) (by decide)).mono ?_
  have hlt := h1.out.lt
  rintro e w4 ⟨rfl, h2, g2⟩
  replace h1 := Lib.hid h2
  replace b1 := Lib.hid (b1.out.grown g2 (Nat.le_of_lt hlt) (fun k hk => by injection hk with hk; omega))
  clear h2 g2 hlt
  go_wp2_with fail
  go_at_call 17
  refine (back_told 3 8 _ (by decide) (by decide) (by decide)).mono ?_
  rintro e wz ⟨rfl, rfl⟩
  go_wp2_with fail
  go_at_call 17
  refine (back_told 9 16 _ (by decide) (by decide) (by decide)).mono ?_
  rintro e wz ⟨rfl, rfl⟩
  go_wp2_with fail
  go_ret
  exact ⟨rfl, by rw [hB.out]; exact b1.out⟩

set_option maxHeartbeats 800000 in
theorem clockLong_walk (n : Int) (w : World) (h0 : -9223372036854775808 ≤ n) (h1 : n ≤ 9223372036854775807) :
    Calls Try.prog 6 #[.int .i64 n] w fun e w' => e = .returned (.bool true) ∧ Below w.heap.size w w' := by
  have hb := aroundI_bd n 1048573 (by decide)
  go_enter Try.func6, Try.ntmps6
  go_wp2_with fail
  go_at_call 7
  refine (around_any n 1048573 _ h0 h1 (by decide) (by decide)).mono ?_
  rintro e wz ⟨rfl, rfl⟩
  generalize aroundI n 1048573 = a at hb ⊢
  obtain ⟨a0, a1⟩ := hb
  go_wp2_with fail
  go_at_call 16
  refine (sum_any (4 + a) _ (by omega) (by omega)).mono ?_
  rintro e wz ⟨rfl, rfl⟩
  go_wp2_with fail
  go_at_call 17
  refine (back_told (4 + a) 16 _ (by omega) (by omega) (backN_great (by omega))).mono ?_
  rintro e wz ⟨rfl, rfl⟩
  go_wp2_with fail
  go_at_call 15
  refine (lives_any _).mono ?_
  rintro e w2 ⟨rfl, b2⟩
  replace b2 := Lib.hid b2
  go_wp2_with fail
  go_ret
  exact ⟨rfl, b2.out⟩
end Go.Proofs.Ytnehcmlaoginiaa
