/-
  The document's example holds: the part and the home of one user, one text that is no room, one that is.
-/
import Derived.Test.YtobmgjbpgiofpaaSplit
namespace Go.Proofs.Ytobmgjbpgiofpaa
open Go.RowKit
set_option linter.unusedVariables false
set_option linter.unusedSimpArgs false

set_option maxHeartbeats 1600000 in
theorem lives_any (w : World) : Calls Try.prog 20 #[] w (BoolPost true w) := by
  have H1 := Lib.hid (show partS ⟨#[64, 97, 110, 110, 58, 97, 46, 98]⟩ = ⟨#[97, 110, 110]⟩ by decide +kernel)
  have H2 := Lib.hid (show homeS ⟨#[64, 97, 110, 110, 58, 97, 46, 98]⟩ = ⟨#[97, 46, 98]⟩ by decide +kernel)
  have H3 := Lib.hid (show namedB 33 ⟨#[33, 114, 58, 45, 97]⟩ = false by decide +kernel)
  have H4 := Lib.hid (show namedB 33 ⟨#[33, 114, 58, 97]⟩ = true by decide +kernel)
  go_enter Try.func20, Try.ntmps20
  go_wp2_with fail
  refine (part_any _ _ (by decide)).mono ?_
  rintro e w1 ⟨rfl, hb1⟩
  rw [H1.out]
  go_wp2_with fail
  refine (home_any _ _ (by decide)).mono ?_
  rintro e w2 ⟨rfl, hb2⟩
  rw [H2.out]
  go_wp2_with fail
  refine (room_any _ _ (by decide)).mono ?_
  rintro e w3 ⟨rfl, hb3⟩
  rw [H3.out]
  go_wp2_with fail
  refine (room_any _ _ (by decide)).mono ?_
  rintro e w4 ⟨rfl, hb4⟩
  rw [H4.out]
  go_wp2
  go_ret
  refine ⟨rfl, ?_⟩
  have s1 := hb1.size
  have s2 := hb2.size
  have s3 := hb3.size
  exact ((hb1.trans (hb2.mono s1)).trans (hb3.mono (Nat.le_trans s1 s2))).trans (hb4.mono (Nat.le_trans s1 (Nat.le_trans s2 s3)))
end Go.Proofs.Ytobmgjbpgiofpaa
