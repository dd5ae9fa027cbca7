/-
  What package name's Server answers, for every text: whether it is a server. Nothing that was there is turned.
-/
import Derived.Test.YtahgkhcmchbpbaaFilled
namespace Go.Proofs.Ytahgkhcmchbpbaa
open Go.RowKit
set_option linter.unusedVariables false
set_option linter.unusedSimpArgs false
set_option maxRecDepth 4000

set_option maxHeartbeats 1600000 in
theorem server_any (s : ByteArray) (w : World) (hs : s.size ≤ maxLen) :
    Calls Try.prog 83 #[.string s] w (BoolPost (serverB s) w) := by
  have hi : ∀ (x0 x1 x2 x3 : Value) (w : World), (Instr.index 90 (.agg #[x0, x1, x2, x3]) (.int .i64 2)).run Try.prog w = .ok x2 w := fun _ _ _ _ _ => by kernel_rfl
  cases hf : filledB hostI s
  · have Hs := Lib.hid (serverB_no s hf)
    have Hf := Lib.hid hf
    clear hf
    go_enter Try.func83, Try.ntmps83
    go_wp2_with fail
    refine (filled_host s _ hs).mono ?_
    rintro e w1 ⟨rfl, hb1⟩
    rw [Hf.out]
    go_wp2
    go_ret
    rw [Hs.out]
    exact ⟨rfl, hb1⟩
  · obtain ⟨z1, z2⟩ := filledB_size hf
    have hb0 : (s[0].toNat : Int) ≤ 255 := by have := s[0].toNat_lt; omega
    have hbl : (s[s.size - 1].toNat : Int) ≤ 255 := by have := s[s.size - 1].toNat_lt; omega
    have hyes := serverB_yes s hf z1
    have Hf := Lib.hid hf
    clear hf
    cases h0 : lowI (s[0].toNat : Int)
    · rw [h0] at hyes
      have Hs := Lib.hid hyes
      have H0 := Lib.hid h0
      clear hyes h0
      go_enter Try.func83, Try.ntmps83
      go_wp2_with fail
      refine (filled_host s _ hs).mono ?_
      rintro e w1 ⟨rfl, hb1⟩
      rw [Hf.out]
      go_wp2_with fail
      refine (stands_any _).mono ?_
      rintro e w2 ⟨v, rfl, ⟨bp, b0, b1, b2, bd, rfl, hp, hb0', hb1', hb2', hbd⟩, hbel⟩
      go_wp2_with fail
      refine (plain_any _ _ (by omega) hb0).mono ?_
      rintro e w' ⟨rfl, rfl⟩
      rw [H0.out]
      go_wp2
      go_ret
      rw [Hs.out]
      exact ⟨rfl, hb1.trans (hbel.mono hb1.size)⟩
    · rw [h0] at hyes
      have Hs := Lib.hid hyes
      have H0 := Lib.hid h0
      clear hyes h0
      go_enter Try.func83, Try.ntmps83
      go_wp2_with fail
      refine (filled_host s _ hs).mono ?_
      rintro e w1 ⟨rfl, hb1⟩
      rw [Hf.out]
      go_wp2_with fail
      refine (stands_any _).mono ?_
      rintro e w2 ⟨v, rfl, ⟨bp, b0, b1, b2, bd, rfl, hp, hb0', hb1', hb2', hbd⟩, hbel⟩
      go_wp2_with fail
      refine (plain_any _ _ (by omega) hb0).mono ?_
      rintro e w' ⟨rfl, rfl⟩
      rw [H0.out]
      go_wp2_with fail
      trace_state
      refine (plain_any _ _ (by omega) hbl).mono ?_
      rintro e w' ⟨rfl, rfl⟩
      go_wp2
      go_ret
      rw [Hs.out]
      exact ⟨rfl, hb1.trans (hbel.mono hb1.size)⟩
end Go.Proofs.Ytahgkhcmchbpbaa
