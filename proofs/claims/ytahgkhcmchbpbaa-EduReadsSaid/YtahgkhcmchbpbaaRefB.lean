/-
  What the document's answers on servers, users, rooms, events and threads come to, for every text. The world stays as it was.
-/
import Derived.Test.YtahgkhcmchbpbaaRefA
namespace Go.Proofs.Ytahgkhcmchbpbaa
open Go.RowKit
set_option linter.unusedVariables false
set_option linter.unusedSimpArgs false
set_option maxRecDepth 4000

set_option maxHeartbeats 3200000 in
theorem refServer_any (s : ByteArray) (w : World) (hs : s.size ≤ maxLen) :
    Calls Try.prog 68 #[.string s] w fun e w' => e = .returned (.bool (serverB s)) ∧ w = w' := by
  unfold maxLen at hs
  go_enter Try.func68, Try.ntmps68
  go_wp2_with fail
  go_loop [3] (fun i => ∃ k : Nat, k ≤ s.size ∧ i = .int .i64 k ∧ srvTo s k) (fun i => s.size - (intOf i).toNat)
  case atStart => exact ⟨0, Nat.zero_le _, rfl, fun j hj => absurd hj (Nat.not_lt_zero j)⟩
  case round =>
    obtain ⟨k, hk, rfl, hall⟩ := hrel
    have Hall := Lib.hid hall
    clear hall
    by_cases hlt : k < s.size
    · have hb : (s[k].toNat : Int) ≤ 255 := byte_le _
      have Hp := Lib.hid (hostI_eq (c := (s[k].toNat : Int)) (by omega) hb)
      have Hs := Lib.hid (srv_step s k Hall.out hlt)
      have Ht := Lib.hid (srv_stop s k hlt)
      cases hl : lowI (s[k].toNat : Int)
      · have Hl := Lib.hid hl
        clear hl
        by_cases hin : 0 < k ∧ k < s.size - 1
        · obtain ⟨hin0, hin1⟩ := hin
          have q1 : decide ((0 : Int) < (k : Int)) = true := by simp; omega
          have q2 : decide ((k : Int) < (s.size : Int) - 1) = true := by simp; omega
          cases h46 : ((s[k].toNat : Int) == 46) <;> cases h45 : ((s[k].toNat : Int) == 45)
          · have hx : hostI (s[k].toNat : Int) = false := by rw [Hp.out, Hl.out, h46, h45]; rfl
            have Hn := Lib.hid (Ht.out Hl.out (.inr (.inr hx)))
            clear hx
            go_wp2_with fail
            refine (low_any _ _ (by omega) hb).mono ?_
            rintro e w' ⟨rfl, rfl⟩
            rw [Hl.out]
            go_wp2
            go_ret
            rw [Hn.out]
            exact ⟨rfl, rfl⟩
          all_goals
            have hx : hostI (s[k].toNat : Int) = true := by rw [Hp.out, Hl.out, h46, h45]; rfl
            have Hn := Lib.hid (Hs.out (.inr ⟨hin0, hin1, hx⟩))
            clear hx
            go_wp2_with fail
            refine (low_any _ _ (by omega) hb).mono ?_
            rintro e w' ⟨rfl, rfl⟩
            rw [Hl.out]
            go_wp2
            go_round
            case rel => exact ⟨k + 1, by omega, by go_num, Hn.out⟩
            case measure => simp [intOf]; omega
        · have Hn := Lib.hid (Ht.out Hl.out (by omega))
          go_wp2_with fail
          refine (low_any _ _ (by omega) hb).mono ?_
          rintro e w' ⟨rfl, rfl⟩
          rw [Hl.out]
          by_cases h0 : 0 < k
          · have q1 : decide ((0 : Int) < (k : Int)) = true := by simp; omega
            have q2 : decide ((k : Int) < (s.size : Int) - 1) = false := by simp; omega
            go_wp2
            all_goals
              go_ret
              rw [Hn.out]
              exact ⟨rfl, rfl⟩
          · have q1 : decide ((0 : Int) < (k : Int)) = false := by simp; omega
            go_wp2
            all_goals
              go_ret
              rw [Hn.out]
              exact ⟨rfl, rfl⟩
      · have Hl := Lib.hid hl
        clear hl
        go_wp2_with fail
        refine (low_any _ _ (by omega) hb).mono ?_
        rintro e w' ⟨rfl, rfl⟩
        rw [Hl.out]
        go_wp2
        all_goals
          go_round
          case rel => exact ⟨k + 1, by omega, by go_num, Hs.out (.inl Hl.out)⟩
          case measure => simp [intOf]; omega
    · by_cases h1 : s.size < 1
      · have Hn := Lib.hid (srv_long s (.inl h1))
        go_wp2
        go_ret
        rw [Hn.out]
        exact ⟨rfl, rfl⟩
      · by_cases h2 : 16 < s.size
        · have Hn := Lib.hid (srv_long s (.inr h2))
          have q1 : decide ((0 : Int) < (s.size : Int)) = true := by simp; omega
          have q2 : decide ((s.size : Int) < 17) = false := by simp; omega
          go_wp2
          go_ret
          rw [Hn.out]
          exact ⟨rfl, rfl⟩
        · have Hn := Lib.hid (srv_full s k Hall.out (by omega) (by omega) (by omega))
          have q1 : decide ((0 : Int) < (s.size : Int)) = true := by simp; omega
          have q2 : decide ((s.size : Int) < 17) = true := by simp; omega
          go_wp2
          go_ret
          rw [Hn.out]
          exact ⟨rfl, rfl⟩

theorem extract_le (s : ByteArray) (a b : Nat) : (s.extract a b).size ≤ s.size := by
  rw [Lib.size_eq, Lib.extract_data, List.length_take, List.length_drop, ← Lib.size_eq]; omega

set_option maxHeartbeats 1600000 in
theorem refNamed_any (s : ByteArray) (sign : Int) (w : World) (hs : s.size ≤ maxLen) :
    Calls Try.prog 35 #[.string s, .int .u8 sign] w fun e w' => e = .returned (.bool (namedB sign s)) ∧ w = w' := by
  have hs' := hs
  unfold maxLen at hs'
  have hg := colonK_ge s
  have hl := colonK_lt s
  by_cases h1 : colonK s < 1
  · have Hn := Lib.hid (named_off sign s h1)
    go_enter Try.func35, Try.ntmps35
    go_wp2_with fail
    refine (colon_any s _ hs).mono ?_
    rintro e w' ⟨rfl, rfl⟩
    go_wp2
    go_ret
    rw [Hn.out]
    exact ⟨rfl, rfl⟩
  · obtain ⟨k, hk⟩ := Int.eq_ofNat_of_zero_le (a := colonK s) (by omega)
    have hk1 : 1 ≤ k := by omega
    have hkl : k < s.size := by omega
    have hz : 0 < s.size := by omega
    have hn := named_on sign s k hk hk1 hz
    have Hk := Lib.hid hk
    clear hk h1 hg hl
    cases hd : ((s[0].toNat : Int) == sign)
    · rw [hd] at hn
      have Hn := Lib.hid hn
      have q1 : ((s[0].toNat : Int) != sign) = true := by rw [bne, hd]; rfl
      clear hn
      go_enter Try.func35, Try.ntmps35
      go_wp2_with fail
      refine (colon_any s _ hs).mono ?_
      rintro e w' ⟨rfl, rfl⟩
      rw [Hk.out]
      go_wp2
      go_ret
      rw [Hn.out]
      exact ⟨rfl, rfl⟩
    · rw [hd] at hn
      have Hn := Lib.hid hn
      have q1 : ((s[0].toNat : Int) != sign) = false := by rw [bne, hd]; rfl
      clear hn
      have hx := extract_le s 1 k
      have hy := extract_le s (k + 1) s.size
      go_enter Try.func35, Try.ntmps35
      go_wp2_with fail
      refine (colon_any s _ hs).mono ?_
      rintro e w' ⟨rfl, rfl⟩
      rw [Hk.out]
      go_wp2_with fail
      refine (refPart_any (s.extract 1 k) _ (Nat.le_trans hx hs)).mono ?_
      rintro e w' ⟨rfl, rfl⟩
      go_wp2_with fail
      refine (refServer_any (s.extract (k + 1) s.size) _ (Nat.le_trans hy hs)).mono ?_
      rintro e w' ⟨rfl, rfl⟩
      go_wp2
      all_goals
        go_ret
        rw [Hn.out]
        refine ⟨?_, rfl⟩
        simp [*]
end Go.Proofs.Ytahgkhcmchbpbaa
