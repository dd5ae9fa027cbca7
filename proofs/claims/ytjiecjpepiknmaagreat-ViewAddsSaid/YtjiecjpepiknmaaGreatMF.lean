/-
  The document's names.
-/
import Derived.Test.YtjiecjpepiknmaaGreatME
import Derived.Test.YtjiecjpepiknmaaGreatMA
namespace Go.Proofs.YtjiecjpepiknmaaGreat
open Go.RowKit
set_option linter.unusedVariables false
set_option linter.unusedSimpArgs false
set_option maxRecDepth 20000

set_option maxHeartbeats 1600000 in
theorem refPart_any (s : ByteArray) (w : World) (hs : s.size ≤ maxLen) :
    Calls Tryz.prog 143 #[.string s] w fun e w' => e = .returned (.bool (filledB partI s)) ∧ w = w' := by
  unfold maxLen at hs
  go_enter Tryz.func143, Tryz.ntmps143
  go_wp2_with fail
  go_loop [3] (fun i => ∃ k : Nat, k ≤ s.size ∧ i = .int .i64 k ∧ allI partI (s.data.toList.take k) = true) (fun i => s.size - (intOf i).toNat)
  case atStart => exact ⟨0, Nat.zero_le _, rfl, by simp [allI]⟩
  case round =>
    obtain ⟨k, hk, rfl, hall⟩ := hrel
    have Hall := Lib.hid hall
    clear hall
    by_cases hlt : k < s.size
    · have hb : (s[k].toNat : Int) ≤ 255 := by have := s[k].toNat_lt; omega
      have Hp := Lib.hid (partI_eq (c := (s[k].toNat : Int)) (by omega) hb)
      have Hs := Lib.hid (allI_step partI s k hlt Hall.out)
      have Ht := Lib.hid (allI_stop partI s k hlt)
      cases hl : lowI (s[k].toNat : Int)
      · have Hl := Lib.hid hl
        clear hl
        go_wp2_with fail
        refine (low_any _ _ (by omega) hb).mono ?_
        rintro e w' ⟨rfl, rfl⟩
        rw [Hl.out]
        go_wp2
        all_goals first
          | (go_ret
             have hx : partI (s[k].toNat : Int) = false := by
               rw [Hp.out, Hl.out]
               try simp only [bne_iff_ne] at *
               simp
               omega
             rw [filledB_stop partI s (Ht.out hx)]
             exact ⟨rfl, rfl⟩)
          | (have hx : partI (s[k].toNat : Int) = true := by
               rw [Hp.out, Hl.out]
               try simp only [bne_eq_false_iff_eq] at *
               simp
               omega
             go_round
             case rel => exact ⟨k + 1, by omega, by go_num, Hs.out hx⟩
             case measure => simp [intOf]; omega)
      · have Hl := Lib.hid hl
        clear hl
        go_wp2_with fail
        refine (low_any _ _ (by omega) hb).mono ?_
        rintro e w' ⟨rfl, rfl⟩
        rw [Hl.out]
        go_wp2
        go_round
        case rel => exact ⟨k + 1, by omega, by go_num, Hs.out (by rw [Hp.out, Hl.out]; rfl)⟩
        case measure => simp [intOf]; omega
    · have Hf := Lib.hid (allI_full partI s k (by omega) Hall.out)
      by_cases h1 : s.size < 1
      · have Hn := Lib.hid (filledB_no partI s (.inl h1))
        go_wp2
        go_ret
        rw [Hn.out]
        exact ⟨rfl, rfl⟩
      · by_cases h2 : 16 < s.size
        · have Hn := Lib.hid (filledB_no partI s (.inr h2))
          have q1 : decide ((0 : Int) < (s.size : Int)) = true := by simp; omega
          have q2 : decide ((s.size : Int) < 17) = false := by simp; omega
          go_wp2
          go_ret
          rw [Hn.out]
          exact ⟨rfl, rfl⟩
        · have Hn := Lib.hid (filledB_in partI s (by omega) (by omega))
          have q1 : decide ((0 : Int) < (s.size : Int)) = true := by simp; omega
          have q2 : decide ((s.size : Int) < 17) = true := by simp; omega
          go_wp2
          go_ret
          rw [Hn.out, Hf.out]
          exact ⟨rfl, rfl⟩

set_option maxHeartbeats 1600000 in
theorem colon_any (s : ByteArray) (w : World) (hs : s.size ≤ maxLen) :
    Calls Tryz.prog 137 #[.string s] w fun e w' => e = .returned (.int .i64 (colonK s)) ∧ w = w' := by
  unfold maxLen at hs
  go_enter Tryz.func137, Tryz.ntmps137
  go_wp2_with fail
  go_loop [3] (fun i => ∃ k : Nat, k ≤ s.size ∧ i = .int .i64 k ∧ colonK s = (if Lib.indexByte (s.data.toList.drop k) 58 = -1 then -1 else Lib.indexByte (s.data.toList.drop k) 58 + k)) (fun i => s.size - (intOf i).toNat)
  case atStart => exact ⟨0, Nat.zero_le _, rfl, by rw [List.drop_zero]; unfold colonK; split <;> simp_all⟩
  case round =>
    obtain ⟨k, hk, rfl, hall⟩ := hrel
    have Hall := Lib.hid hall
    clear hall
    by_cases hlt : k < s.size
    · cases hc : ((s[k].toNat : Int) == 58)
      · have Hn := Lib.hid (colon_miss s k hlt hc)
        go_wp2
        go_round
        case rel => exact ⟨k + 1, by omega, by go_num, by rw [Hall.out]; exact Hn.out⟩
        case measure => simp [intOf]; omega
      · have Hn := Lib.hid (colon_hit s k hlt hc)
        go_wp2
        go_ret
        rw [Hall.out, Hn.out]
        exact ⟨rfl, rfl⟩
    · have Hn := Lib.hid (colon_end s k (by omega))
      go_wp2
      go_ret
      rw [Hall.out, Hn.out]
      exact ⟨rfl, rfl⟩
end Go.Proofs.YtjiecjpepiknmaaGreat

namespace Go.Proofs.YtjiecjpepiknmaaGreat
open Go.RowKit
set_option linter.unusedVariables false
set_option linter.unusedSimpArgs false
set_option maxRecDepth 20000

set_option maxHeartbeats 3200000 in
theorem refServer_any (s : ByteArray) (w : World) (hs : s.size ≤ maxLen) :
    Calls Tryz.prog 144 #[.string s] w fun e w' => e = .returned (.bool (serverB s)) ∧ w = w' := by
  unfold maxLen at hs
  go_enter Tryz.func144, Tryz.ntmps144
  go_wp2_with fail
  go_loop [3] (fun i => ∃ k : Nat, k ≤ s.size ∧ i = .int .i64 k ∧ srvTo s k) (fun i => s.size - (intOf i).toNat)
  case atStart => exact ⟨0, Nat.zero_le _, rfl, fun j hj => absurd hj (Nat.not_lt_zero j)⟩
  case round =>
    obtain ⟨k, hk, rfl, hall⟩ := hrel
    have Hall := Lib.hid hall
    clear hall
    by_cases hlt : k < s.size
    · have hb : (s[k].toNat : Int) ≤ 255 := byte_le _
      have Hp := Lib.hid (hostI_eq (c := (s[k].toNat : Int)) (by omega) hb)
      have Hs := Lib.hid (srv_step s k Hall.out hlt)
      have Ht := Lib.hid (srv_stop s k hlt)
      cases hl : lowI (s[k].toNat : Int)
      · have Hl := Lib.hid hl
        clear hl
        by_cases hin : 0 < k ∧ k < s.size - 1
        · obtain ⟨hin0, hin1⟩ := hin
          have q1 : decide ((0 : Int) < (k : Int)) = true := by simp; omega
          have q2 : decide ((k : Int) < (s.size : Int) - 1) = true := by simp; omega
          cases h46 : ((s[k].toNat : Int) == 46) <;> cases h45 : ((s[k].toNat : Int) == 45)
          · have hx : hostI (s[k].toNat : Int) = false := by rw [Hp.out, Hl.out, h46, h45]; rfl
            have Hn := Lib.hid (Ht.out Hl.out (.inr (.inr hx)))
            clear hx
            go_wp2_with fail
            refine (low_any _ _ (by omega) hb).mono ?_
            rintro e w' ⟨rfl, rfl⟩
            rw [Hl.out]
            go_wp2
            go_ret
            rw [Hn.out]
            exact ⟨rfl, rfl⟩
          all_goals
            have hx : hostI (s[k].toNat : Int) = true := by rw [Hp.out, Hl.out, h46, h45]; rfl
            have Hn := Lib.hid (Hs.out (.inr ⟨hin0, hin1, hx⟩))
            clear hx
            go_wp2_with fail
            refine (low_any _ _ (by omega) hb).mono ?_
            rintro e w' ⟨rfl, rfl⟩
            rw [Hl.out]
            go_wp2
            go_round
            case rel => exact ⟨k + 1, by omega, by go_num, Hn.out⟩
            case measure => simp [intOf]; omega
        · have Hn := Lib.hid (Ht.out Hl.out (by omega))
          go_wp2_with fail
          refine (low_any _ _ (by omega) hb).mono ?_
          rintro e w' ⟨rfl, rfl⟩
          rw [Hl.out]
          by_cases h0 : 0 < k
          · have q1 : decide ((0 : Int) < (k : Int)) = true := by simp; omega
            have q2 : decide ((k : Int) < (s.size : Int) - 1) = false := by simp; omega
            go_wp2
            all_goals
              go_ret
              rw [Hn.out]
              exact ⟨rfl, rfl⟩
          · have q1 : decide ((0 : Int) < (k : Int)) = false := by simp; omega
            go_wp2
            all_goals
              go_ret
              rw [Hn.out]
              exact ⟨rfl, rfl⟩
      · have Hl := Lib.hid hl
        clear hl
        go_wp2_with fail
        refine (low_any _ _ (by omega) hb).mono ?_
        rintro e w' ⟨rfl, rfl⟩
        rw [Hl.out]
        go_wp2
        all_goals
          go_round
          case rel => exact ⟨k + 1, by omega, by go_num, Hs.out (.inl Hl.out)⟩
          case measure => simp [intOf]; omega
    · by_cases h1 : s.size < 1
      · have Hn := Lib.hid (srv_long s (.inl h1))
        go_wp2
        go_ret
        rw [Hn.out]
        exact ⟨rfl, rfl⟩
      · by_cases h2 : 16 < s.size
        · have Hn := Lib.hid (srv_long s (.inr h2))
          have q1 : decide ((0 : Int) < (s.size : Int)) = true := by simp; omega
          have q2 : decide ((s.size : Int) < 17) = false := by simp; omega
          go_wp2
          go_ret
          rw [Hn.out]
          exact ⟨rfl, rfl⟩
        · have Hn := Lib.hid (srv_full s k Hall.out (by omega) (by omega) (by omega))
          have q1 : decide ((0 : Int) < (s.size : Int)) = true := by simp; omega
          have q2 : decide ((s.size : Int) < 17) = true := by simp; omega
          go_wp2
          go_ret
          rw [Hn.out]
          exact ⟨rfl, rfl⟩

theorem extract_le (s : ByteArray) (a b : Nat) : (s.extract a b).size ≤ s.size := by
  rw [Lib.size_eq, Lib.extract_data, List.length_take, List.length_drop, ← Lib.size_eq]; omega

set_option maxHeartbeats 1600000 in
theorem refNamed_any (s : ByteArray) (sign : Int) (w : World) (hs : s.size ≤ maxLen) :
    Calls Tryz.prog 109 #[.string s, .int .u8 sign] w fun e w' => e = .returned (.bool (namedB sign s)) ∧ w = w' := by
  have hs' := hs
  unfold maxLen at hs'
  have hg := colonK_ge s
  have hl := colonK_lt s
  by_cases h1 : colonK s < 1
  · have Hn := Lib.hid (named_off sign s h1)
    go_enter Tryz.func109, Tryz.ntmps109
    go_wp2_with fail
    refine (colon_any s _ hs).mono ?_
    rintro e w' ⟨rfl, rfl⟩
    go_wp2
    go_ret
    rw [Hn.out]
    exact ⟨rfl, rfl⟩
  · obtain ⟨k, hk⟩ := Int.eq_ofNat_of_zero_le (a := colonK s) (by omega)
    have hk1 : 1 ≤ k := by omega
    have hkl : k < s.size := by omega
    have hz : 0 < s.size := by omega
    have hn := named_on sign s k hk hk1 hz
    have Hk := Lib.hid hk
    clear hk h1 hg hl
    cases hd : ((s[0].toNat : Int) == sign)
    · rw [hd] at hn
      have Hn := Lib.hid hn
      have q1 : ((s[0].toNat : Int) != sign) = true := by rw [bne, hd]; rfl
      clear hn
      go_enter Tryz.func109, Tryz.ntmps109
      go_wp2_with fail
      refine (colon_any s _ hs).mono ?_
      rintro e w' ⟨rfl, rfl⟩
      rw [Hk.out]
      go_wp2
      go_ret
      rw [Hn.out]
      exact ⟨rfl, rfl⟩
    · rw [hd] at hn
      have Hn := Lib.hid hn
      have q1 : ((s[0].toNat : Int) != sign) = false := by rw [bne, hd]; rfl
      clear hn
      have hx := extract_le s 1 k
      have hy := extract_le s (k + 1) s.size
      go_enter Tryz.func109, Tryz.ntmps109
      go_wp2_with fail
      refine (colon_any s _ hs).mono ?_
      rintro e w' ⟨rfl, rfl⟩
      rw [Hk.out]
      go_wp2_with fail
      refine (refPart_any (s.extract 1 k) _ (Nat.le_trans hx hs)).mono ?_
      rintro e w' ⟨rfl, rfl⟩
      go_wp2_with fail
      refine (refServer_any (s.extract (k + 1) s.size) _ (Nat.le_trans hy hs)).mono ?_
      rintro e w' ⟨rfl, rfl⟩
      go_wp2
      all_goals
        go_ret
        rw [Hn.out]
        refine ⟨?_, rfl⟩
        simp [*]
end Go.Proofs.YtjiecjpepiknmaaGreat

namespace Go.Proofs.YtjiecjpepiknmaaGreat
open Go.RowKit
set_option linter.unusedVariables false
set_option linter.unusedSimpArgs false
set_option maxRecDepth 20000

set_option maxHeartbeats 3200000 in
theorem refEvent_any (s : ByteArray) (w : World) (hs : s.size ≤ maxLen) :
    Calls Tryz.prog 108 #[.string s] w fun e w' => e = .returned (.bool (eventB s)) ∧ w = w' := by
  unfold maxLen at hs
  by_cases h1 : s.size < 2
  · have Hn := Lib.hid (ev_size s (.inl h1))
    go_enter Tryz.func108, Tryz.ntmps108
    go_wp2
    go_ret
    rw [Hn.out]
    exact ⟨rfl, rfl⟩
  by_cases h2 : 17 < s.size
  · have Hn := Lib.hid (ev_size s (.inr h2))
    have q1 : decide ((s.size : Int) < 2) = false := by simp; omega
    have q2 : decide ((17 : Int) < (s.size : Int)) = true := by simp; omega
    go_enter Tryz.func108, Tryz.ntmps108
    go_wp2
    go_ret
    rw [Hn.out]
    exact ⟨rfl, rfl⟩
  have hz : 0 < s.size := by omega
  have q1 : decide ((s.size : Int) < 2) = false := by simp; omega
  have q2 : decide ((17 : Int) < (s.size : Int)) = false := by simp; omega
  cases hd : ((s[0].toNat : Int) == 36)
  · have Hn := Lib.hid (ev_other s hz hd)
    have q3 : ((s[0].toNat : Int) != 36) = true := by rw [bne, hd]; rfl
    go_enter Tryz.func108, Tryz.ntmps108
    go_wp2
    go_ret
    rw [Hn.out]
    exact ⟨rfl, rfl⟩
  have q3 : ((s[0].toNat : Int) != 36) = false := by rw [bne, hd]; rfl
  have Hd := Lib.hid hd
  clear hd
  go_enter Tryz.func108, Tryz.ntmps108
  go_wp2_with fail
  go_loop [3] (fun i => ∃ k : Nat, 1 ≤ k ∧ k ≤ s.size ∧ i = .int .i64 k ∧ evTo s k) (fun i => s.size - (intOf i).toNat)
  case atStart => exact ⟨1, Nat.le_refl _, by omega, rfl, fun j h1 h2 => by omega⟩
  case round =>
    obtain ⟨k, hk1, hk, rfl, hall⟩ := hrel
    have Hall := Lib.hid hall
    clear hall
    by_cases hlt : k < s.size
    · have hb : (s[k].toNat : Int) ≤ 255 := byte_le _
      have Hp := Lib.hid (signI_eq (c := (s[k].toNat : Int)) (by omega) hb)
      have Hs := Lib.hid (ev_step s k Hall.out hlt)
      have Ht := Lib.hid (ev_stop s k hk1 hlt)
      cases hl : lowI (s[k].toNat : Int)
      · have Hl := Lib.hid hl
        clear hl
        by_cases hgr : 65 ≤ (s[k].toNat : Int) ∧ (s[k].toNat : Int) ≤ 90
        · have hx : signI (s[k].toNat : Int) = true := by rw [Hp.out, Hl.out, decide_eq_true hgr]; rfl
          have Hn := Lib.hid (Hs.out hx)
          clear hx
          obtain ⟨hg1, hg2⟩ := hgr
          go_wp2_with fail
          refine (low_any _ _ (by omega) hb).mono ?_
          rintro e w' ⟨rfl, rfl⟩
          rw [Hl.out]
          go_wp2
          go_round
          case rel => exact ⟨k + 1, by omega, by omega, by go_num, Hn.out⟩
          case measure => simp [intOf]; omega
        · have hgr' := decide_eq_false hgr
          cases h45 : ((s[k].toNat : Int) == 45) <;> cases h95 : ((s[k].toNat : Int) == 95)
          · have hx : signI (s[k].toNat : Int) = false := by rw [Hp.out, Hl.out, hgr', h45, h95]; rfl
            have Hn := Lib.hid (Ht.out hx)
            have q4 : ((s[k].toNat : Int) != 45) = true := by rw [bne, h45]; rfl
            have q5 : ((s[k].toNat : Int) != 95) = true := by rw [bne, h95]; rfl
            clear hx hgr'
            by_cases hg1 : 65 ≤ (s[k].toNat : Int)
            · have q6 : decide ((65 : Int) ≤ (s[k].toNat : Int)) = true := decide_eq_true hg1
              have q7 : decide ((s[k].toNat : Int) ≤ 90) = false := by simp; omega
              clear hgr
              go_wp2_with fail
              refine (low_any _ _ (by omega) hb).mono ?_
              rintro e w' ⟨rfl, rfl⟩
              rw [Hl.out]
              go_wp2
              go_ret
              rw [Hn.out]
              exact ⟨rfl, rfl⟩
            · have q6 : decide ((65 : Int) ≤ (s[k].toNat : Int)) = false := by simp; omega
              clear hgr
              go_wp2_with fail
              refine (low_any _ _ (by omega) hb).mono ?_
              rintro e w' ⟨rfl, rfl⟩
              rw [Hl.out]
              go_wp2
              go_ret
              rw [Hn.out]
              exact ⟨rfl, rfl⟩
          all_goals
            have hx : signI (s[k].toNat : Int) = true := by rw [Hp.out, Hl.out, hgr', h45, h95]; rfl
            have Hn := Lib.hid (Hs.out hx)
            clear hx hgr' hgr
            have q4 : ((s[k].toNat : Int) != 45) = !((s[k].toNat : Int) == 45) := rfl
            have q5 : ((s[k].toNat : Int) != 95) = !((s[k].toNat : Int) == 95) := rfl
            rw [h45] at q4
            rw [h95] at q5
            go_wp2_with fail
            refine (low_any _ _ (by omega) hb).mono ?_
            rintro e w' ⟨rfl, rfl⟩
            rw [Hl.out]
            go_wp2
            all_goals
              go_round
              case rel => exact ⟨k + 1, by omega, by omega, by go_num, Hn.out⟩
              case measure => simp [intOf]; omega
      · have Hl := Lib.hid hl
        clear hl
        have hx : signI (s[k].toNat : Int) = true := by rw [Hp.out, Hl.out]; rfl
        have Hn := Lib.hid (Hs.out hx)
        clear hx
        go_wp2_with fail
        refine (low_any _ _ (by omega) hb).mono ?_
        rintro e w' ⟨rfl, rfl⟩
        rw [Hl.out]
        go_wp2
        all_goals
          go_round
          case rel => exact ⟨k + 1, by omega, by omega, by go_num, Hn.out⟩
          case measure => simp [intOf]; omega
    · have Hn := Lib.hid (ev_full s k Hall.out (by omega) (by omega) (by omega) Hd.out)
      go_wp2
      go_ret
      rw [Hn.out]
      exact ⟨rfl, rfl⟩


set_option maxHeartbeats 1600000 in
theorem refHome_any (s : ByteArray) (w : World) (hs : s.size ≤ maxLen) :
    Calls Tryz.prog 99 #[.string s] w fun e w' => e = .returned (.string (homeS s)) ∧ w = w' := by
  have hs' := hs
  unfold maxLen at hs'
  cases ha : namedB 64 s <;> cases hb : namedB 33 s
  · have Hh := Lib.hid (splits_no s (by unfold nameB; rw [ha, hb]; rfl)).2.2
    have Ha := Lib.hid ha
    have Hb := Lib.hid hb
    clear ha hb
    go_enter Tryz.func99, Tryz.ntmps99
    go_wp2_with fail
    refine (refNamed_any s _ _ hs).mono ?_
    rintro e w' ⟨rfl, rfl⟩
    rw [Ha.out]
    go_wp2_with fail
    refine (refNamed_any s _ _ hs).mono ?_
    rintro e w' ⟨rfl, rfl⟩
    rw [Hb.out]
    go_wp2
    go_ret
    rw [Hh.out]
    exact ⟨rfl, rfl⟩
  all_goals
    have hn : nameB s = true := by unfold nameB; rw [ha, hb]; rfl
    obtain ⟨k, hk, hk1, hkl⟩ := nameB_colon s hn
    have Hh := Lib.hid (splits_yes s hn k hk).2
    have Ha := Lib.hid ha
    have Hb := Lib.hid hb
    have Hk := Lib.hid hk
    clear ha hb hk hn
    go_enter Tryz.func99, Tryz.ntmps99
    go_wp2_with fail
    refine (refNamed_any s _ _ hs).mono ?_
    rintro e w' ⟨rfl, rfl⟩
    rw [Ha.out]
    go_wp2_with fail
    refine (refNamed_any s _ _ hs).mono ?_
    rintro e w' ⟨rfl, rfl⟩
    rw [Hb.out]
    go_wp2_with fail
    refine (colon_any s _ hs).mono ?_
    rintro e w' ⟨rfl, rfl⟩
    rw [Hk.out]
    go_wp2
    go_ret
    rw [Hh.out]
    exact ⟨rfl, rfl⟩
end Go.Proofs.YtjiecjpepiknmaaGreat
