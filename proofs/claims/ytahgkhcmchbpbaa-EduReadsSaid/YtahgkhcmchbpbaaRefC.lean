/-
  What the document's answers on events, threads, homes and parts come to, and what the statements' own helpers give: a number brought into a range, the first bytes of a text. The world stays as it was.
-/
import Derived.Test.YtahgkhcmchbpbaaRefB
namespace Go.Proofs.Ytahgkhcmchbpbaa
open Go.RowKit
set_option linter.unusedVariables false
set_option linter.unusedSimpArgs false
set_option maxRecDepth 4000

set_option maxHeartbeats 3200000 in
theorem refEvent_any (s : ByteArray) (w : World) (hs : s.size ≤ maxLen) :
    Calls Try.prog 36 #[.string s] w fun e w' => e = .returned (.bool (eventB s)) ∧ w = w' := by
  unfold maxLen at hs
  by_cases h1 : s.size < 2
  · have Hn := Lib.hid (ev_size s (.inl h1))
    go_enter Try.func36, Try.ntmps36
    go_wp2
    go_ret
    rw [Hn.out]
    exact ⟨rfl, rfl⟩
  by_cases h2 : 17 < s.size
  · have Hn := Lib.hid (ev_size s (.inr h2))
    have q1 : decide ((s.size : Int) < 2) = false := by simp; omega
    have q2 : decide ((17 : Int) < (s.size : Int)) = true := by simp; omega
    go_enter Try.func36, Try.ntmps36
    go_wp2
    go_ret
    rw [Hn.out]
    exact ⟨rfl, rfl⟩
  have hz : 0 < s.size := by omega
  have q1 : decide ((s.size : Int) < 2) = false := by simp; omega
  have q2 : decide ((17 : Int) < (s.size : Int)) = false := by simp; omega
  cases hd : ((s[0].toNat : Int) == 36)
  · have Hn := Lib.hid (ev_other s hz hd)
    have q3 : ((s[0].toNat : Int) != 36) = true := by rw [bne, hd]; rfl
    go_enter Try.func36, Try.ntmps36
    go_wp2
    go_ret
    rw [Hn.out]
    exact ⟨rfl, rfl⟩
  have q3 : ((s[0].toNat : Int) != 36) = false := by rw [bne, hd]; rfl
  have Hd := Lib.hid hd
  clear hd
  go_enter Try.func36, Try.ntmps36
  go_wp2_with fail
  go_loop [3] (fun i => ∃ k : Nat, 1 ≤ k ∧ k ≤ s.size ∧ i = .int .i64 k ∧ evTo s k) (fun i => s.size - (intOf i).toNat)
  case atStart => exact ⟨1, Nat.le_refl _, by omega, rfl, fun j h1 h2 => by omega⟩
  case round =>
    obtain ⟨k, hk1, hk, rfl, hall⟩ := hrel
    have Hall := Lib.hid hall
    clear hall
    by_cases hlt : k < s.size
    · have hb : (s[k].toNat : Int) ≤ 255 := byte_le _
      have Hp := Lib.hid (signI_eq (c := (s[k].toNat : Int)) (by omega) hb)
      have Hs := Lib.hid (ev_step s k Hall.out hlt)
      have Ht := Lib.hid (ev_stop s k hk1 hlt)
      cases hl : lowI (s[k].toNat : Int)
      · have Hl := Lib.hid hl
        clear hl
        by_cases hgr : 65 ≤ (s[k].toNat : Int) ∧ (s[k].toNat : Int) ≤ 90
        · have hx : signI (s[k].toNat : Int) = true := by rw [Hp.out, Hl.out, decide_eq_true hgr]; rfl
          have Hn := Lib.hid (Hs.out hx)
          clear hx
          obtain ⟨hg1, hg2⟩ := hgr
          go_wp2_with fail
          refine (low_any _ _ (by omega) hb).mono ?_
          rintro e w' ⟨rfl, rfl⟩
          rw [Hl.out]
          go_wp2
          go_round
          case rel => exact ⟨k + 1, by omega, by omega, by go_num, Hn.out⟩
          case measure => simp [intOf]; omega
        · have hgr' := decide_eq_false hgr
          cases h45 : ((s[k].toNat : Int) == 45) <;> cases h95 : ((s[k].toNat : Int) == 95)
          · have hx : signI (s[k].toNat : Int) = false := by rw [Hp.out, Hl.out, hgr', h45, h95]; rfl
            have Hn := Lib.hid (Ht.out hx)
            have q4 : ((s[k].toNat : Int) != 45) = true := by rw [bne, h45]; rfl
            have q5 : ((s[k].toNat : Int) != 95) = true := by rw [bne, h95]; rfl
            clear hx hgr'
            by_cases hg1 : 65 ≤ (s[k].toNat : Int)
            · have q6 : decide ((65 : Int) ≤ (s[k].toNat : Int)) = true := decide_eq_true hg1
              have q7 : decide ((s[k].toNat : Int) ≤ 90) = false := by simp; omega
              clear hgr
              go_wp2_with fail
              refine (low_any _ _ (by omega) hb).mono ?_
              rintro e w' ⟨rfl, rfl⟩
              rw [Hl.out]
              go_wp2
              go_ret
              rw [Hn.out]
              exact ⟨rfl, rfl⟩
            · have q6 : decide ((65 : Int) ≤ (s[k].toNat : Int)) = false := by simp; omega
              clear hgr
              go_wp2_with fail
              refine (low_any _ _ (by omega) hb).mono ?_
              rintro e w' ⟨rfl, rfl⟩
              rw [Hl.out]
              go_wp2
              go_ret
              rw [Hn.out]
              exact ⟨rfl, rfl⟩
          all_goals
            have hx : signI (s[k].toNat : Int) = true := by rw [Hp.out, Hl.out, hgr', h45, h95]; rfl
            have Hn := Lib.hid (Hs.out hx)
            clear hx hgr' hgr
            have q4 : ((s[k].toNat : Int) != 45) = !((s[k].toNat : Int) == 45) := rfl
            have q5 : ((s[k].toNat : Int) != 95) = !((s[k].toNat : Int) == 95) := rfl
            rw [h45] at q4
            rw [h95] at q5
            go_wp2_with fail
            refine (low_any _ _ (by omega) hb).mono ?_
            rintro e w' ⟨rfl, rfl⟩
            rw [Hl.out]
            go_wp2
            all_goals
              go_round
              case rel => exact ⟨k + 1, by omega, by omega, by go_num, Hn.out⟩
              case measure => simp [intOf]; omega
      · have Hl := Lib.hid hl
        clear hl
        have hx : signI (s[k].toNat : Int) = true := by rw [Hp.out, Hl.out]; rfl
        have Hn := Lib.hid (Hs.out hx)
        clear hx
        go_wp2_with fail
        refine (low_any _ _ (by omega) hb).mono ?_
        rintro e w' ⟨rfl, rfl⟩
        rw [Hl.out]
        go_wp2
        all_goals
          go_round
          case rel => exact ⟨k + 1, by omega, by omega, by go_num, Hn.out⟩
          case measure => simp [intOf]; omega
    · have Hn := Lib.hid (ev_full s k Hall.out (by omega) (by omega) (by omega) Hd.out)
      go_wp2
      go_ret
      rw [Hn.out]
      exact ⟨rfl, rfl⟩

theorem refThread_any (s : ByteArray) (w : World) (hs : s.size ≤ maxLen) :
    Calls Try.prog 37 #[.string s] w fun e w' => e = .returned (.bool (threadB s)) ∧ w = w' := by
  go_enter Try.func37, Try.ntmps37
  go_wp2_with fail
  refine (refEvent_any s _ hs).mono ?_
  rintro e w' ⟨rfl, rfl⟩
  go_wp2
  all_goals
    go_ret
    refine ⟨?_, rfl⟩
    simp [threadB, *]

end Go.Proofs.Ytahgkhcmchbpbaa
