/-
  What the document's answers on parts and colons come to, for every text. The world stays as it was.
-/
import Derived.Test.YtahgkhcmchbpbaaLeaf
import Derived.Test.YtahgkhcmchbpbaaNames
namespace Go.Proofs.Ytahgkhcmchbpbaa
open Go.RowKit
set_option linter.unusedVariables false
set_option linter.unusedSimpArgs false
set_option maxRecDepth 4000

set_option maxHeartbeats 1600000 in
theorem refPart_any (s : ByteArray) (w : World) (hs : s.size ≤ maxLen) :
    Calls Try.prog 67 #[.string s] w fun e w' => e = .returned (.bool (filledB partI s)) ∧ w = w' := by
  unfold maxLen at hs
  go_enter Try.func67, Try.ntmps67
  go_wp2_with fail
  go_loop [3] (fun i => ∃ k : Nat, k ≤ s.size ∧ i = .int .i64 k ∧ allI partI (s.data.toList.take k) = true) (fun i => s.size - (intOf i).toNat)
  case atStart => exact ⟨0, Nat.zero_le _, rfl, by simp [allI]⟩
  case round =>
    obtain ⟨k, hk, rfl, hall⟩ := hrel
    have Hall := Lib.hid hall
    clear hall
    by_cases hlt : k < s.size
    · have hb : (s[k].toNat : Int) ≤ 255 := by have := s[k].toNat_lt; omega
      have Hp := Lib.hid (partI_eq (c := (s[k].toNat : Int)) (by omega) hb)
      have Hs := Lib.hid (allI_step partI s k hlt Hall.out)
      have Ht := Lib.hid (allI_stop partI s k hlt)
      cases hl : lowI (s[k].toNat : Int)
      · have Hl := Lib.hid hl
        clear hl
        go_wp2_with fail
        refine (low_any _ _ (by omega) hb).mono ?_
        rintro e w' ⟨rfl, rfl⟩
        rw [Hl.out]
        go_wp2
        all_goals first
          | (go_ret
             have hx : partI (s[k].toNat : Int) = false := by
               rw [Hp.out, Hl.out]
               try simp only [bne_iff_ne] at *
               simp
               omega
             rw [filledB_stop partI s (Ht.out hx)]
             exact ⟨rfl, rfl⟩)
          | (have hx : partI (s[k].toNat : Int) = true := by
               rw [Hp.out, Hl.out]
               try simp only [bne_eq_false_iff_eq] at *
               simp
               omega
             go_round
             case rel => exact ⟨k + 1, by omega, by go_num, Hs.out hx⟩
             case measure => simp [intOf]; omega)
      · have Hl := Lib.hid hl
        clear hl
        go_wp2_with fail
        refine (low_any _ _ (by omega) hb).mono ?_
        rintro e w' ⟨rfl, rfl⟩
        rw [Hl.out]
        go_wp2
        go_round
        case rel => exact ⟨k + 1, by omega, by go_num, Hs.out (by rw [Hp.out, Hl.out]; rfl)⟩
        case measure => simp [intOf]; omega
    · have Hf := Lib.hid (allI_full partI s k (by omega) Hall.out)
      by_cases h1 : s.size < 1
      · have Hn := Lib.hid (filledB_no partI s (.inl h1))
        go_wp2
        go_ret
        rw [Hn.out]
        exact ⟨rfl, rfl⟩
      · by_cases h2 : 16 < s.size
        · have Hn := Lib.hid (filledB_no partI s (.inr h2))
          have q1 : decide ((0 : Int) < (s.size : Int)) = true := by simp; omega
          have q2 : decide ((s.size : Int) < 17) = false := by simp; omega
          go_wp2
          go_ret
          rw [Hn.out]
          exact ⟨rfl, rfl⟩
        · have Hn := Lib.hid (filledB_in partI s (by omega) (by omega))
          have q1 : decide ((0 : Int) < (s.size : Int)) = true := by simp; omega
          have q2 : decide ((s.size : Int) < 17) = true := by simp; omega
          go_wp2
          go_ret
          rw [Hn.out, Hf.out]
          exact ⟨rfl, rfl⟩

set_option maxHeartbeats 1600000 in
theorem colon_any (s : ByteArray) (w : World) (hs : s.size ≤ maxLen) :
    Calls Try.prog 66 #[.string s] w fun e w' => e = .returned (.int .i64 (colonK s)) ∧ w = w' := by
  unfold maxLen at hs
  go_enter Try.func66, Try.ntmps66
  go_wp2_with fail
  go_loop [3] (fun i => ∃ k : Nat, k ≤ s.size ∧ i = .int .i64 k ∧ colonK s = (if Lib.indexByte (s.data.toList.drop k) 58 = -1 then -1 else Lib.indexByte (s.data.toList.drop k) 58 + k)) (fun i => s.size - (intOf i).toNat)
  case atStart => exact ⟨0, Nat.zero_le _, rfl, by rw [List.drop_zero]; unfold colonK; split <;> simp_all⟩
  case round =>
    obtain ⟨k, hk, rfl, hall⟩ := hrel
    have Hall := Lib.hid hall
    clear hall
    by_cases hlt : k < s.size
    · cases hc : ((s[k].toNat : Int) == 58)
      · have Hn := Lib.hid (colon_miss s k hlt hc)
        go_wp2
        go_round
        case rel => exact ⟨k + 1, by omega, by go_num, by rw [Hall.out]; exact Hn.out⟩
        case measure => simp [intOf]; omega
      · have Hn := Lib.hid (colon_hit s k hlt hc)
        go_wp2
        go_ret
        rw [Hall.out, Hn.out]
        exact ⟨rfl, rfl⟩
    · have Hn := Lib.hid (colon_end s k (by omega))
      go_wp2
      go_ret
      rw [Hall.out, Hn.out]
      exact ⟨rfl, rfl⟩
end Go.Proofs.Ytahgkhcmchbpbaa
