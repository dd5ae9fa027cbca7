/-
  What package name's Event, Thread and Make answer, for every text. Nothing that was there is turned.
-/
import Derived.Test.YtahgkhcmchbpbaaSplit
import Derived.Test.YtahgkhcmchbpbaaRefC
namespace Go.Proofs.Ytahgkhcmchbpbaa
open Go.RowKit
set_option linter.unusedVariables false
set_option linter.unusedSimpArgs false
set_option maxRecDepth 4000

theorem hasPrefix_one (s : ByteArray) (c : UInt8) : Lib.hasPrefix s.data.toList [c] = (if h : 0 < s.size then s[0] == c else false) := by
  by_cases h : 0 < s.size
  · rw [dif_pos h]
    rw [data_cons s h]
    unfold Lib.hasPrefix
    rw [Bool.eq_iff_iff]
    simp
    exact eq_comm
  · rw [dif_neg h]
    obtain rfl := empty_of h
    rfl
theorem trimPrefix_one (s : ByteArray) (c : UInt8) (h : Lib.hasPrefix s.data.toList [c] = true) : (⟨(Lib.trimPrefix s.data.toList [c]).toArray⟩ : ByteArray) = restS s := by
  apply ext_data
  rw [restS_data, List.toList_toArray]
  unfold Lib.trimPrefix
  rw [if_pos h]
  rfl

set_option maxHeartbeats 800000 in
theorem event_code (s : ByteArray) (w : World) (hs : s.size ≤ maxLen) :
    Calls Try.prog 61 #[.string s] w (BoolPost (eventB s) w) := by
  cases hp : Lib.hasPrefix s.data.toList [36]
  · have he : eventB s = false := by
      rw [hasPrefix_one] at hp
      by_cases hz : 0 < s.size
      · rw [dif_pos hz, beq_eq_false_iff_ne] at hp
        apply ev_other s hz
        rw [beq_eq_false_iff_ne]
        intro e
        exact hp (UInt8.toNat_inj.1 (by show s[0].toNat = 36; omega))
      · unfold eventB; rw [dif_neg hz]
    have He := Lib.hid he
    have Hp := Lib.hid hp
    clear he hp
    go_enter Try.func61, Try.ntmps61
    go_wp2_with fail
    refine (Try.strings_CutPrefix s ⟨#[36]⟩ _).mono ?_
    rintro e w' ⟨rfl, rfl⟩
    rw [show Lib.hasPrefix s.data.toList (ByteArray.mk #[36]).data.toList = false from Hp.out]
    go_wp2
    go_ret
    rw [He.out]
    exact ⟨rfl, Below.refl _ _⟩
  · have he : eventB s = filledB signI (restS s) := by
      have hp' := hp
      rw [hasPrefix_one] at hp'
      by_cases hz : 0 < s.size
      · rw [dif_pos hz, beq_iff_eq] at hp'
        apply ev_yes s hz
        rw [hp']; rfl
      · rw [dif_neg hz] at hp'; cases hp'
    have He := Lib.hid he
    have Ht := Lib.hid (trimPrefix_one s 36 hp)
    have Hp := Lib.hid hp
    have hz := restS_size s
    have hsz : (restS s).size ≤ maxLen := by omega
    clear he hp hz
    go_enter Try.func61, Try.ntmps61
    go_wp2_with fail
    refine (Try.strings_CutPrefix s ⟨#[36]⟩ _).mono ?_
    rintro e w' ⟨rfl, rfl⟩
    rw [show Lib.hasPrefix s.data.toList (ByteArray.mk #[36]).data.toList = true from Hp.out, show (⟨(Lib.trimPrefix s.data.toList (ByteArray.mk #[36]).data.toList).toArray⟩ : ByteArray) = restS s from Ht.out]
    go_wp2_with fail
    refine (filled_sign (restS s) _ hsz).mono ?_
    rintro e w1 ⟨rfl, hb1⟩
    go_wp2
    go_ret
    rw [He.out]
    exact ⟨rfl, hb1⟩

set_option maxHeartbeats 800000 in
theorem thread_code (s : ByteArray) (w : World) (hs : s.size ≤ maxLen) :
    Calls Try.prog 62 #[.string s] w (BoolPost (threadB s) w) := by
  cases h0 : s.toList.isEmpty
  · cases hm : (s.toList == [109, 97, 105, 110])
    · have Hn := Lib.hid (show threadB s = eventB s by
        have e0 : (s.toList == []) = false := by rw [beq_eq_false_iff_ne]; intro e; rw [e] at h0; cases h0
        unfold threadB; rw [e0, hm]; rfl)
      go_enter Try.func62, Try.ntmps62
      go_wp2_with fail
      refine (event_code s _ hs).mono ?_
      rintro e w1 ⟨rfl, hb1⟩
      go_wp2
      go_ret
      rw [Hn.out]
      exact ⟨rfl, hb1⟩
    · have Hn := Lib.hid (show threadB s = true by unfold threadB; rw [hm, Bool.or_true]; rfl)
      go_enter Try.func62, Try.ntmps62
      go_wp2
      go_ret
      rw [Hn.out]
      exact ⟨rfl, Below.refl _ _⟩
  · have Hn := Lib.hid (show threadB s = true by
      have e0 : (s.toList == []) = true := by rw [beq_iff_eq]; exact List.isEmpty_iff.1 h0
      unfold threadB; rw [e0]; rfl)
    go_enter Try.func62, Try.ntmps62
    go_wp2
    go_ret
    rw [Hn.out]
    exact ⟨rfl, Below.refl _ _⟩
end Go.Proofs.Ytahgkhcmchbpbaa
