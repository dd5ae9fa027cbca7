/-
  Package name: users, rooms, events, threads.
-/
import Derived.Test.YtjiecjpepiknmaaGreatShelf
import Derived.Test.YtjiecjpepiknmaaGreatME
import Derived.Test.YtjiecjpepiknmaaGreatMA
import Derived.Test.YtjiecjpepiknmaaGreatMF
import Derived.Deep.QuietTactic
import Derived.BigQuiet
namespace Go.Proofs.YtjiecjpepiknmaaGreat
open Go.RowKit
set_option linter.unusedVariables false
set_option linter.unusedSimpArgs false
set_option maxRecDepth 20000

set_option maxHeartbeats 800000 in
theorem cutLite_hit (t : ByteArray) (i : Nat) (hi : Lib.indexByte t.data.toList 58 = (i : Int)) (hlt : i < t.size) (hs : t.size ≤ maxLen) (w : World) :
    Calls Tryz.prog 170 #[.string t, .string ⟨#[58]⟩] w fun e w' => e = .returned (.tuple #[.string (t.extract 0 i), .string (t.extract (i + 1) t.size), .bool true]) ∧ ∃ n, w' = w.drewN n := by
  unfold maxLen at hs
  have Hi := Lib.hid hi
  clear hi
  have q1 : IntKind.i64.wrap ((i : Int) + 1) = (i : Int) + 1 := IntWalk.i64_in _ (by omega)
  have q2 : ((i : Int) + 1).toNat = i + 1 := by omega
  have q3 : (0 : Int) ≤ (i : Int) + 1 := by omega
  go_enter Tryz.func170, Tryz.ntmps170
  go_wp2_with fail
  refine (Tryz.stringslite_Index_one t 58 _).mono ?_
  rintro e w' ⟨rfl, rfl⟩
  rw [Hi.out]
  go_wp2_with fail
  go_quiet (fail)
  go_wp2
  go_ret3
  exact ⟨rfl, _, rfl⟩

set_option maxHeartbeats 800000 in
theorem cutLite_miss (t : ByteArray) (hi : Lib.indexByte t.data.toList 58 = -1) (w : World) :
    Calls Tryz.prog 170 #[.string t, .string ⟨#[58]⟩] w fun e w' => e = .returned (.tuple #[.string t, .string ⟨#[]⟩, .bool false]) ∧ ∃ n, w' = w.drewN n := by
  have Hi := Lib.hid hi
  clear hi
  go_enter Tryz.func170, Tryz.ntmps170
  go_wp2_with fail
  refine (Tryz.stringslite_Index_one t 58 _).mono ?_
  rintro e w' ⟨rfl, rfl⟩
  rw [Hi.out]
  go_wp2
  go_ret3
  exact ⟨rfl, 0, rfl⟩

theorem cut_of {t x y : ByteArray} {b : Bool} {w : World}
    (h : Calls Tryz.prog 170 #[.string t, .string ⟨#[58]⟩] w fun e w' => e = .returned (.tuple #[.string x, .string y, .bool b]) ∧ ∃ n, w' = w.drewN n) :
    Calls Tryz.prog 161 #[.string t, .string ⟨#[58]⟩] w fun e w' => e = .returned (.tuple #[.string x, .string y, .bool b]) ∧ ∃ n, w' = w.drewN n := by
  have H := Lib.hid h
  clear h
  go_enter Tryz.func161, Tryz.ntmps161
  go_wp2_with fail
  refine H.out.mono ?_
  rintro e w' ⟨rfl, n, rfl⟩
  go_wp2
  go_ret3
  exact ⟨rfl, n, rfl⟩

theorem cut_hit (t : ByteArray) (i : Nat) (hi : Lib.indexByte t.data.toList 58 = (i : Int)) (hlt : i < t.size) (hs : t.size ≤ maxLen) (w : World) :
    Calls Tryz.prog 161 #[.string t, .string ⟨#[58]⟩] w fun e w' => e = .returned (.tuple #[.string (t.extract 0 i), .string (t.extract (i + 1) t.size), .bool true]) ∧ ∃ n, w' = w.drewN n :=
  cut_of (cutLite_hit t i hi hlt hs w)
theorem cut_miss (t : ByteArray) (hi : Lib.indexByte t.data.toList 58 = -1) (w : World) :
    Calls Tryz.prog 161 #[.string t, .string ⟨#[58]⟩] w fun e w' => e = .returned (.tuple #[.string t, .string ⟨#[]⟩, .bool false]) ∧ ∃ n, w' = w.drewN n :=
  cut_of (cutLite_miss t hi w)

theorem clone_any (s : ByteArray) (w : World) (hs : s.size ≤ 281474976710656) :
    Calls Tryz.prog 88 #[.string s] w fun e w' => e = .returned (.string s) ∧ Below w.heap.size w w' := by
  go_enter Tryz.func88, Tryz.ntmps88
  go_wp2_with fail
  refine (Tryz.stringslite_Clone s _ hs).mono ?_
  rintro e w' ⟨rfl, hb⟩
  go_wp2
  go_ret
  exact ⟨rfl, hb⟩
end Go.Proofs.YtjiecjpepiknmaaGreat

namespace Go.Proofs.YtjiecjpepiknmaaGreat
open Go.RowKit
set_option linter.unusedVariables false
set_option linter.unusedSimpArgs false
set_option maxRecDepth 20000

def SplitPost (c : Int) (x y : ByteArray) (w : World) (e : Ending) (w' : World) : Prop := e = .returned (.tuple #[.int .u8 c, .string x, .string y]) ∧ Below w.heap.size w w'

set_option maxHeartbeats 1600000 in
theorem split_empty (w : World) : Calls Tryz.prog 140 #[.string ⟨#[]⟩] w (SplitPost 0 ⟨#[]⟩ ⟨#[]⟩ w) := by
  go_enter Tryz.func140, Tryz.ntmps140
  go_wp2
  go_ret3
  exact ⟨rfl, Below.refl _ _⟩

set_option maxHeartbeats 1600000 in
theorem split_unsigned (s : ByteArray) (w : World) (hz : 0 < s.size) (hsg : (((s[0].toNat : Int) == 64) || ((s[0].toNat : Int) == 33)) = false) :
    Calls Tryz.prog 140 #[.string s] w (SplitPost 0 ⟨#[]⟩ ⟨#[]⟩ w) := by
  have he := not_empty s hz
  have Hsg := Lib.hid hsg
  clear hsg
  go_enter Tryz.func140, Tryz.ntmps140
  go_wp2_with fail
  refine (signed_any _ _).mono ?_
  rintro e w' ⟨rfl, rfl⟩
  rw [Hsg.out]
  go_wp2
  go_ret3
  exact ⟨rfl, Below.refl _ _⟩

set_option maxHeartbeats 1600000 in
theorem split_miss (s : ByteArray) (w : World) (hs : s.size ≤ maxLen) (hz : 0 < s.size) (hsg : (((s[0].toNat : Int) == 64) || ((s[0].toNat : Int) == 33)) = true)
    (hk : Lib.indexByte (s.extract 1 s.size).data.toList 58 = -1) :
    Calls Tryz.prog 140 #[.string s] w (SplitPost 0 ⟨#[]⟩ ⟨#[]⟩ w) := by
  have he := not_empty s hz
  have ht : (s.extract 1 s.size).size ≤ maxLen := by have := restS_size s; unfold restS at this; omega
  have Hsg := Lib.hid hsg
  have Hk := Lib.hid hk
  clear hsg hk
  cases hf : filledB partI (s.extract 1 s.size)
  · have Hf := Lib.hid hf
    clear hf
    go_enter Tryz.func140, Tryz.ntmps140
    go_wp2_with fail
    refine (signed_any _ _).mono ?_
    rintro e w' ⟨rfl, rfl⟩
    rw [Hsg.out]
    go_wp2_with fail
    refine (cut_miss (s.extract 1 s.size) Hk.out _).mono ?_
    rintro e w' ⟨rfl, n, rfl⟩
    go_wp2_with fail
    refine (filled_part (s.extract 1 s.size) _ ht).mono ?_
    rintro e w1 ⟨rfl, hb1⟩
    rw [Hf.out]
    go_wp2
    go_ret3
    exact ⟨rfl, (below_drewN (Below.refl _ _) n).trans hb1⟩
  · have Hf := Lib.hid hf
    clear hf
    go_enter Tryz.func140, Tryz.ntmps140
    go_wp2_with fail
    refine (signed_any _ _).mono ?_
    rintro e w' ⟨rfl, rfl⟩
    rw [Hsg.out]
    go_wp2_with fail
    refine (cut_miss (s.extract 1 s.size) Hk.out _).mono ?_
    rintro e w' ⟨rfl, n, rfl⟩
    go_wp2_with fail
    refine (filled_part (s.extract 1 s.size) _ ht).mono ?_
    rintro e w1 ⟨rfl, hb1⟩
    rw [Hf.out]
    go_wp2_with fail
    refine (server_any ⟨#[]⟩ _ (by decide)).mono ?_
    rintro e w2 ⟨rfl, hb2⟩
    rw [server_none]
    go_wp2
    go_ret3
    exact ⟨rfl, (below_drewN (Below.refl _ _) n).trans (hb1.trans (hb2.mono hb1.size))⟩

set_option maxHeartbeats 1600000 in
theorem split_hit (s : ByteArray) (i : Nat) (w : World) (hs : s.size ≤ maxLen) (hz : 0 < s.size) (hsg : (((s[0].toNat : Int) == 64) || ((s[0].toNat : Int) == 33)) = true)
    (hk : Lib.indexByte (s.extract 1 s.size).data.toList 58 = (i : Int)) (hlt : i < (s.extract 1 s.size).size) (X Y : ByteArray) (hX : (s.extract 1 s.size).extract 0 i = X) (hY : (s.extract 1 s.size).extract (i + 1) (s.extract 1 s.size).size = Y)
    (hXs : X.size ≤ maxLen) (hYs : Y.size ≤ maxLen) :
    Calls Tryz.prog 140 #[.string s] w (SplitPost (if filledB partI X && serverB Y then (s[0].toNat : Int) else 0) (if filledB partI X && serverB Y then X else ⟨#[]⟩) (if filledB partI X && serverB Y then Y else ⟨#[]⟩) w) := by
  have he := not_empty s hz
  have ht : (s.extract 1 s.size).size ≤ maxLen := by have := restS_size s; unfold restS at this; omega
  have Hsg := Lib.hid hsg
  have hc := cut_hit (s.extract 1 s.size) i hk hlt ht
  rw [hX, hY] at hc
  have Hc := Lib.hid hc
  clear hsg hk hX hY hc
  cases hf : filledB partI X
  · have Hf := Lib.hid hf
    clear hf
    go_enter Tryz.func140, Tryz.ntmps140
    go_wp2_with fail
    refine (signed_any _ _).mono ?_
    rintro e w' ⟨rfl, rfl⟩
    rw [Hsg.out]
    go_wp2_with fail
    refine (Hc.out _).mono ?_
    rintro e w' ⟨rfl, n, rfl⟩
    go_wp2_with fail
    refine (filled_part X _ hXs).mono ?_
    rintro e w1 ⟨rfl, hb1⟩
    rw [Hf.out]
    go_wp2
    go_ret3
    exact ⟨rfl, (below_drewN (Below.refl _ _) n).trans hb1⟩
  · have Hf := Lib.hid hf
    clear hf
    cases hv : serverB Y
    all_goals
      have Hv := Lib.hid hv
      clear hv
      go_enter Tryz.func140, Tryz.ntmps140
      go_wp2_with fail
      refine (signed_any _ _).mono ?_
      rintro e w' ⟨rfl, rfl⟩
      rw [Hsg.out]
      go_wp2_with fail
      refine (Hc.out _).mono ?_
      rintro e w' ⟨rfl, n, rfl⟩
      go_wp2_with fail
      refine (filled_part X _ hXs).mono ?_
      rintro e w1 ⟨rfl, hb1⟩
      rw [Hf.out]
      go_wp2_with fail
      refine (server_any Y _ hYs).mono ?_
      rintro e w2 ⟨rfl, hb2⟩
      rw [Hv.out]
      go_wp2
      go_ret3
      exact ⟨rfl, (below_drewN (Below.refl _ _) n).trans (hb1.trans (hb2.mono hb1.size))⟩

theorem empty_of {s : ByteArray} (h : ¬ 0 < s.size) : s = ⟨#[]⟩ := by
  apply ByteArray.ext
  exact Array.eq_empty_of_size_eq_zero (by have h2 : s.data.size = s.size := rfl; omega)

/-- What split answers. -/
theorem split_any (s : ByteArray) (w : World) (hs : s.size ≤ maxLen) : Calls Tryz.prog 140 #[.string s] w (SplitPost (signS s) (partS s) (homeS s) w) := by
  by_cases hz : 0 < s.size
  · cases hsg : (((s[0].toNat : Int) == 64) || ((s[0].toNat : Int) == 33))
    · obtain ⟨a, b, c⟩ := splits_no s (nameB_other s hz hsg)
      rw [a, b, c]
      exact split_unsigned s w hz hsg
    · have hc : s[0] ≠ 58 := by
        intro h
        rw [h] at hsg
        exact absurd hsg (by decide)
      have hr := colonK_rest s hz hc
      have hg := colonK_ge (restS s)
      by_cases hm : colonK (restS s) = -1
      · rw [if_pos hm] at hr
        obtain ⟨a, b, c⟩ := splits_no s (nameB_off s (by omega))
        rw [a, b, c]
        exact split_miss s w hs hz hsg hm
      · rw [if_neg hm] at hr
        obtain ⟨i, hi⟩ := Int.eq_ofNat_of_zero_le (a := colonK (restS s)) (by omega)
        have hlt := colonK_lt (restS s)
        have hk : colonK s = ((i + 1 : Nat) : Int) := by rw [hr, hi]; omega
        have hon := nameB_on s (i + 1) hk (by omega) hz hsg
        have hX : (s.extract 1 s.size).extract 0 i = s.extract 1 (i + 1) := rest_left s i
        have hY : (s.extract 1 s.size).extract (i + 1) (s.extract 1 s.size).size = s.extract (i + 1 + 1) s.size := rest_right s i
        have hXs : (s.extract 1 (i + 1)).size ≤ maxLen := by rw [Lib.size_eq, Lib.extract_data, List.length_take, List.length_drop, ← Lib.size_eq]; omega
        have hYs : (s.extract (i + 1 + 1) s.size).size ≤ maxLen := by rw [Lib.size_eq, Lib.extract_to_end, List.length_drop, ← Lib.size_eq]; omega
        have h := split_hit s i w hs hz hsg hi (by rw [hi] at hlt; exact Int.ofNat_lt.1 hlt) _ _ hX hY hXs hYs
        rw [← hon] at h
        cases hn : nameB s
        · obtain ⟨a, b, c⟩ := splits_no s hn
          rw [hn] at h
          rw [a, b, c]
          exact h
        · obtain ⟨b, c⟩ := splits_yes s hn (i + 1) hk
          rw [hn] at h
          rw [signS_yes s hn, b, c]
          exact h
  · obtain rfl := empty_of hz
    obtain ⟨a, b, c⟩ := splits_no ⟨#[]⟩ (by unfold nameB; rw [named_empty 64 _ rfl, named_empty 33 _ rfl]; rfl)
    rw [a, b, c]
    exact split_empty w

theorem partS_size (s : ByteArray) : (partS s).size ≤ s.size := by
  unfold partS
  split
  · rw [Lib.size_eq, Lib.extract_data, List.length_take, List.length_drop, ← Lib.size_eq]; omega
  · exact Nat.zero_le _
theorem homeS_size (s : ByteArray) : (homeS s).size ≤ s.size := by
  unfold homeS
  split
  · rw [Lib.size_eq, Lib.extract_to_end, List.length_drop, ← Lib.size_eq]; omega
  · exact Nat.zero_le _

theorem signS_user (s : ByteArray) : (signS s == 64) = namedB 64 s := by
  unfold signS
  split
  · simp [*]
  · split <;> simp [*]
/-- No text is both. -/
theorem not_both (s : ByteArray) (h : namedB 64 s = true) : namedB 33 s = false := by
  have hz : 0 < s.size := nameB_size s (by unfold nameB; rw [h]; rfl)
  apply named_other 33 s hz
  unfold namedB at h
  rw [dif_pos hz] at h
  simp only [Bool.and_eq_true, beq_iff_eq] at h
  rw [beq_eq_false_iff_ne]
  omega
theorem signS_room (s : ByteArray) : (signS s == 33) = namedB 33 s := by
  unfold signS
  split
  · rename_i h; rw [not_both s h]; rfl
  · split <;> simp [*]

theorem user_any (s : ByteArray) (w : World) (hs : s.size ≤ maxLen) : Calls Tryz.prog 112 #[.string s] w (BoolPost (namedB 64 s) w) := by
  have H := Lib.hid (signS_user s)
  go_enter Tryz.func112, Tryz.ntmps112
  go_wp2_with fail
  refine (split_any s _ hs).mono ?_
  rintro e w1 ⟨rfl, hb1⟩
  go_wp2
  go_ret
  rw [H.out]
  exact ⟨rfl, hb1⟩
theorem room_any (s : ByteArray) (w : World) (hs : s.size ≤ maxLen) : Calls Tryz.prog 111 #[.string s] w (BoolPost (namedB 33 s) w) := by
  have H := Lib.hid (signS_room s)
  go_enter Tryz.func111, Tryz.ntmps111
  go_wp2_with fail
  refine (split_any s _ hs).mono ?_
  rintro e w1 ⟨rfl, hb1⟩
  go_wp2
  go_ret
  rw [H.out]
  exact ⟨rfl, hb1⟩

def TextPost (x : ByteArray) (w : World) (e : Ending) (w' : World) : Prop := e = .returned (.string x) ∧ Below w.heap.size w w'
theorem home_any (s : ByteArray) (w : World) (hs : s.size ≤ 281474976710656) : Calls Tryz.prog 103 #[.string s] w (TextPost (homeS s) w) := by
  have hh := homeS_size s
  go_enter Tryz.func103, Tryz.ntmps103
  go_wp2_with fail
  refine (split_any s _ (by unfold maxLen; omega)).mono ?_
  rintro e w1 ⟨rfl, hb1⟩
  go_wp2_with fail
  refine (clone_any (homeS s) _ (by omega)).mono ?_
  rintro e w2 ⟨rfl, hb2⟩
  go_wp2
  go_ret
  exact ⟨rfl, hb1.trans (hb2.mono hb1.size)⟩
end Go.Proofs.YtjiecjpepiknmaaGreat

namespace Go.Proofs.YtjiecjpepiknmaaGreat
open Go.RowKit
set_option linter.unusedVariables false
set_option linter.unusedSimpArgs false
set_option maxRecDepth 20000

theorem hasPrefix_one (s : ByteArray) (c : UInt8) : Lib.hasPrefix s.data.toList [c] = (if h : 0 < s.size then s[0] == c else false) := by
  by_cases h : 0 < s.size
  · rw [dif_pos h]
    rw [data_cons s h]
    unfold Lib.hasPrefix
    rw [Bool.eq_iff_iff]
    simp
    exact eq_comm
  · rw [dif_neg h]
    obtain rfl := empty_of h
    rfl
theorem trimPrefix_one (s : ByteArray) (c : UInt8) (h : Lib.hasPrefix s.data.toList [c] = true) : (⟨(Lib.trimPrefix s.data.toList [c]).toArray⟩ : ByteArray) = restS s := by
  apply ext_data
  rw [restS_data, List.toList_toArray]
  unfold Lib.trimPrefix
  rw [if_pos h]
  rfl

set_option maxHeartbeats 800000 in
theorem event_code (s : ByteArray) (w : World) (hs : s.size ≤ maxLen) :
    Calls Tryz.prog 110 #[.string s] w (BoolPost (eventB s) w) := by
  cases hp : Lib.hasPrefix s.data.toList [36]
  · have he : eventB s = false := by
      rw [hasPrefix_one] at hp
      by_cases hz : 0 < s.size
      · rw [dif_pos hz, beq_eq_false_iff_ne] at hp
        apply ev_other s hz
        rw [beq_eq_false_iff_ne]
        intro e
        exact hp (UInt8.toNat_inj.1 (by show s[0].toNat = 36; omega))
      · unfold eventB; rw [dif_neg hz]
    have He := Lib.hid he
    have Hp := Lib.hid hp
    clear he hp
    go_enter Tryz.func110, Tryz.ntmps110
    go_wp2_with fail
    refine (Tryz.strings_CutPrefix s ⟨#[36]⟩ _).mono ?_
    rintro e w' ⟨rfl, rfl⟩
    rw [show Lib.hasPrefix s.data.toList (ByteArray.mk #[36]).data.toList = false from Hp.out]
    go_wp2
    go_ret
    rw [He.out]
    exact ⟨rfl, Below.refl _ _⟩
  · have he : eventB s = filledB signI (restS s) := by
      have hp' := hp
      rw [hasPrefix_one] at hp'
      by_cases hz : 0 < s.size
      · rw [dif_pos hz, beq_iff_eq] at hp'
        apply ev_yes s hz
        rw [hp']; rfl
      · rw [dif_neg hz] at hp'; cases hp'
    have He := Lib.hid he
    have Ht := Lib.hid (trimPrefix_one s 36 hp)
    have Hp := Lib.hid hp
    have hz := restS_size s
    have hsz : (restS s).size ≤ maxLen := by omega
    clear he hp hz
    go_enter Tryz.func110, Tryz.ntmps110
    go_wp2_with fail
    refine (Tryz.strings_CutPrefix s ⟨#[36]⟩ _).mono ?_
    rintro e w' ⟨rfl, rfl⟩
    rw [show Lib.hasPrefix s.data.toList (ByteArray.mk #[36]).data.toList = true from Hp.out, show (⟨(Lib.trimPrefix s.data.toList (ByteArray.mk #[36]).data.toList).toArray⟩ : ByteArray) = restS s from Ht.out]
    go_wp2_with fail
    refine (filled_sign (restS s) _ hsz).mono ?_
    rintro e w1 ⟨rfl, hb1⟩
    go_wp2
    go_ret
    rw [He.out]
    exact ⟨rfl, hb1⟩

end Go.Proofs.YtjiecjpepiknmaaGreat
