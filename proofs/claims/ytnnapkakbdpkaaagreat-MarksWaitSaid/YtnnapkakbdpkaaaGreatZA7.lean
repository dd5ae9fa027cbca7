/-
  What the statements stand on, part ZA7.
-/
import Derived.Test.YtnnapkakbdpkaaaGreatZA6
set_option linter.unusedVariables false
set_option linter.unusedSimpArgs false
namespace Go.Proofs.YtnnapkakbdpkaaaGreat
open Go.RowKit
set_option maxRecDepth 20000
set_option maxHeartbeats 800000 in
theorem cutLite_hit (t : ByteArray) (i : Nat) (hi : Lib.indexByte t.data.toList 58 = (i : Int)) (hlt : i < t.size) (hs : t.size ≤ maxLen) (w : World) :
  Calls Tryz.prog 124 #[.string t, .string ⟨#[58]⟩] w fun e w' => e = .returned (.tuple #[.string (t.extract 0 i), .string (t.extract (i + 1) t.size), .bool true]) ∧ ∃ n, w' = w.drewN n := by
 unfold maxLen at hs
 have Hi := Lib.hid hi
 clear hi
 have q1 : IntKind.i64.wrap ((i : Int) + 1) = (i : Int) + 1 := IntWalk.i64_in _ (by omega)
 have q2 : ((i : Int) + 1).toNat = i + 1 := by omega
 have q3 : (0 : Int) ≤ (i : Int) + 1 := by omega
 go_enter Tryz.func124, Tryz.ntmps124
 go_wp2_with fail
 refine (Tryz.stringslite_Index_one t 58 _).mono ?_
 rintro e w' ⟨rfl, rfl⟩
 rw [Hi.out]
 go_wp2_with fail
 go_quiet (fail)
 go_wp2
 go_ret3
 exact ⟨rfl, _, rfl⟩
set_option maxHeartbeats 800000 in
theorem cutLite_miss (t : ByteArray) (hi : Lib.indexByte t.data.toList 58 = -1) (w : World) :
  Calls Tryz.prog 124 #[.string t, .string ⟨#[58]⟩] w fun e w' => e = .returned (.tuple #[.string t, .string ⟨#[]⟩, .bool false]) ∧ ∃ n, w' = w.drewN n := by
 have Hi := Lib.hid hi
 clear hi
 go_enter Tryz.func124, Tryz.ntmps124
 go_wp2_with fail
 refine (Tryz.stringslite_Index_one t 58 _).mono ?_
 rintro e w' ⟨rfl, rfl⟩
 rw [Hi.out]
 go_wp2
 go_ret3
 exact ⟨rfl, 0, rfl⟩
theorem cut_of {t x y : ByteArray} {b : Bool} {w : World}
  (h : Calls Tryz.prog 124 #[.string t, .string ⟨#[58]⟩] w fun e w' => e = .returned (.tuple #[.string x, .string y, .bool b]) ∧ ∃ n, w' = w.drewN n) :
  Calls Tryz.prog 118 #[.string t, .string ⟨#[58]⟩] w fun e w' => e = .returned (.tuple #[.string x, .string y, .bool b]) ∧ ∃ n, w' = w.drewN n := by
 have H := Lib.hid h
 clear h
 go_enter Tryz.func118, Tryz.ntmps118
 go_wp2_with fail
 refine H.out.mono ?_
 rintro e w' ⟨rfl, n, rfl⟩
 go_wp2
 go_ret3
 exact ⟨rfl, n, rfl⟩
theorem cut_hit (t : ByteArray) (i : Nat) (hi : Lib.indexByte t.data.toList 58 = (i : Int)) (hlt : i < t.size) (hs : t.size ≤ maxLen) (w : World) :
  Calls Tryz.prog 118 #[.string t, .string ⟨#[58]⟩] w fun e w' => e = .returned (.tuple #[.string (t.extract 0 i), .string (t.extract (i + 1) t.size), .bool true]) ∧ ∃ n, w' = w.drewN n :=
 cut_of (cutLite_hit t i hi hlt hs w)
theorem cut_miss (t : ByteArray) (hi : Lib.indexByte t.data.toList 58 = -1) (w : World) :
  Calls Tryz.prog 118 #[.string t, .string ⟨#[58]⟩] w fun e w' => e = .returned (.tuple #[.string t, .string ⟨#[]⟩, .bool false]) ∧ ∃ n, w' = w.drewN n :=
 cut_of (cutLite_miss t hi w)
theorem clone_any (s : ByteArray) (w : World) (hs : s.size ≤ 281474976710656) :
  Calls Tryz.prog 81 #[.string s] w fun e w' => e = .returned (.string s) ∧ Below w.heap.size w w' := by
 go_enter Tryz.func81, Tryz.ntmps81
 go_wp2_with fail
 refine (Tryz.stringslite_Clone s _ hs).mono ?_
 rintro e w' ⟨rfl, hb⟩
 go_wp2
 go_ret
 exact ⟨rfl, hb⟩
end Go.Proofs.YtnnapkakbdpkaaaGreat
namespace Go.Proofs.YtnnapkakbdpkaaaGreat
open Go.RowKit
set_option maxRecDepth 20000
def SplitPost (c : Int) (x y : ByteArray) (w : World) (e : Ending) (w' : World) : Prop := e = .returned (.tuple #[.int .u8 c, .string x, .string y]) ∧ Below w.heap.size w w'
set_option maxHeartbeats 1600000 in
theorem split_empty (w : World) : Calls Tryz.prog 110 #[.string ⟨#[]⟩] w (SplitPost 0 ⟨#[]⟩ ⟨#[]⟩ w) := by
 go_enter Tryz.func110, Tryz.ntmps110
 go_wp2
 go_ret3
 exact ⟨rfl, Below.refl _ _⟩
set_option maxHeartbeats 1600000 in
theorem split_unsigned (s : ByteArray) (w : World) (hz : 0 < s.size) (hsg : (((s[0].toNat : Int) == 64) || ((s[0].toNat : Int) == 33)) = false) :
  Calls Tryz.prog 110 #[.string s] w (SplitPost 0 ⟨#[]⟩ ⟨#[]⟩ w) := by
 have he := not_empty s hz
 have Hsg := Lib.hid hsg
 clear hsg
 go_enter Tryz.func110, Tryz.ntmps110
 go_wp2_with fail
 refine (signed_any _ _).mono ?_
 rintro e w' ⟨rfl, rfl⟩
 rw [Hsg.out]
 go_wp2
 go_ret3
 exact ⟨rfl, Below.refl _ _⟩
set_option maxHeartbeats 1600000 in
theorem split_miss (s : ByteArray) (w : World) (hs : s.size ≤ maxLen) (hz : 0 < s.size) (hsg : (((s[0].toNat : Int) == 64) || ((s[0].toNat : Int) == 33)) = true)
  (hk : Lib.indexByte (s.extract 1 s.size).data.toList 58 = -1) :
  Calls Tryz.prog 110 #[.string s] w (SplitPost 0 ⟨#[]⟩ ⟨#[]⟩ w) := by
 have he := not_empty s hz
 have ht : (s.extract 1 s.size).size ≤ maxLen := by have := restS_size s; unfold restS at this; omega
 have Hsg := Lib.hid hsg
 have Hk := Lib.hid hk
 clear hsg hk
 cases hf : filledB partI (s.extract 1 s.size)
 ·have Hf := Lib.hid hf
  clear hf
  go_enter Tryz.func110, Tryz.ntmps110
  go_wp2_with fail
  refine (signed_any _ _).mono ?_
  rintro e w' ⟨rfl, rfl⟩
  rw [Hsg.out]
  go_wp2_with fail
  refine (cut_miss (s.extract 1 s.size) Hk.out _).mono ?_
  rintro e w' ⟨rfl, n, rfl⟩
  go_wp2_with fail
  refine (filled_part (s.extract 1 s.size) _ ht).mono ?_
  rintro e w1 ⟨rfl, hb1⟩
  rw [Hf.out]
  go_wp2
  go_ret3
  exact ⟨rfl, (below_drewN (Below.refl _ _) n).trans hb1⟩
 ·have Hf := Lib.hid hf
  clear hf
  go_enter Tryz.func110, Tryz.ntmps110
  go_wp2_with fail
  refine (signed_any _ _).mono ?_
  rintro e w' ⟨rfl, rfl⟩
  rw [Hsg.out]
  go_wp2_with fail
  refine (cut_miss (s.extract 1 s.size) Hk.out _).mono ?_
  rintro e w' ⟨rfl, n, rfl⟩
  go_wp2_with fail
  refine (filled_part (s.extract 1 s.size) _ ht).mono ?_
  rintro e w1 ⟨rfl, hb1⟩
  rw [Hf.out]
  go_wp2_with fail
  refine (server_any ⟨#[]⟩ _ (by decide)).mono ?_
  rintro e w2 ⟨rfl, hb2⟩
  rw [server_none]
  go_wp2
  go_ret3
  exact ⟨rfl, (below_drewN (Below.refl _ _) n).trans (hb1.trans (hb2.mono hb1.size))⟩
set_option maxHeartbeats 1600000 in
theorem split_hit (s : ByteArray) (i : Nat) (w : World) (hs : s.size ≤ maxLen) (hz : 0 < s.size) (hsg : (((s[0].toNat : Int) == 64) || ((s[0].toNat : Int) == 33)) = true)
  (hk : Lib.indexByte (s.extract 1 s.size).data.toList 58 = (i : Int)) (hlt : i < (s.extract 1 s.size).size) (X Y : ByteArray) (hX : (s.extract 1 s.size).extract 0 i = X) (hY : (s.extract 1 s.size).extract (i + 1) (s.extract 1 s.size).size = Y)
  (hXs : X.size ≤ maxLen) (hYs : Y.size ≤ maxLen) :
  Calls Tryz.prog 110 #[.string s] w (SplitPost (if filledB partI X && serverB Y then (s[0].toNat : Int) else 0) (if filledB partI X && serverB Y then X else ⟨#[]⟩) (if filledB partI X && serverB Y then Y else ⟨#[]⟩) w) := by
 have he := not_empty s hz
 have ht : (s.extract 1 s.size).size ≤ maxLen := by have := restS_size s; unfold restS at this; omega
 have Hsg := Lib.hid hsg
 have hc := cut_hit (s.extract 1 s.size) i hk hlt ht
 rw [hX, hY] at hc
 have Hc := Lib.hid hc
 clear hsg hk hX hY hc
 cases hf : filledB partI X
 ·have Hf := Lib.hid hf
  clear hf
  go_enter Tryz.func110, Tryz.ntmps110
  go_wp2_with fail
  refine (signed_any _ _).mono ?_
  rintro e w' ⟨rfl, rfl⟩
  rw [Hsg.out]
  go_wp2_with fail
  refine (Hc.out _).mono ?_
  rintro e w' ⟨rfl, n, rfl⟩
  go_wp2_with fail
  refine (filled_part X _ hXs).mono ?_
  rintro e w1 ⟨rfl, hb1⟩
  rw [Hf.out]
  go_wp2
  go_ret3
  exact ⟨rfl, (below_drewN (Below.refl _ _) n).trans hb1⟩
 ·have Hf := Lib.hid hf
  clear hf
  cases hv : serverB Y
  all_goals
   have Hv := Lib.hid hv
   clear hv
   go_enter Tryz.func110, Tryz.ntmps110
   go_wp2_with fail
   refine (signed_any _ _).mono ?_
   rintro e w' ⟨rfl, rfl⟩
   rw [Hsg.out]
   go_wp2_with fail
   refine (Hc.out _).mono ?_
   rintro e w' ⟨rfl, n, rfl⟩
   go_wp2_with fail
   refine (filled_part X _ hXs).mono ?_
   rintro e w1 ⟨rfl, hb1⟩
   rw [Hf.out]
   go_wp2_with fail
   refine (server_any Y _ hYs).mono ?_
   rintro e w2 ⟨rfl, hb2⟩
   rw [Hv.out]
   go_wp2
   go_ret3
   exact ⟨rfl, (below_drewN (Below.refl _ _) n).trans (hb1.trans (hb2.mono hb1.size))⟩
theorem empty_of {s : ByteArray} (h : ¬ 0 < s.size) : s = ⟨#[]⟩ := by
 apply ByteArray.ext
 exact Array.eq_empty_of_size_eq_zero (by have h2 : s.data.size = s.size := rfl; omega)
theorem split_any (s : ByteArray) (w : World) (hs : s.size ≤ maxLen) : Calls Tryz.prog 110 #[.string s] w (SplitPost (signS s) (partS s) (homeS s) w) := by
 by_cases hz : 0 < s.size
 ·cases hsg : (((s[0].toNat : Int) == 64) || ((s[0].toNat : Int) == 33))
  ·obtain ⟨a, b, c⟩ := splits_no s (nameB_other s hz hsg)
   rw [a, b, c]
   exact split_unsigned s w hz hsg
  ·have hc : s[0] ≠ 58 := by
    intro h
    rw [h] at hsg
    exact absurd hsg (by decide)
   have hr := colonK_rest s hz hc
   have hg := colonK_ge (restS s)
   by_cases hm : colonK (restS s) = -1
   ·rw [if_pos hm] at hr
    obtain ⟨a, b, c⟩ := splits_no s (nameB_off s (by omega))
    rw [a, b, c]
    exact split_miss s w hs hz hsg hm
   ·rw [if_neg hm] at hr
    obtain ⟨i, hi⟩ := Int.eq_ofNat_of_zero_le (a := colonK (restS s)) (by omega)
    have hlt := colonK_lt (restS s)
    have hk : colonK s = ((i + 1 : Nat) : Int) := by rw [hr, hi]; omega
    have hon := nameB_on s (i + 1) hk (by omega) hz hsg
    have hX : (s.extract 1 s.size).extract 0 i = s.extract 1 (i + 1) := rest_left s i
    have hY : (s.extract 1 s.size).extract (i + 1) (s.extract 1 s.size).size = s.extract (i + 1 + 1) s.size := rest_right s i
    have hXs : (s.extract 1 (i + 1)).size ≤ maxLen := by rw [Lib.size_eq, Lib.extract_data, List.length_take, List.length_drop, ← Lib.size_eq]; omega
    have hYs : (s.extract (i + 1 + 1) s.size).size ≤ maxLen := by rw [Lib.size_eq, Lib.extract_to_end, List.length_drop, ← Lib.size_eq]; omega
    have h := split_hit s i w hs hz hsg hi (by rw [hi] at hlt; exact Int.ofNat_lt.1 hlt) _ _ hX hY hXs hYs
    rw [← hon] at h
    cases hn : nameB s
    ·obtain ⟨a, b, c⟩ := splits_no s hn
     rw [hn] at h
     rw [a, b, c]
     exact h
    ·obtain ⟨b, c⟩ := splits_yes s hn (i + 1) hk
     rw [hn] at h
     rw [signS_yes s hn, b, c]
     exact h
 ·obtain rfl := empty_of hz
  obtain ⟨a, b, c⟩ := splits_no ⟨#[]⟩ (by unfold nameB; rw [named_empty 64 _ rfl, named_empty 33 _ rfl]; rfl)
  rw [a, b, c]
  exact split_empty w
theorem signS_user (s : ByteArray) : (signS s == 64) = namedB 64 s := by
 unfold signS
 split
 ·simp [*]
 ·split <;> simp [*]
theorem not_both (s : ByteArray) (h : namedB 64 s = true) : namedB 33 s = false := by
 have hz : 0 < s.size := nameB_size s (by unfold nameB; rw [h]; rfl)
 apply named_other 33 s hz
 unfold namedB at h
 rw [dif_pos hz] at h
 simp only [Bool.and_eq_true, beq_iff_eq] at h
 rw [beq_eq_false_iff_ne]
 omega
theorem signS_room (s : ByteArray) : (signS s == 33) = namedB 33 s := by
 unfold signS
 split
 ·rename_i h; rw [not_both s h]; rfl
 ·split <;> simp [*]
theorem user_any (s : ByteArray) (w : World) (hs : s.size ≤ maxLen) : Calls Tryz.prog 94 #[.string s] w (BoolPost (namedB 64 s) w) := by
 have H := Lib.hid (signS_user s)
 go_enter Tryz.func94, Tryz.ntmps94
 go_wp2_with fail
 refine (split_any s _ hs).mono ?_
 rintro e w1 ⟨rfl, hb1⟩
 go_wp2
 go_ret
 rw [H.out]
 exact ⟨rfl, hb1⟩
theorem room_any (s : ByteArray) (w : World) (hs : s.size ≤ maxLen) : Calls Tryz.prog 93 #[.string s] w (BoolPost (namedB 33 s) w) := by
 have H := Lib.hid (signS_room s)
 go_enter Tryz.func93, Tryz.ntmps93
 go_wp2_with fail
 refine (split_any s _ hs).mono ?_
 rintro e w1 ⟨rfl, hb1⟩
 go_wp2
 go_ret
 rw [H.out]
 exact ⟨rfl, hb1⟩
end Go.Proofs.YtnnapkakbdpkaaaGreat
namespace Go.Proofs.YtnnapkakbdpkaaaGreat
open Go.RowKit
set_option maxRecDepth 20000
theorem hasPrefix_one (s : ByteArray) (c : UInt8) : Lib.hasPrefix s.data.toList [c] = (if h : 0 < s.size then s[0] == c else false) := by
 by_cases h : 0 < s.size
 ·rw [dif_pos h]
  rw [data_cons s h]
  unfold Lib.hasPrefix
  rw [Bool.eq_iff_iff]
  simp
  exact eq_comm
 ·rw [dif_neg h]
  obtain rfl := empty_of h
  rfl
theorem trimPrefix_one (s : ByteArray) (c : UInt8) (h : Lib.hasPrefix s.data.toList [c] = true) : (⟨(Lib.trimPrefix s.data.toList [c]).toArray⟩ : ByteArray) = restS s := by
 apply ext_data
 rw [restS_data, List.toList_toArray]
 unfold Lib.trimPrefix
 rw [if_pos h]
 rfl
set_option maxHeartbeats 800000 in
theorem event_code (s : ByteArray) (w : World) (hs : s.size ≤ maxLen) :
  Calls Tryz.prog 95 #[.string s] w (BoolPost (eventB s) w) := by
 cases hp : Lib.hasPrefix s.data.toList [36]
 ·have he : eventB s = false := by
   rw [hasPrefix_one] at hp
   by_cases hz : 0 < s.size
   ·rw [dif_pos hz, beq_eq_false_iff_ne] at hp
    apply ev_other s hz
    rw [beq_eq_false_iff_ne]
    intro e
    exact hp (UInt8.toNat_inj.1 (by show s[0].toNat = 36; omega))
   ·unfold eventB; rw [dif_neg hz]
  have He := Lib.hid he
  have Hp := Lib.hid hp
  clear he hp
  go_enter Tryz.func95, Tryz.ntmps95
  go_wp2_with fail
  refine (Tryz.strings_CutPrefix s ⟨#[36]⟩ _).mono ?_
  rintro e w' ⟨rfl, rfl⟩
  rw [show Lib.hasPrefix s.data.toList (ByteArray.mk #[36]).data.toList = false from Hp.out]
  go_wp2
  go_ret
  rw [He.out]
  exact ⟨rfl, Below.refl _ _⟩
 ·have he : eventB s = filledB signI (restS s) := by
   have hp' := hp
   rw [hasPrefix_one] at hp'
   by_cases hz : 0 < s.size
   ·rw [dif_pos hz, beq_iff_eq] at hp'
    apply ev_yes s hz
    rw [hp']; rfl
   ·rw [dif_neg hz] at hp'; cases hp'
  have He := Lib.hid he
  have Ht := Lib.hid (trimPrefix_one s 36 hp)
  have Hp := Lib.hid hp
  have hz := restS_size s
  have hsz : (restS s).size ≤ maxLen := by omega
  clear he hp hz
  go_enter Tryz.func95, Tryz.ntmps95
  go_wp2_with fail
  refine (Tryz.strings_CutPrefix s ⟨#[36]⟩ _).mono ?_
  rintro e w' ⟨rfl, rfl⟩
  rw [show Lib.hasPrefix s.data.toList (ByteArray.mk #[36]).data.toList = true from Hp.out, show (⟨(Lib.trimPrefix s.data.toList (ByteArray.mk #[36]).data.toList).toArray⟩ : ByteArray) = restS s from Ht.out]
  go_wp2_with fail
  refine (filled_sign (restS s) _ hsz).mono ?_
  rintro e w1 ⟨rfl, hb1⟩
  go_wp2
  go_ret
  rw [He.out]
  exact ⟨rfl, hb1⟩
set_option maxHeartbeats 800000 in
theorem thread_code (s : ByteArray) (w : World) (hs : s.size ≤ maxLen) :
  Calls Tryz.prog 96 #[.string s] w (BoolPost (threadB s) w) := by
 cases h0 : s.toList.isEmpty
 ·cases hm : (s.toList == [109, 97, 105, 110])
  ·have Hn := Lib.hid (show threadB s = eventB s by
    have e0 : (s.toList == []) = false := by rw [beq_eq_false_iff_ne]; intro e; rw [e] at h0; cases h0
    unfold threadB; rw [e0, hm]; rfl)
   go_enter Tryz.func96, Tryz.ntmps96
   go_wp2_with fail
   refine (event_code s _ hs).mono ?_
   rintro e w1 ⟨rfl, hb1⟩
   go_wp2
   go_ret
   rw [Hn.out]
   exact ⟨rfl, hb1⟩
  ·have Hn := Lib.hid (show threadB s = true by unfold threadB; rw [hm, Bool.or_true]; rfl)
   go_enter Tryz.func96, Tryz.ntmps96
   go_wp2
   go_ret
   rw [Hn.out]
   exact ⟨rfl, Below.refl _ _⟩
 ·have Hn := Lib.hid (show threadB s = true by
   have e0 : (s.toList == []) = true := by rw [beq_iff_eq]; exact List.isEmpty_iff.1 h0
   unfold threadB; rw [e0]; rfl)
  go_enter Tryz.func96, Tryz.ntmps96
  go_wp2
  go_ret
  rw [Hn.out]
  exact ⟨rfl, Below.refl _ _⟩
end Go.Proofs.YtnnapkakbdpkaaaGreat

namespace Go.Proofs.YtnnapkakbdpkaaaGreat
set_option maxRecDepth 20000
open Go.RowKit
theorem event_size {s : ByteArray} (h : eventB s = true) : s.size ≤ 17 := by
 unfold eventB at h
 split at h
 ·rw [Bool.and_eq_true] at h
  have := (filledB_size h.2).2
  unfold restS at this
  simp only [ByteArray.size_extract] at this
  omega
 ·cases h
theorem named_size {c : Int} {s : ByteArray} (h : namedB c s = true) : s.size ≤ 40 := by
 unfold namedB at h
 split at h
 ·simp only [Bool.and_eq_true] at h
  have h1 := (filledB_size h.1.2).2
  have h2 := h.2
  unfold serverB at h2
  rw [Bool.and_eq_true] at h2
  have h3 := (filledB_size h2.1).2
  simp only [ByteArray.size_extract] at h1 h3
  omega
 ·cases h
def behB (e : Ev) : Bool := decide (e.parents.length ≤ 4) && parTo e e.parents.length
def doB (e : Ev) : Bool := decide (0 ≤ e.does) && decide (e.does ≤ 2)
theorem mayE_code (e : Ev) : mayE e = (eventB e.id && namedB 33 e.room && namedB 64 e.user && behB e && doB e && thrB e) := by
 unfold mayE headB behB doB
 cases eventB e.id <;> cases namedB 33 e.room <;> cases namedB 64 e.user <;> cases decide (e.parents.length ≤ 4) <;> cases decide (0 ≤ e.does) <;> cases decide (e.does ≤ 2) <;> cases thrB e <;> cases parTo e e.parents.length <;> rfl
theorem leq_less : ∀ a b : List UInt8, (Op.bytesLess a b || a == b) = !Op.bytesLess b a
 | [], [] => by simp [Op.bytesLess]
 | [], _ :: _ => by simp [Op.bytesLess]
 | _ :: _, [] => by simp [Op.bytesLess]
 | a :: x, b :: y => by
  have ih := leq_less x y
  unfold Op.bytesLess
  by_cases h : a < b
  ·have h2 : ¬ b < a := by rw [UInt8.lt_iff_toNat_lt] at *; omega
   have h3 : ¬ b = a := fun e => by subst e; exact h2 h
   simp [h, h2, h3]
  ·by_cases h2 : b < a
   ·have h3 : ¬ a = b := fun e => by subst e; exact h h2
    simp [h, h2, h3]
   ·have h3 : a = b := by
     apply UInt8.toNat_inj.1
     rw [UInt8.lt_iff_toNat_lt] at h h2
     omega
    subst h3
    simpa [h] using ih
def lastP (e : Ev) (i : Nat) : ByteArray := if i = 0 then ⟨#[]⟩ else e.parents.getD (i - 1) ⟨#[]⟩
theorem less_nil : ∀ {a : List UInt8}, a ≠ [] → Op.bytesLess [] a = true
 | [], h => absurd rfl h
 | _ :: _, _ => by simp [Op.bytesLess]
theorem parB_code {e : Ev} {i : Nat} {p : ByteArray} (hp : e.parents[i]? = some p) : parB e i = (eventB p && !decide (p = e.id) && Op.bytesLess (lastP e i).toList p.toList) := by
 unfold parB lastP
 rw [List.getD_eq_getElem?_getD, hp, Option.getD_some]
 by_cases h : i = 0
 ·subst h
  rw [if_pos rfl, decide_eq_true rfl, Bool.true_or]
  cases he : eventB p
  ·rfl
  ·have : Op.bytesLess (⟨#[]⟩ : ByteArray).toList p.toList = true := by
    rw [show (⟨#[]⟩ : ByteArray).toList = [] by rw [ByteArray.toList_eq]]
    apply less_nil
    intro h0
    have hs : p = ⟨#[]⟩ := key_ext (by rw [h0, ByteArray.toList_eq])
    subst hs
    exact absurd he (by decide)
   rw [this]
 ·rw [if_neg h, decide_eq_false h, Bool.false_or]
set_option maxHeartbeats 1600000 in
theorem mayBehind_any (e : Ev) (v : Value) (w : World) (hv : LT.Slice w v e.parents) (hp : ∀ p ∈ e.parents, p.size ≤ maxLen) :
  Calls Tryz.prog 105 #[.string e.id, v] w fun r w' => r = .returned (.bool (behB e)) ∧ Below w.heap.size w w' := by
 have HV := Lib.hid hv
 have HP := Lib.hid hp
 obtain ⟨A, cap, rfl, h5, hm, -⟩ := id hv
 have hm : cap ≤ 9223372036854775807 := by unfold maxLen at hm; omega
 clear hv hp
 by_cases h4 : e.parents.length ≤ 4
 ·have q4 : decide ((4 : Int) < (e.parents.length : Int)) = false := decide_eq_false (by omega)
  have HB : Hid (behB e = parTo e e.parents.length) := Lib.hid (by unfold behB; rw [decide_eq_true h4, Bool.true_and])
  go_enter Tryz.func105, Tryz.ntmps105
  go_wp2_with fail
  go_step3
  go_wp2_with fail
  go_step3
  go_wp2_with fail
  go_loopw [5, 6, 14] (fun r u i wr => ∃ (a : Nat), r = .bool true ∧ u = .string (lastP e a) ∧ i = .int .i64 (a : Int) ∧ a ≤ e.parents.length ∧ Hid (Below w.heap.size w wr) ∧ Hid (parTo e a = true)) (fun _ _ i _ => e.parents.length - (intOf i).toNat)
  case atStart => exact ⟨0, rfl, rfl, rfl, Nat.zero_le _, Lib.hid (Below.refl _ _), Lib.hid rfl⟩
  case round =>
   obtain ⟨a, rfl, rfl, rfl, ha, HBl, HT⟩ := hrel
   by_cases hlt : a < e.parents.length
   ·have q1 : decide ((a : Int) < (e.parents.length : Int)) = true := decide_eq_true (by omega)
    have hp : e.parents[a]? = some e.parents[a] := List.getElem?_eq_getElem hlt
    generalize e.parents[a] = p at hp
    have HC := Lib.hid (fun W => event_code p W (HP.out p (List.mem_of_getElem? hp)))
    have HPB := Lib.hid (parB_code hp)
    have HNX : Hid (lastP e (a + 1) = p) := Lib.hid (by unfold lastP; rw [if_neg (Nat.succ_ne_zero a), Nat.add_sub_cancel, List.getD_eq_getElem?_getD, hp]; rfl)
    obtain ⟨bp, op, rfl, hbp, hcp⟩ := text_at HV.out hp
    have hip := index_any (P := Tryz.prog) knT (by decide) (b := bp) (off := op) (cap := cap) hlt
    simp only [LT] at hip
    rw [Nat.mul_one] at hip
    have e3 : wr.cell? ⟨bp, op + a, none⟩ = some (.string p) := (HBl.out.cell (p := ⟨bp, op + a, none⟩) hbp).trans hcp
    clear hp hcp
    go_wp2_with fail
    go_at_call 95
    refine (HC.out _).mono ?_
    rintro r w2 ⟨rfl, b2⟩
    replace HBl := Lib.hid (HBl.out.trans (b2.mono HBl.out.size))
    clear b2 e3 HC
    generalize hev : eventB p = ev at HPB ⊢
    cases ev
    ·have HF : Hid (parTo e e.parents.length = false) := Lib.hid (parTo_stop hlt (by rw [HPB.out]; rfl))
     clear HPB
     go_wp2_with fail
     rw [Exit.noGoto_ret]
     go_ret
     exact ⟨by rw [HB.out, HF.out]; rfl, HBl.out⟩
    ·generalize hid : (p.toList == e.id.toList) = c
     rw [keyB] at hid
     cases c
     ·have q3 : (p.toList == e.id.toList) = false := by rw [keyB]; exact hid
      generalize hlast : lastP e a = la at HPB ⊢
      generalize hls : Op.bytesLess la.toList p.toList = ls at HPB
      cases ls
      ·have q5 : (Op.bytesLess p.toList la.toList || p.toList == la.toList) = true := by rw [leq_less, hls]; rfl
       have HF : Hid (parTo e e.parents.length = false) := Lib.hid (parTo_stop hlt (by rw [HPB.out, Bool.and_false]))
       clear HPB hls
       go_wp2_with fail
       rw [Exit.noGoto_ret]
       go_ret
       exact ⟨by rw [HB.out, HF.out]; rfl, HBl.out⟩
      ·have q5 : (Op.bytesLess p.toList la.toList || p.toList == la.toList) = false := by rw [leq_less, hls]; rfl
       have HN : Hid (parTo e (a + 1) = true) := Lib.hid (by rw [parTo_succ, HT.out, HPB.out, hid]; rfl)
       clear HPB hls
       go_wp2_with fail
       refine ⟨⟨a + 1, rfl, by rw [HNX.out], by go_num, by omega, HBl, HN⟩, ?_⟩
       simp [intOf]; omega
     ·have q3 : (p.toList == e.id.toList) = true := by rw [keyB]; exact hid
      have HF : Hid (parTo e e.parents.length = false) := Lib.hid (parTo_stop hlt (by rw [HPB.out, hid]; rfl))
      clear HPB
      go_wp2_with fail
      rw [Exit.noGoto_ret]
      go_ret
      exact ⟨by rw [HB.out, HF.out]; rfl, HBl.out⟩
   ·have q1 : decide ((a : Int) < (e.parents.length : Int)) = false := decide_eq_false (by omega)
    obtain rfl : a = e.parents.length := by omega
    go_wp2_with fail
    rw [Exit.noGoto_ret]
    go_ret
    exact ⟨by rw [HB.out, HT.out]; rfl, HBl.out⟩
 ·have q4 : decide ((4 : Int) < (e.parents.length : Int)) = true := decide_eq_true (by omega)
  have HB : Hid (behB e = false) := Lib.hid (by unfold behB; rw [decide_eq_false h4, Bool.false_and])
  go_enter Tryz.func105, Tryz.ntmps105
  go_wp2_with fail
  go_step3
  go_wp2_with fail
  rw [Exit.noGoto_ret]
  go_ret
  exact ⟨by rw [HB.out]; rfl, Below.refl _ _⟩
theorem mayDo_any (e : Ev) (w : World) : Calls Tryz.prog 106 #[.int .i64 e.does] w fun r w' => r = .returned (.bool (doB e)) ∧ w' = w := by
 unfold doB
 by_cases h1 : 0 ≤ e.does
 ·have q1 : decide (0 ≤ e.does) = true := decide_eq_true h1
  rw [q1, Bool.true_and]
  go_enter Tryz.func106, Tryz.ntmps106
  go_wp2_with fail
  go_ret
  exact ⟨rfl, rfl⟩
 ·have q1 : decide (0 ≤ e.does) = false := decide_eq_false h1
  rw [q1, Bool.false_and]
  go_enter Tryz.func106, Tryz.ntmps106
  go_wp2_with fail
  go_ret
  exact ⟨rfl, rfl⟩
theorem box_cells {w : World} {B : Nat} {x : EvV} {t : TypeId} (h : w.heap[B]? = some (.cells #[.string x.ev.id, .string x.ev.room, x.pv, .string x.ev.thread, .string x.ev.user, .int .i64 x.ev.does] t (0, 0))) :
  w.cell? ⟨B, 0, none⟩ = some (.string x.ev.id) ∧ w.cell? ⟨B, 1, none⟩ = some (.string x.ev.room) ∧ w.cell? ⟨B, 2, none⟩ = some x.pv ∧ w.cell? ⟨B, 3, none⟩ = some (.string x.ev.thread) ∧ w.cell? ⟨B, 4, none⟩ = some (.string x.ev.user) ∧ w.cell? ⟨B, 5, none⟩ = some (.int .i64 x.ev.does) :=
 ⟨cell_at h 0, cell_at h 1, cell_at h 2, cell_at h 3, cell_at h 4, cell_at h 5⟩
set_option maxHeartbeats 1600000 in
theorem mayThread_any (x : EvV) (w : World) (hx : x.ev.ok) : Calls Tryz.prog 107 #[x.val] w fun r w' => r = .returned (.bool (thrB x.ev)) ∧ Below w.heap.size w w' := by
 have HC := Lib.hid (fun W => event_code x.ev.thread W hx.2.2.1)
 have HU : Hid (thrB x.ev = ((x.ev.thread.toList == []) || (eventB x.ev.thread && !(x.ev.thread.toList == x.ev.id.toList) && (x.ev.does == 0)))) := Lib.hid (by
  unfold thrB
  rw [← keyB, ← keyB, show (⟨#[]⟩ : ByteArray).toList = [] by rw [ByteArray.toList_eq]]
  congr 2)
 have HBx := Lib.hid (box_new (w := w) #[.string x.ev.id, .string x.ev.room, x.pv, .string x.ev.thread, .string x.ev.user, .int .i64 x.ev.does] 52)
 have HBl := Lib.hid (below_new w (.cells #[.string x.ev.id, .string x.ev.room, x.pv, .string x.ev.thread, .string x.ev.user, .int .i64 x.ev.does] 52))
 rw [show x.val = .agg #[.string x.ev.id, .string x.ev.room, x.pv, .string x.ev.thread, .string x.ev.user, .int .i64 x.ev.does] from rfl]
 clear hx
 unfold EvV.pv at *
 go_enter Tryz.func107, Tryz.ntmps107
 go_upto_region 1 with (fail)
 generalize World.alloc _ _ = w1 at HBx HBl ⊢
 generalize hB : w.heap.size = B at HBx ⊢
 obtain ⟨c0, c1, c2, c3, c4, c5⟩ := box_cells HBx.out
 generalize hth : (x.ev.thread.toList == []) = b1 at HU
 cases b1
 ·go_wp2_with fail
  go_at_call 95
  refine (HC.out _).mono ?_
  rintro r w2 ⟨rfl, b2⟩
  replace HBx := Lib.hid ((b2.block B (smem_lt HBx.out)).trans HBx.out)
  replace HBl := Lib.hid (HBl.out.trans (b2.mono HBl.out.size))
  clear b2 HC c0 c1 c2 c3 c4 c5
  obtain ⟨c0, c1, c2, c3, c4, c5⟩ := box_cells HBx.out
  generalize eventB x.ev.thread = ev at HU ⊢
  cases ev
  ·go_wp2_with fail
   go_ret
   exact ⟨by rw [HU.out]; rfl, HBl.out⟩
  ·generalize hid : (x.ev.thread.toList == x.ev.id.toList) = b3 at HU
   cases b3
   ·go_wp2_with fail
    go_ret
    exact ⟨by rw [HU.out]; rfl, HBl.out⟩
   ·go_wp2_with fail
    go_ret
    exact ⟨by rw [HU.out]; rfl, HBl.out⟩
 ·go_wp2_with fail
  go_ret
  exact ⟨by rw [HU.out]; rfl, HBl.out⟩
set_option maxHeartbeats 1600000 in
theorem may_any (x : EvV) (w : World) (hx : x.at w) : Calls Tryz.prog 76 #[x.val] w fun r w' => r = .returned (.bool (mayE x.ev)) ∧ Below w.heap.size w w' := by
 have HX := Lib.hid hx
 have HC1 := Lib.hid (fun W => event_code x.ev.id W hx.2.1)
 have HC2 := Lib.hid (fun W => room_any x.ev.room W hx.2.2.1)
 have HC3 := Lib.hid (fun W => user_any x.ev.user W hx.2.2.2.2.1)
 have HC5 := Lib.hid (fun W => mayDo_any x.ev W)
 have HC6 := Lib.hid (fun W => mayThread_any x W hx.2)
 have HU := Lib.hid (mayE_code x.ev)
 have HBx := Lib.hid (box_new (w := w) #[.string x.ev.id, .string x.ev.room, x.pv, .string x.ev.thread, .string x.ev.user, .int .i64 x.ev.does] 52)
 have HBl := Lib.hid (below_new w (.cells #[.string x.ev.id, .string x.ev.room, x.pv, .string x.ev.thread, .string x.ev.user, .int .i64 x.ev.does] 52))
 rw [show x.val = .agg #[.string x.ev.id, .string x.ev.room, x.pv, .string x.ev.thread, .string x.ev.user, .int .i64 x.ev.does] from rfl] at *
 clear hx
 unfold EvV.pv at *
 go_enter Tryz.func76, Tryz.ntmps76
 go_upto_region 1 with (fail)
 generalize World.alloc _ _ = w1 at HBx HBl ⊢
 generalize hB : w.heap.size = B at HBx ⊢
 obtain ⟨c0, c1, c2, c3, c4, c5⟩ := box_cells HBx.out
 go_wp2_with fail
 go_at_call 95
 refine (HC1.out _).mono ?_
 rintro r w2 ⟨rfl, b2⟩
 replace HBx := Lib.hid ((b2.block B (smem_lt HBx.out)).trans HBx.out)
 replace HBl := Lib.hid (HBl.out.trans (b2.mono HBl.out.size))
 clear b2 c0 c1 c2 c3 c4 c5
 obtain ⟨c0, c1, c2, c3, c4, c5⟩ := box_cells HBx.out
 generalize eventB x.ev.id = b at HU ⊢
 cases b
 ·go_wp2_with fail
  go_ret
  exact ⟨by rw [HU.out]; rfl, HBl.out⟩
 go_wp2_with fail
 go_at_call 93
 refine (HC2.out _).mono ?_
 rintro r w3 ⟨rfl, b2⟩
 replace HBx := Lib.hid ((b2.block B (smem_lt HBx.out)).trans HBx.out)
 replace HBl := Lib.hid (HBl.out.trans (b2.mono HBl.out.size))
 clear b2 c0 c1 c2 c3 c4 c5
 obtain ⟨c0, c1, c2, c3, c4, c5⟩ := box_cells HBx.out
 generalize namedB 33 x.ev.room = b at HU ⊢
 cases b
 ·go_wp2_with fail
  go_ret
  exact ⟨by rw [HU.out]; rfl, HBl.out⟩
 go_wp2_with fail
 go_at_call 94
 refine (HC3.out _).mono ?_
 rintro r w4 ⟨rfl, b2⟩
 replace HBx := Lib.hid ((b2.block B (smem_lt HBx.out)).trans HBx.out)
 replace HBl := Lib.hid (HBl.out.trans (b2.mono HBl.out.size))
 clear b2 c0 c1 c2 c3 c4 c5
 obtain ⟨c0, c1, c2, c3, c4, c5⟩ := box_cells HBx.out
 generalize namedB 64 x.ev.user = b at HU ⊢
 cases b
 ·go_wp2_with fail
  go_ret
  exact ⟨by rw [HU.out]; rfl, HBl.out⟩
 go_wp2_with fail
 have HC4 := Lib.hid (mayBehind_any x.ev (.slice x.A x.ev.parents.length x.cap) w4 (HX.out.1.below HBl.out) HX.out.2.2.2.2.2.1)
 go_at_call 105
 refine (HC4.out).mono ?_
 rintro r w5 ⟨rfl, b2⟩
 replace HBx := Lib.hid ((b2.block B (smem_lt HBx.out)).trans HBx.out)
 replace HBl := Lib.hid (HBl.out.trans (b2.mono HBl.out.size))
 clear b2 c0 c1 c2 c3 c4 c5
 obtain ⟨c0, c1, c2, c3, c4, c5⟩ := box_cells HBx.out
 generalize behB x.ev = b at HU ⊢
 cases b
 ·go_wp2_with fail
  go_ret
  exact ⟨by rw [HU.out]; rfl, HBl.out⟩
 go_wp2_with fail
 go_at_call 106
 refine (HC5.out _).mono ?_
 rintro r _ ⟨rfl, rfl⟩
 generalize doB x.ev = b at HU ⊢
 cases b
 ·go_wp2_with fail
  go_ret
  exact ⟨by rw [HU.out]; rfl, HBl.out⟩
 go_wp2_with fail
 go_at_call 107
 refine (HC6.out _).mono ?_
 rintro r w7 ⟨rfl, b2⟩
 replace HBx := Lib.hid ((b2.block B (smem_lt HBx.out)).trans HBx.out)
 replace HBl := Lib.hid (HBl.out.trans (b2.mono HBl.out.size))
 clear b2 c0 c1 c2 c3 c4 c5
 obtain ⟨c0, c1, c2, c3, c4, c5⟩ := box_cells HBx.out
 go_wp2_with fail
 go_ret
 exact ⟨by rw [HU.out]; rfl, HBl.out⟩
end Go.Proofs.YtnnapkakbdpkaaaGreat

namespace Go.Proofs.YtnnapkakbdpkaaaGreat
set_option maxRecDepth 20000
section
variable {α : Type} (key : α → ByteArray)
def putK (x : α) : List α → List α
 | [] => [x]
 | y :: r => bif leS (key x) (key y) then x :: (y :: r).filter (fun z => !decide (key z = key x)) else y :: putK x r
variable {key}
theorem putK_keys (x : α) : ∀ l : List α, (putK key x l).map key = putL (key x) (l.map key)
 | [] => rfl
 | y :: r => by
  rw [List.map_cons]
  unfold putL
  rw [putK]
  cases leS (key x) (key y)
  ·rw [cond_false, cond_false, List.map_cons, putK_keys x r]
  ·rw [cond_true, cond_true, List.map_cons, ← List.map_cons (f := key) (a := y), List.filter_map]
   rfl
theorem putK_map {β : Type} (key' : β → ByteArray) (f : α → β) (hf : ∀ z, key' (f z) = key z) (x : α) : ∀ l : List α, (putK key x l).map f = putK key' (f x) (l.map f)
 | [] => rfl
 | y :: r => by
  rw [List.map_cons, putK, putK, hf, hf]
  cases leS (key x) (key y)
  ·rw [cond_false, cond_false, List.map_cons, putK_map key' f hf x r]
  ·rw [cond_true, cond_true, List.map_cons, ← List.map_cons (f := f) (a := y), List.filter_map]
   congr 2
   apply List.filter_congr
   intro z _
   simp [hf]
theorem putK_up {x : α} {l : List α} (h : Up (l.map key)) : Up ((putK key x l).map key) := by rw [putK_keys]; exact putL_up _ _ h
theorem putK_len (x : α) (l : List α) : (putK key x l).length ≤ l.length + 1 := by
 have h := putL_len (key x) (l.map key)
 rw [← putK_keys, List.length_map, List.length_map] at h
 exact h
theorem up_ne {a b : ByteArray} (h : a.toList < b.toList) : a ≠ b := fun e => by subst e; exact List.lt_irrefl _ h
theorem putK_perm {x : α} : ∀ {l : List α}, Up (l.map key) → (putK key x l).Perm (x :: l.filter (fun z => !decide (key z = key x)))
 | [], _ => List.Perm.refl _
 | y :: r, h => by
  unfold putK
  have h1 := List.pairwise_cons.1 h
  cases hb : leS (key x) (key y)
  ·rw [cond_false]
   have hx : key y ≠ key x := fun e => by
    rw [e] at hb
    have := leS_iff.2 (List.lt_irrefl (key x).toList)
    rw [hb] at this; cases this
   rw [List.filter_cons, if_pos (by simp [hx])]
   exact (List.Perm.cons y (putK_perm h1.2)).trans (List.Perm.swap _ _ _)
  ·exact List.Perm.refl _
theorem putK_mem {x z : α} {l : List α} (h : Up (l.map key)) : z ∈ putK key x l ↔ z = x ∨ (z ∈ l ∧ key z ≠ key x) := by
 rw [(putK_perm h).mem_iff, List.mem_cons, List.mem_filter]
 simp
theorem up_keys {l : List α} (h : Up (l.map key)) {a b : α} (ha : a ∈ l) (hb : b ∈ l) (he : key a = key b) : a = b := by
 rw [Up, List.pairwise_map, List.pairwise_iff_getElem] at h
 obtain ⟨i, hi, rfl⟩ := List.getElem_of_mem ha
 obtain ⟨j, hj, rfl⟩ := List.getElem_of_mem hb
 rcases Nat.lt_trichotomy i j with hl | hl | hl
 ·exact absurd he (up_ne (h i j hi hj hl))
 ·subst hl; rfl
 ·exact absurd he.symm (up_ne (h j i hj hi hl))
end
abbrev Vw := List (ByteArray × List Ev)
def ofL (V : Vw) (r : ByteArray) : List Ev := match V.find? (fun p => decide (p.1 = r)) with
 | some p => p.2
 | none => []
def errV (V : Vw) (e : Ev) : Int := errA e.room (ofL V e.room) e
def addV (V : Vw) (e : Ev) : Vw := if errV V e = 0 then putK Prod.fst (e.room, addA e.room (ofL V e.room) e) V else V
theorem ofL_in {V : Vw} (h : Up (V.map Prod.fst)) {p : ByteArray × List Ev} (hp : p ∈ V) : ofL V p.1 = p.2 := by
 unfold ofL
 cases hf : V.find? (fun q => decide (q.1 = p.1)) with
 | none =>
  rw [List.find?_eq_none] at hf
  have := hf p hp
  simp at this
 | some q =>
  have h1 := List.mem_of_find?_eq_some hf
  have h2 := List.find?_some hf
  rw [decide_eq_true_eq] at h2
  rw [up_keys h h1 hp h2]
theorem ofL_out {V : Vw} {r : ByteArray} (h : r ∉ V.map Prod.fst) : ofL V r = [] := by
 unfold ofL
 cases hf : V.find? (fun q => decide (q.1 = r)) with
 | none => rfl
 | some q =>
  have h1 := List.mem_of_find?_eq_some hf
  have h2 := List.find?_some hf
  rw [decide_eq_true_eq] at h2
  exact absurd (List.mem_map.2 ⟨q, h1, h2⟩) h
structure VOk (n : Nat) (V : Vw) : Prop where
 up : Up (V.map Prod.fst)
 each : ∀ p ∈ V, Valid p.1 p.2 ∧ p.2.length ≤ n ∧ p.1.size ≤ 40
 len : V.length ≤ n
theorem VOk.nil : VOk 0 [] := ⟨List.Pairwise.nil, fun p h => (by cases h), Nat.le_refl _⟩
theorem VOk.mono {n n' : Nat} {V : Vw} (h : VOk n V) (hn : n ≤ n') : VOk n' V := ⟨h.up, fun p hp => ⟨(h.each p hp).1, Nat.le_trans (h.each p hp).2.1 hn, (h.each p hp).2.2⟩, Nat.le_trans h.len hn⟩
theorem VOk.of_ {n : Nat} {V : Vw} (h : VOk n V) (r : ByteArray) : Valid r (ofL V r) ∧ (ofL V r).length ≤ n := by
 by_cases hr : r ∈ V.map Prod.fst
 ·obtain ⟨p, hp, rfl⟩ := List.mem_map.1 hr
  rw [ofL_in h.up hp]
  exact ⟨(h.each p hp).1, (h.each p hp).2.1⟩
 ·rw [ofL_out hr]
  exact ⟨valid_nil r, Nat.zero_le _⟩
theorem addA_len (room : ByteArray) (l : List Ev) (e : Ev) : (addA room l e).length ≤ l.length + 1 := by
 unfold addA
 split
 ·simp
 ·omega
theorem addV_ok {n : Nat} {V : Vw} {e : Ev} (h : VOk n V) : VOk (n + 1) (addV V e) := by
 unfold addV
 split
 ·rename_i he
  have h1 := h.of_ e.room
  refine ⟨putK_up h.up, fun p hp => ?_, Nat.le_trans (putK_len _ _) (by have := h.len; omega)⟩
  rcases (putK_mem h.up).1 hp with rfl | ⟨hp, -⟩
  ·refine ⟨valid_add h1.1, ?_, ?_⟩
   ·have := addA_len e.room (ofL V e.room) e
    simp only
    omega
   ·have h2 := (err_zero he).1
    unfold mayE headB at h2
    simp only [Bool.and_eq_true] at h2
    have h3 := h2.1.1.1.1.1.1.2
    exact named_size h3
  ·have := h.each p hp
   exact ⟨this.1, by omega, this.2.2⟩
 ·exact h.mono (Nat.le_succ n)
def fitsL (l : List Ev) (id thread : ByteArray) : Int := match idx l id with
 | none => 4
 | some k => match l[k]? with
  | none => 4
  | some e => if thread = ⟨#[]⟩ ∨ thread = id ∨ (thread = ⟨#[109, 97, 105, 110]⟩ ∧ e.thread = ⟨#[]⟩) ∨ (e.thread ≠ ⟨#[]⟩ ∧ thread = e.thread) then 0 else 7
end Go.Proofs.YtnnapkakbdpkaaaGreat
