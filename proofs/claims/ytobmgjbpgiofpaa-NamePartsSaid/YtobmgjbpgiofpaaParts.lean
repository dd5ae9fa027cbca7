/-
  NameParts: the part and the home of a name are the document's, and there are none of anything else; whatever text and lists of numbers are handed in, the statement's function answers true, and nothing that was there is turned.
-/
import Derived.Test.YtobmgjbpgiofpaaLives
import Derived.Test.YtobmgjbpgiofpaaTexts
import Derived.Deep.RegionHeld3
import Derived.Deep.DeepCutAuto
namespace Go.Proofs.Ytobmgjbpgiofpaa
open Go.RowKit
set_option linter.unusedVariables false
set_option linter.unusedSimpArgs false

theorem texts5 (w : World) (ty : TypeId) (t0 t1 t2 t3 t4 : ByteArray) (h0 : t0.size ≤ 60) (h1 : t1.size ≤ 60) (h2 : t2.size ≤ 60) (h3 : t3.size ≤ 60) (h4 : t4.size ≤ 60) :
    TextsAt (w.alloc (.cells #[.string t0, .string t1, .string t2, .string t3, .string t4] ty)) w.heap.size 5 := by
  intro j hj
  rcases (show j = 0 ∨ j = 1 ∨ j = 2 ∨ j = 3 ∨ j = 4 by omega) with rfl | rfl | rfl | rfl | rfl
  · exact ⟨t0, by simp, h0⟩
  · exact ⟨t1, by simp, h1⟩
  · exact ⟨t2, by simp, h2⟩
  · exact ⟨t3, by simp, h3⟩
  · exact ⟨t4, by simp, h4⟩

set_option maxHeartbeats 3200000 in
theorem parts_walk (s : ByteArray) (a : Option Addr) (len cap : Nat) (a' : Option Addr) (len' cap' : Nat) (w : World) (hs : s.size ≤ maxLen) (hl : len ≤ maxLen) (hl' : len' ≤ maxLen) (ha : IntsAt w a len) (ha' : IntsAt w a' len') :
    Calls Try.prog 4 #[.string s, .slice a len cap, .slice a' len' cap'] w (BoolPost true w) := by
  have hfs := fewS_size s 40
  obtain ⟨z1, hz1⟩ := ha.get
  obtain ⟨z2, hz2⟩ := ha'.get
  have hx := madeS_size ⟨#[]⟩ z1 len 17
  have hy := madeS_size ⟨#[]⟩ z2 len' 17
  go_enter Try.func4, Try.ntmps4
  go_wp2_with fail
  refine (made_any a len cap 17 ⟨#[]⟩ z1 _ hl (by decide) (by decide) hz1).mono ?_
  rintro e w' ⟨rfl, rfl⟩
  generalize madeS ⟨#[]⟩ z1 len 17 = x at *
  go_wp2_with fail
  refine (made_any a' len' cap' 17 ⟨#[]⟩ z2 _ hl' (by decide) (by decide) hz2).mono ?_
  rintro e w' ⟨rfl, rfl⟩
  generalize madeS ⟨#[]⟩ z2 len' 17 = y at *
  go_wp2_with fail
  refine (few_any s 40 (by decide) _ hs).mono ?_
  rintro e w' ⟨rfl, rfl⟩
  generalize fewS s 40 = z at *
  clear hz1 hz2 ha ha'
  go_wp2_with fail
  go_loopw [10] (fun i wr => ∃ k : Nat, k ≤ 5 ∧ i = .int .i64 k ∧ TextsAt wr w.heap.size 5 ∧ Below w.heap.size w wr) (fun i _ => 5 - (intOf i).toNat)
  case atStart => exact ⟨0, by omega, rfl, texts5 w _ _ _ _ _ _ (by omega) (by rw [ByteArray.size_append, ByteArray.size_append, ByteArray.size_append, size1, size1]; omega) (by rw [ByteArray.size_append, ByteArray.size_append, ByteArray.size_append, size1, size1]; omega) (by rw [ByteArray.size_append, ByteArray.size_append, size1]; omega) (by rw [ByteArray.size_append, ByteArray.size_append, ByteArray.size_append, size1, size2]; omega), (Below.refl _ _).alloc (Nat.le_refl _) _⟩
  case round =>
    obtain ⟨k, hk, rfl, ht, hb⟩ := hrel
    by_cases hlt : k < 5
    · obtain ⟨t, hc, hz⟩ := ht k hlt
      have hzm : t.size ≤ maxLen := by unfold maxLen; omega
      have hz2 : t.size ≤ 281474976710656 := by omega
      have hkeep : wr.cell? ⟨w.heap.size, k, none⟩ = some (.string t) ∧ Keeps w 5 wr := ⟨hc, ht, hb⟩
      clear ht hb
      go_wp2_with fail
      go_region_held3 (fun w' => w'.cell? ⟨w.heap.size, k, none⟩ = some (.string t) ∧ Keeps w 5 w') (first | exact keep_drew (by assumption) | exact keep_call (by assumption) (by assumption) | assumption)
        (first
          | (go_at_call 21; refine (home_any t _ hz2).mono ?_; rintro e w1 ⟨rfl, hbx⟩)
          | (go_at_call 22; refine (refHome_any t _ hzm).mono ?_; rintro e w1 ⟨rfl, rfl⟩)
          | (go_at_call 23; refine (part_any t _ hz2).mono ?_; rintro e w1 ⟨rfl, hbx⟩)
          | (go_at_call 24; refine (refLocal_any t _ hzm).mono ?_; rintro e w1 ⟨rfl, rfl⟩))
      all_goals
        rename_i hH
        have HK := Lib.hid hH.2
        clear hH
        go_wp2
        go_roundw
        case rel => exact ⟨k + 1, by omega, by go_num, HK.out.1, HK.out.2⟩
        case measure => simp [intOf]; omega
    · go_wp2_with fail
      refine (lives_any _).mono ?_
      rintro e w2 ⟨rfl, hb2⟩
      go_wp2
      go_ret
      exact ⟨rfl, later hb hb2⟩
end Go.Proofs.Ytobmgjbpgiofpaa
