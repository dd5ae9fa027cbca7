/-
  NameLong: parts, servers and events of 16 bytes may be, and of none more; for every number that is handed in the statement's function answers true, and nothing that was there is turned.
-/
import Derived.Test.YtobmgjbpgiofpaaLives
import Derived.Test.YtobmgjbpgiofpaaMore
import Derived.Test.YtobmgjbpgiofpaaTexts
namespace Go.Proofs.Ytobmgjbpgiofpaa
open Go.RowKit
set_option linter.unusedVariables false
set_option linter.unusedSimpArgs false

/-- Twenty times the letter a. -/
def aaaS : ByteArray := ⟨#[97, 97, 97, 97, 97, 97, 97, 97, 97, 97, 97, 97, 97, 97, 97, 97, 97, 97, 97, 97]⟩
def aS (k : Nat) : ByteArray := aaaS.extract 0 k
theorem long_facts (r : Fin 20) : serverB (aS (1 + r.val)) = decide (r.val < 16) ∧ namedB 64 (⟨#[64]⟩ ++ aS (1 + r.val) ++ ⟨#[58, 97]⟩) = decide (r.val < 16) ∧ namedB 33 (⟨#[33, 97, 58]⟩ ++ aS (1 + r.val)) = decide (r.val < 16)
    ∧ eventB (⟨#[36]⟩ ++ aS (1 + r.val)) = decide (r.val < 16) ∧ threadB (⟨#[36]⟩ ++ aS (1 + r.val)) = decide (r.val < 16) ∧ (aS (1 + r.val)).size = 1 + r.val := by
  revert r
  decide +kernel

/-- What is asked of a text of so many letters a. -/
structure LongFacts (S : ByteArray) (r : Nat) (b : Bool) : Prop where
  srv : serverB S = b
  usr : namedB 64 (⟨#[64]⟩ ++ S ++ ⟨#[58, 97]⟩) = b
  rom : namedB 33 (⟨#[33, 97, 58]⟩ ++ S) = b
  evt : eventB (⟨#[36]⟩ ++ S) = b
  thr : threadB (⟨#[36]⟩ ++ S) = b

set_option maxHeartbeats 3200000 in
theorem long_walk (n : Int) (w : World) (h0 : -9223372036854775808 ≤ n) (h1 : n ≤ 9223372036854775807) :
    Calls Try.prog 7 #[.int .i64 n] w (BoolPost true w) := by
  obtain ⟨r0, r1⟩ := aroundI_bd n 20 (by omega)
  obtain ⟨r, hr⟩ := Int.eq_ofNat_of_zero_le r0
  have hr2 : r < 20 := by omega
  obtain ⟨S, hS⟩ : ∃ S, S = aS (1 + r) := ⟨_, rfl⟩
  obtain ⟨F, f6⟩ : LongFacts S r (decide (r < 16)) ∧ S.size = 1 + r := by
    obtain ⟨f1, f2, f3, f4, f5, f6⟩ := long_facts ⟨r, hr2⟩
    rw [hS]
    exact ⟨⟨f1, f2, f3, f4, f5⟩, f6⟩
  have HS := Lib.hid hS
  have Hr := Lib.hid hr
  have G1 := Lib.hid (show eventB ⟨#[36]⟩ = false by decide +kernel)
  have G2 := Lib.hid (show namedB 64 ⟨#[64, 58, 97]⟩ = false by decide +kernel)
  have G3 := Lib.hid (show namedB 64 ⟨#[64, 97, 58]⟩ = false by decide +kernel)
  clear hr r0 r1 hS
  have hz : S.size ≤ 20 := by omega
  have z1 : (⟨#[64]⟩ ++ S : ByteArray).size ≤ 21 := by rw [ByteArray.size_append]; show 1 + _ ≤ _; omega
  have hm1 : S.size ≤ maxLen := by unfold maxLen; omega
  have hm2 : (⟨#[64]⟩ ++ S ++ ⟨#[58, 97]⟩ : ByteArray).size ≤ maxLen := by rw [ByteArray.size_append]; show _ + 2 ≤ 2 ^ 63 - 1; omega
  have hm3 : (⟨#[33, 97, 58]⟩ ++ S : ByteArray).size ≤ maxLen := by rw [ByteArray.size_append]; show 3 + _ ≤ 2 ^ 63 - 1; omega
  have hm4 : (⟨#[36]⟩ ++ S : ByteArray).size ≤ maxLen := by rw [ByteArray.size_append]; show 1 + _ ≤ 2 ^ 63 - 1; omega
  clear f6
  by_cases hlt : r < 16
  · have d17 : decide ((1 : Int) + (r : Int) < 17) = true := by simp; omega
    have F' : LongFacts S r true := by have e : decide (r < 16) = true := by simpa using hlt
                                       rw [e] at F; exact F
    clear F
    go_enter Try.func7, Try.ntmps7
    go_wp2_with fail
    refine (around_any n 20 _ h0 h1 (by omega) (by omega)).mono ?_
    rintro e w' ⟨rfl, rfl⟩
    rw [Hr.out]
    go_wp2_with fail
    rw [show (ByteArray.mk #[97, 97, 97, 97, 97, 97, 97, 97, 97, 97, 97, 97, 97, 97, 97, 97, 97, 97, 97, 97]).extract 0 (1 + r) = S from HS.out.symm]
    refine (server_any S _ hm1).mono ?_
    rintro e w1 ⟨rfl, hb1⟩
    rw [F'.srv]
    go_wp2_with fail
    refine (user_any _ _ hm2).mono ?_
    rintro e w2 ⟨rfl, hb2⟩
    rw [F'.usr]
    go_wp2_with fail
    refine (room_any _ _ hm3).mono ?_
    rintro e w3 ⟨rfl, hb3⟩
    rw [F'.rom]
    go_wp2_with fail
    refine (event_code _ _ hm4).mono ?_
    rintro e w4 ⟨rfl, hb4⟩
    rw [F'.evt]
    go_wp2_with fail
    refine (thread_code _ _ hm4).mono ?_
    rintro e w5 ⟨rfl, hb5⟩
    rw [F'.thr]
    go_wp2_with fail
    refine (event_code _ _ (by decide)).mono ?_
    rintro e w6 ⟨rfl, hb6⟩
    rw [G1.out]
    go_wp2_with fail
    refine (user_any _ _ (by decide)).mono ?_
    rintro e w7 ⟨rfl, hb7⟩
    rw [G2.out]
    go_wp2_with fail
    refine (user_any _ _ (by decide)).mono ?_
    rintro e w8 ⟨rfl, hb8⟩
    rw [G3.out]
    go_wp2_with fail
    refine (lives_any _).mono ?_
    rintro e w9 ⟨rfl, hb9⟩
    go_wp2
    go_ret
    exact ⟨rfl, later (later (later (later (later (later (later (later hb1 hb2) hb3) hb4) hb5) hb6) hb7) hb8) hb9⟩
  · have d17 : decide ((1 : Int) + (r : Int) < 17) = false := by simp; omega
    have F' : LongFacts S r false := by have e : decide (r < 16) = false := by simpa using hlt
                                        rw [e] at F; exact F
    clear F
    go_enter Try.func7, Try.ntmps7
    go_wp2_with fail
    refine (around_any n 20 _ h0 h1 (by omega) (by omega)).mono ?_
    rintro e w' ⟨rfl, rfl⟩
    rw [Hr.out]
    go_wp2_with fail
    rw [show (ByteArray.mk #[97, 97, 97, 97, 97, 97, 97, 97, 97, 97, 97, 97, 97, 97, 97, 97, 97, 97, 97, 97]).extract 0 (1 + r) = S from HS.out.symm]
    refine (server_any S _ hm1).mono ?_
    rintro e w1 ⟨rfl, hb1⟩
    rw [F'.srv]
    go_wp2_with fail
    refine (user_any _ _ hm2).mono ?_
    rintro e w2 ⟨rfl, hb2⟩
    rw [F'.usr]
    go_wp2_with fail
    refine (room_any _ _ hm3).mono ?_
    rintro e w3 ⟨rfl, hb3⟩
    rw [F'.rom]
    go_wp2_with fail
    refine (event_code _ _ hm4).mono ?_
    rintro e w4 ⟨rfl, hb4⟩
    rw [F'.evt]
    go_wp2_with fail
    refine (thread_code _ _ hm4).mono ?_
    rintro e w5 ⟨rfl, hb5⟩
    rw [F'.thr]
    go_wp2_with fail
    refine (event_code _ _ (by decide)).mono ?_
    rintro e w6 ⟨rfl, hb6⟩
    rw [G1.out]
    go_wp2_with fail
    refine (user_any _ _ (by decide)).mono ?_
    rintro e w7 ⟨rfl, hb7⟩
    rw [G2.out]
    go_wp2_with fail
    refine (user_any _ _ (by decide)).mono ?_
    rintro e w8 ⟨rfl, hb8⟩
    rw [G3.out]
    go_wp2_with fail
    refine (lives_any _).mono ?_
    rintro e w9 ⟨rfl, hb9⟩
    go_wp2
    go_ret
    exact ⟨rfl, later (later (later (later (later (later (later (later hb1 hb2) hb3) hb4) hb5) hb6) hb7) hb8) hb9⟩
end Go.Proofs.Ytobmgjbpgiofpaa
