/-
  Plain facts on the small world's names, and on an EDU that is made of them: it may be local. No function of the program is named here.
-/
import Derived.Test.YtahgkhcmchbpbaaEdu
namespace Go.Proofs.Ytahgkhcmchbpbaa
open Go.RowKit
set_option linter.unusedVariables false
set_option linter.unusedSimpArgs false

/-- The small world's names, by their places. -/
def serverK (k : Nat) : ByteArray := strOf [115, UInt8.ofNat (49 + k)]
def userK (k : Nat) : ByteArray := strOf [64, UInt8.ofNat (97 + k / 3), 58, 115, UInt8.ofNat (49 + k % 3)]
def roomK (k : Nat) : ByteArray := if k = 0 then strOf [33, 114, 58, 115, 49] else strOf [33, 113, 58, 115, 50]
def eventK (k : Nat) : ByteArray := strOf [36, 101, UInt8.ofNat (48 + k)]
def threadK (k : Nat) : ByteArray := if k = 9 then strOf [] else if k = 10 then strOf [109, 97, 105, 110] else eventK k
/-- .. of any number. -/
def aroundN (n m : Int) : Nat := (aroundI n m).toNat
theorem aroundN_lt (n : Int) {m : Nat} (h : 0 < m) : aroundN n (m : Int) < m := by
  have := aroundI_bd n (m : Int) (by omega)
  unfold aroundN
  omega
theorem aroundN_cast (n : Int) {m : Int} (h : 0 < m) : ((aroundN n m : Nat) : Int) = aroundI n m := by
  have := aroundI_bd n m h
  unfold aroundN
  omega
def userS (n : Int) : ByteArray := userK (aroundN n 9)
def roomS (n : Int) : ByteArray := roomK (aroundN n 2)
def eventS (n : Int) : ByteArray := eventK (aroundN n 9)
def threadS (n : Int) : ByteArray := threadK (aroundN n 11)

theorem serverK_server : ∀ k : Fin 3, serverB (serverK k.val) = true := by decide +kernel
theorem userK_user : ∀ k : Fin 9, namedB 64 (userK k.val) = true := by decide +kernel
theorem roomK_room : ∀ k : Fin 2, namedB 33 (roomK k.val) = true := by decide +kernel
theorem eventK_event : ∀ k : Fin 9, eventB (eventK k.val) = true := by decide +kernel
theorem threadK_thread : ∀ k : Fin 11, threadB (threadK k.val) = true := by decide +kernel
theorem userS_user (n : Int) : namedB 64 (userS n) = true := userK_user ⟨aroundN n 9, aroundN_lt n (m := 9) (by decide)⟩
theorem roomS_room (n : Int) : namedB 33 (roomS n) = true := roomK_room ⟨aroundN n 2, aroundN_lt n (m := 2) (by decide)⟩
theorem eventS_event (n : Int) : eventB (eventS n) = true := eventK_event ⟨aroundN n 9, aroundN_lt n (m := 9) (by decide)⟩
theorem threadS_thread (n : Int) : threadB (threadS n) = true := threadK_thread ⟨aroundN n 11, aroundN_lt n (m := 11) (by decide)⟩

/-- Which number an event's name is made of: a text's length may be near the greatest number, and the sum goes around. -/
def evI (e : Edu) : Int := IntKind.i64.wrap ((e.event.size : Int) + aroundI e.tick 9)
theorem evI_bd (e : Edu) : -9223372036854775808 ≤ evI e ∧ evI e ≤ 9223372036854775807 := by
  unfold evI
  rw [IntKind.wrap_i64]
  omega
/-- One that may be local, made of any: a receipt, that one types, that one is there. -/
def good1 (e : Edu) : Edu := { kind := 1, room := roomS e.span, user := userS e.state, event := eventS (evI e), thread := threadS (e.thread.size : Int), priv := e.priv, on := false, span := 0, state := 0, tick := aroundI e.tick 100, stamp := aroundI e.stamp 9 }
def good2 (e : Edu) : Edu := { kind := 2, room := roomS e.span, user := userS e.state, event := ⟨#[]⟩, thread := ⟨#[]⟩, priv := false, on := e.on, span := if e.on then 1 + aroundI e.span 60 else 0, state := 0, tick := aroundI e.tick 100, stamp := aroundI e.stamp 9 }
def good3 (e : Edu) : Edu := { kind := 3, room := ⟨#[]⟩, user := userS e.state, event := ⟨#[]⟩, thread := ⟨#[]⟩, priv := false, on := false, span := 0, state := aroundI e.span 3, tick := aroundI e.tick 100, stamp := aroundI e.stamp 9 }
def goodE (e : Edu) : Edu := if aroundI e.kind 3 = 0 then good1 e else if aroundI e.kind 3 = 1 then good2 e else good3 e
theorem good_ways (e : Edu) : (aroundI e.kind 3 = 0 ∧ goodE e = good1 e) ∨ (aroundI e.kind 3 = 1 ∧ goodE e = good2 e) ∨ (aroundI e.kind 3 = 2 ∧ goodE e = good3 e) := by
  have hk := aroundI_bd e.kind 3 (by decide)
  unfold goodE
  by_cases h0 : aroundI e.kind 3 = 0
  · exact .inl ⟨h0, by rw [if_pos h0]⟩
  · by_cases h1 : aroundI e.kind 3 = 1
    · exact .inr (.inl ⟨h1, by rw [if_neg h0, if_pos h1]⟩)
    · exact .inr (.inr ⟨by omega, by rw [if_neg h0, if_neg h1]⟩)
theorem good_local (e : Edu) : localB (goodE e) = true := by
  have ht := aroundI_bd e.tick 100 (by decide)
  have hs := aroundI_bd e.stamp 9 (by decide)
  have hp := aroundI_bd e.span 60 (by decide)
  have hq := aroundI_bd e.span 3 (by decide)
  have hz : (ByteArray.mk #[]).size = 0 := rfl
  unfold localB stampsB kindB
  rw [Bool.and_eq_true, Bool.and_eq_true, decide_eq_true_iff]
  rcases good_ways e with ⟨_, h⟩ | ⟨_, h⟩ | ⟨_, h⟩
  · rw [h]
    refine ⟨⟨userS_user _, ?_⟩, ?_⟩
    · simp only [good1]; omega
    · rw [if_pos (show (good1 e).kind = 1 from rfl)]
      simp [good1, roomS_room, eventS_event, threadS_thread]
  · rw [h]
    refine ⟨⟨userS_user _, ?_⟩, ?_⟩
    · simp only [good2]; omega
    · rw [if_neg (show (good2 e).kind ≠ 1 by simp [good2]), if_pos (show (good2 e).kind = 2 from rfl)]
      simp only [good2, roomS_room, hz]
      by_cases ho : e.on = true
      · have h1 : decide (1 ≤ 1 + aroundI e.span 60 ∧ 1 + aroundI e.span 60 ≤ 60) = true := decide_eq_true (by omega)
        simp only [if_pos ho, h1]
        decide
      · simp only [if_neg ho]
        decide
  · rw [h]
    refine ⟨⟨userS_user _, ?_⟩, ?_⟩
    · simp only [good3]; omega
    · rw [if_neg (show (good3 e).kind ≠ 1 by simp [good3]), if_neg (show (good3 e).kind ≠ 2 by simp [good3]), if_pos (show (good3 e).kind = 3 from rfl)]
      have h1 : decide (0 ≤ (good3 e).state ∧ (good3 e).state ≤ 2) = true := decide_eq_true (by simp only [good3]; omega)
      rw [h1]
      simp [good3, hz]
/-- .. and that may be. -/
def publicE (e : Edu) : Edu := { goodE e with priv := false }
theorem public_may (e : Edu) : mayB (publicE e) = true := by
  have h := good_local e
  unfold mayB
  rw [Bool.and_eq_true]
  refine ⟨?_, rfl⟩
  unfold localB at h ⊢
  rw [Bool.and_eq_true, Bool.and_eq_true] at h ⊢
  refine ⟨⟨h.1.1, h.1.2⟩, ?_⟩
  have hk := h.2
  unfold publicE kindB at *
  simp only at hk ⊢
  split
  · rename_i h1
    rw [if_pos h1] at hk
    exact hk
  · rename_i h1
    rw [if_neg h1] at hk
    split
    · rename_i h2
      rw [if_pos h2] at hk
      simp only [Bool.and_eq_true] at hk ⊢
      exact ⟨hk.1, rfl⟩
    · rename_i h2
      rw [if_neg h2] at hk
      split
      · rename_i h3
        rw [if_pos h3] at hk
        simp only [Bool.and_eq_true] at hk ⊢
        exact ⟨⟨hk.1.1, rfl⟩, hk.2⟩
      · rename_i h3
        rw [if_neg h3] at hk
        exact hk

/-- Its texts cut. -/
def fewE (e : Edu) : Edu := { e with room := fewS e.room 40, user := fewS e.user 40, event := fewS e.event 40, thread := fewS e.thread 40 }
/-- What it is of. -/
def sameE (a b : Edu) : Bool := decide (a.kind = b.kind) && (a.room == b.room) && (a.user == b.user) && (a.thread == b.thread) && (a.priv == b.priv)
end Go.Proofs.Ytahgkhcmchbpbaa
