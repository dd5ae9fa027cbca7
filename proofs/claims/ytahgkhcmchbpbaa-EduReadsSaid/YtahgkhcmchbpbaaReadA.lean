/-
  The EDU of bytes, as package edu reads it.
-/
import Derived.Test.YtahgkhcmchbpbaaLaid
namespace Go.Proofs.Ytahgkhcmchbpbaa
open Go.RowKit
set_option linter.unusedVariables false
set_option linter.unusedSimpArgs false
set_option maxRecDepth 4000

/-- The reader's states, text by text and number by number. -/
def stT (m : Int) (bs : List UInt8) : Nat → St
  | 0 => (numS (bs, 0)).2
  | j + 1 => (textS (stT m bs j) m).2
def fT (m : Int) (bs : List UInt8) (j : Nat) : ByteArray := strOf (textS (stT m bs j) m).1
def stN (m : Int) (bs : List UInt8) : Nat → St
  | 0 => (flagS (stT m bs 4)).2
  | j + 1 => (numS (stN m bs j)).2
def nT (m : Int) (bs : List UInt8) (j : Nat) : Int := ((numS (stN m bs j)).1 : Int)
theorem readE_eq (m : Int) (bs : List UInt8) : readE m bs = (⟨((numS (bs, 0)).1 : Int), fT m bs 0, fT m bs 1, fT m bs 2, fT m bs 3, false, (flagS (stT m bs 4)).1, nT m bs 0, nT m bs 1, nT m bs 2, nT m bs 3⟩, stN m bs 4) := rfl
theorem stT_zero (m : Int) (bs : List UInt8) : (numS (bs, 0)).2 = stT m bs 0 := by rw [stT]
theorem stT_succ (m : Int) (bs : List UInt8) (j : Nat) : (textS (stT m bs j) m).2 = stT m bs (j + 1) := by rw [stT]
theorem fT_def (m : Int) (bs : List UInt8) (j : Nat) : strOf (textS (stT m bs j) m).1 = fT m bs j := by rw [fT]
theorem stN_zero (m : Int) (bs : List UInt8) : (flagS (stT m bs 4)).2 = stN m bs 0 := by rw [stN]
theorem stN_succ (m : Int) (bs : List UInt8) (j : Nat) : (numS (stN m bs j)).2 = stN m bs (j + 1) := by rw [stN]
theorem nT_def (m : Int) (bs : List UInt8) (j : Nat) : ((numS (stN m bs j)).1 : Int) = nT m bs j := by rw [nT]
theorem readB_eq (m : Int) (bs : List UInt8) : readB m bs = (decide (endS (readE m bs).2 = 0) && mayB (readE m bs).1) := by rw [readB]
theorem stT_len (m : Int) (bs : List UInt8) (j : Nat) : (stT m bs j).1.length ≤ bs.length := by
  induction j with
  | zero =>
    unfold stT
    have h := numS_len (bs, 0)
    simp only at h
    exact h
  | succ j ih =>
    unfold stT
    have h := textS_len (stT m bs j) m
    omega
theorem stN_len (m : Int) (bs : List UInt8) (j : Nat) : (stN m bs j).1.length ≤ bs.length := by
  induction j with
  | zero =>
    unfold stN
    have h := flagS_len (stT m bs 4)
    have h2 := stT_len m bs 4
    omega
  | succ j ih =>
    unfold stN
    have h := numS_len (stN m bs j)
    omega
theorem textS_fst (s : St) (m : Int) : (textS s m).1.length ≤ s.1.length := by
  obtain ⟨n, s1, hn⟩ : ∃ n s1, numS s = (n, s1) := ⟨_, _, rfl⟩
  have h1 : (numS s).1 = n := by rw [hn]
  have h2 : (numS s).2 = s1 := by rw [hn]
  have hl := numS_len s
  rw [h2] at hl
  by_cases hm : m < (n : Int)
  · rw [textS_most h1 h2 hm]; exact Nat.zero_le _
  · by_cases hs : s1.1.length < n
    · rw [textS_short h1 h2 hm hs]; exact Nat.zero_le _
    · by_cases he : s1.2 = 0
      · rw [textS_take h1 h2 hm hs he]
        simp only [List.length_take]
        omega
      · rw [textS_err h1 h2 hm hs he]; exact Nat.zero_le _
theorem fT_size (m : Int) (bs : List UInt8) (j : Nat) : (fT m bs j).size ≤ bs.length := by
  unfold fT
  rw [strOf_size]
  have h := textS_fst (stT m bs j) m
  have h2 := stT_len m bs j
  omega

/-- The code's reader, and the EDU that is filled. -/
def RdE (w : World) (g E : Nat) (cs : Array Value) (s : St) (w' : World) : Prop :=
  Below w.heap.size w w' ∧ (∃ X : Array Value, X.size = 11 ∧ w'.heap[w.heap.size]? = some (.cells X 23 (0, 0))) ∧ Rd w' 0 g s ∧ w'.heap[E]? = some (.cells cs 23 (0, 0)) ∧ w.heap.size < g ∧ w.heap.size < E ∧ g ≠ E
theorem RdE.later {w w' w'' : World} {g E : Nat} {cs : Array Value} {s : St} (h : RdE w g E cs s w') (hb : Below w'.heap.size w' w'') : RdE w g E cs s w'' := by
  obtain ⟨h1, ⟨X, hX, h2⟩, h3, h4, h5⟩ := h
  exact ⟨Go.Proofs.Ytahgkhcmchbpbaa.later h1 hb, ⟨X, hX, (hb.block _ (heap_lt h2)).trans h2⟩, h3.below hb, (hb.block _ (heap_lt h4)).trans h4, h5⟩
theorem RdE.read {w w' w'' : World} {g E : Nat} {cs : Array Value} {s s' : St} (h : RdE w g E cs s w') (hr : Rd w'' 0 g s') (hg : w'.grownBy w'' (some g)) : RdE w g E cs s' w'' := by
  obtain ⟨h1, ⟨X, hX, h2⟩, h3, h4, h5, h6, h7⟩ := h
  exact ⟨below_grown h1 hg (by omega), ⟨X, hX, (hg.block _ (heap_lt h2) (fun e => by injection e with e; omega)).trans h2⟩, hr, (hg.block _ (heap_lt h4) (fun e => h7 (by injection e with e; exact e.symm))).trans h4, h5, h6, h7⟩
theorem RdE.store {w w' : World} {g E i : Nat} {cs : Array Value} {s : St} {u : Value} (h : RdE w g E cs s w') : RdE w g E (cs.setIfInBounds i u) s (w'.setCell ⟨E, i, none⟩ u) := by
  obtain ⟨h1, ⟨X, hX, h2⟩, ⟨⟨v, hh, hr⟩, ho⟩, h4, h5, h6, h7⟩ := h
  have hg := grown_set w' E i u
  exact ⟨h1.setCell (by simp; omega) _, ⟨X, hX, (hg.block _ (heap_lt h2) (fun e => by injection e with e; omega)).trans h2⟩, ⟨⟨v, (hg.block _ (heap_lt hh) (fun e => h7 (by injection e))).trans hh, hr.grown hg (not_bytes h4 (by decide))⟩, ho⟩, heap_set h4 i u, h5, h6, h7⟩
/-- Where the fields lie is listed. -/
theorem listed_read {w' w'' : World} {g P : Nat} {o : Obj} (h : w'.heap[P]? = some o) (hg : w'.grownBy w'' (some g)) (hne : P ≠ g) : w''.heap[P]? = some o := (hg.block _ (heap_lt h) (fun e => hne (by injection e))).trans h
theorem listed_store {w' : World} {E i P : Nat} {u : Value} {o : Obj} (h : w'.heap[P]? = some o) (hne : P ≠ E) : (w'.setCell ⟨E, i, none⟩ u).heap[P]? = some o := (Below.heap_setCell w' _ u P hne).trans h
theorem ptr_cell {w : World} {P E a : Nat} {ty : TypeId} (h : w.heap[P]? = some (.cells #[.pointer (some ⟨E, a, none⟩), .pointer (some ⟨E, a + 1, none⟩), .pointer (some ⟨E, a + 2, none⟩), .pointer (some ⟨E, a + 3, none⟩)] ty (0, 0))) {k : Nat} (hk : k < 4) : w.cell? ⟨P, k, none⟩ = some (.pointer (some ⟨E, a + k, none⟩)) := by
  rw [cell_at h k]
  rcases (show k = 0 ∨ k = 1 ∨ k = 2 ∨ k = 3 by omega) with rfl | rfl | rfl | rfl <;> rfl
theorem cellT (k : Int) (f : Nat → ByteArray) {j : Nat} (hj : j < 4) : (#[.int .i64 k, .string (if 0 < j then f 0 else ⟨#[]⟩), .string (if 1 < j then f 1 else ⟨#[]⟩), .string (if 2 < j then f 2 else ⟨#[]⟩), .string (if 3 < j then f 3 else ⟨#[]⟩), .bool false, .bool false, .int .i64 0, .int .i64 0, .int .i64 0, .int .i64 0] : Array Value)[1 + j]? = some (.string ⟨#[]⟩) := by
  rcases (show j = 0 ∨ j = 1 ∨ j = 2 ∨ j = 3 by omega) with rfl | rfl | rfl | rfl <;> rfl
theorem stepT (k : Int) (f : Nat → ByteArray) {j : Nat} (hj : j < 4) : (#[.int .i64 k, .string (if 0 < j then f 0 else ⟨#[]⟩), .string (if 1 < j then f 1 else ⟨#[]⟩), .string (if 2 < j then f 2 else ⟨#[]⟩), .string (if 3 < j then f 3 else ⟨#[]⟩), .bool false, .bool false, .int .i64 0, .int .i64 0, .int .i64 0, .int .i64 0] : Array Value).setIfInBounds (1 + j) (.string (f j)) = #[.int .i64 k, .string (if 0 < j + 1 then f 0 else ⟨#[]⟩), .string (if 1 < j + 1 then f 1 else ⟨#[]⟩), .string (if 2 < j + 1 then f 2 else ⟨#[]⟩), .string (if 3 < j + 1 then f 3 else ⟨#[]⟩), .bool false, .bool false, .int .i64 0, .int .i64 0, .int .i64 0, .int .i64 0] := by
  rcases (show j = 0 ∨ j = 1 ∨ j = 2 ∨ j = 3 by omega) with rfl | rfl | rfl | rfl <;> rfl
theorem cellN (k : Int) (f : Nat → ByteArray) (o : Bool) (n : Nat → Int) {j : Nat} (hj : j < 4) : (#[.int .i64 k, .string (f 0), .string (f 1), .string (f 2), .string (f 3), .bool false, .bool o, .int .i64 (if 0 < j then n 0 else 0), .int .i64 (if 1 < j then n 1 else 0), .int .i64 (if 2 < j then n 2 else 0), .int .i64 (if 3 < j then n 3 else 0)] : Array Value)[7 + j]? = some (.int .i64 0) := by
  rcases (show j = 0 ∨ j = 1 ∨ j = 2 ∨ j = 3 by omega) with rfl | rfl | rfl | rfl <;> rfl
theorem stepN (k : Int) (f : Nat → ByteArray) (o : Bool) (n : Nat → Int) {j : Nat} (hj : j < 4) : (#[.int .i64 k, .string (f 0), .string (f 1), .string (f 2), .string (f 3), .bool false, .bool o, .int .i64 (if 0 < j then n 0 else 0), .int .i64 (if 1 < j then n 1 else 0), .int .i64 (if 2 < j then n 2 else 0), .int .i64 (if 3 < j then n 3 else 0)] : Array Value).setIfInBounds (7 + j) (.int .i64 (n j)) = #[.int .i64 k, .string (f 0), .string (f 1), .string (f 2), .string (f 3), .bool false, .bool o, .int .i64 (if 0 < j + 1 then n 0 else 0), .int .i64 (if 1 < j + 1 then n 1 else 0), .int .i64 (if 2 < j + 1 then n 2 else 0), .int .i64 (if 3 < j + 1 then n 3 else 0)] := by
  rcases (show j = 0 ∨ j = 1 ∨ j = 2 ∨ j = 3 by omega) with rfl | rfl | rfl | rfl <;> rfl

def answerE (m : Int) (bs : List UInt8) : Edu := bif readB m bs then (readE m bs).1 else ⟨0, ⟨#[]⟩, ⟨#[]⟩, ⟨#[]⟩, ⟨#[]⟩, false, false, 0, 0, 0, 0⟩
def answerN (m : Int) (bs : List UInt8) : Int := bif readB m bs then 0 else 2
theorem answerE_eq (m : Int) (bs : List UInt8) : answerE m bs = bif readB m bs then ⟨((numS (bs, 0)).1 : Int), fT m bs 0, fT m bs 1, fT m bs 2, fT m bs 3, false, (flagS (stT m bs 4)).1, nT m bs 0, nT m bs 1, nT m bs 2, nT m bs 3⟩ else ⟨0, ⟨#[]⟩, ⟨#[]⟩, ⟨#[]⟩, ⟨#[]⟩, false, false, 0, 0, 0, 0⟩ := by
  rw [answerE, readE_eq]
theorem readB_eq2 (m : Int) (bs : List UInt8) : readB m bs = (decide (endS (stN m bs 4) = 0) && mayB ⟨((numS (bs, 0)).1 : Int), fT m bs 0, fT m bs 1, fT m bs 2, fT m bs 3, false, (flagS (stT m bs 4)).1, nT m bs 0, nT m bs 1, nT m bs 2, nT m bs 3⟩) := by
  rw [readB, readE_eq]
theorem answerN_eq (m : Int) (bs : List UInt8) : answerN m bs = bif readB m bs then 0 else 2 := by rw [answerN]
def zeroE : Edu := ⟨0, ⟨#[]⟩, ⟨#[]⟩, ⟨#[]⟩, ⟨#[]⟩, false, false, 0, 0, 0, 0⟩
end Go.Proofs.Ytahgkhcmchbpbaa
