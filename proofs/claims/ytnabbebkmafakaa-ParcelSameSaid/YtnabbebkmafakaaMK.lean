/-
  Package edu: Read, Of, Compare, Later.
-/
import Derived.Test.YtnabbebkmafakaaMJ
import Derived.Test.YtnabbebkmafakaaShelf
namespace Go.Proofs.Ytnabbebkmafakaa
open Go.RowKit
set_option linter.unusedVariables false
set_option linter.unusedSimpArgs false
set_option maxRecDepth 20000

/-- The reader's states, text by text and number by number. -/
def stT (m : Int) (bs : List UInt8) : Nat → St
  | 0 => (numS (bs, 0)).2
  | j + 1 => (textS (stT m bs j) m).2
def fT (m : Int) (bs : List UInt8) (j : Nat) : ByteArray := strOf (textS (stT m bs j) m).1
def stN (m : Int) (bs : List UInt8) : Nat → St
  | 0 => (flagS (stT m bs 4)).2
  | j + 1 => (numS (stN m bs j)).2
def nT (m : Int) (bs : List UInt8) (j : Nat) : Int := ((numS (stN m bs j)).1 : Int)
theorem readE_eq (m : Int) (bs : List UInt8) : readE m bs = (⟨((numS (bs, 0)).1 : Int), fT m bs 0, fT m bs 1, fT m bs 2, fT m bs 3, false, (flagS (stT m bs 4)).1, nT m bs 0, nT m bs 1, nT m bs 2, nT m bs 3⟩, stN m bs 4) := rfl
theorem stT_zero (m : Int) (bs : List UInt8) : (numS (bs, 0)).2 = stT m bs 0 := by rw [stT]
theorem stT_succ (m : Int) (bs : List UInt8) (j : Nat) : (textS (stT m bs j) m).2 = stT m bs (j + 1) := by rw [stT]
theorem fT_def (m : Int) (bs : List UInt8) (j : Nat) : strOf (textS (stT m bs j) m).1 = fT m bs j := by rw [fT]
theorem stN_zero (m : Int) (bs : List UInt8) : (flagS (stT m bs 4)).2 = stN m bs 0 := by rw [stN]
theorem stN_succ (m : Int) (bs : List UInt8) (j : Nat) : (numS (stN m bs j)).2 = stN m bs (j + 1) := by rw [stN]
theorem nT_def (m : Int) (bs : List UInt8) (j : Nat) : ((numS (stN m bs j)).1 : Int) = nT m bs j := by rw [nT]
theorem readB_eq (m : Int) (bs : List UInt8) : readB m bs = (decide (endS (readE m bs).2 = 0) && mayB (readE m bs).1) := by rw [readB]
theorem stT_len (m : Int) (bs : List UInt8) (j : Nat) : (stT m bs j).1.length ≤ bs.length := by
  induction j with
  | zero =>
    unfold stT
    have h := numS_len (bs, 0)
    simp only at h
    exact h
  | succ j ih =>
    unfold stT
    have h := textS_len (stT m bs j) m
    omega
theorem stN_len (m : Int) (bs : List UInt8) (j : Nat) : (stN m bs j).1.length ≤ bs.length := by
  induction j with
  | zero =>
    unfold stN
    have h := flagS_len (stT m bs 4)
    have h2 := stT_len m bs 4
    omega
  | succ j ih =>
    unfold stN
    have h := numS_len (stN m bs j)
    omega
theorem textS_fst (s : St) (m : Int) : (textS s m).1.length ≤ s.1.length := by
  obtain ⟨n, s1, hn⟩ : ∃ n s1, numS s = (n, s1) := ⟨_, _, rfl⟩
  have h1 : (numS s).1 = n := by rw [hn]
  have h2 : (numS s).2 = s1 := by rw [hn]
  have hl := numS_len s
  rw [h2] at hl
  by_cases hm : m < (n : Int)
  · rw [textS_most h1 h2 hm]; exact Nat.zero_le _
  · by_cases hs : s1.1.length < n
    · rw [textS_short h1 h2 hm hs]; exact Nat.zero_le _
    · by_cases he : s1.2 = 0
      · rw [textS_take h1 h2 hm hs he]
        simp only [List.length_take]
        omega
      · rw [textS_err h1 h2 hm hs he]; exact Nat.zero_le _
theorem fT_size (m : Int) (bs : List UInt8) (j : Nat) : (fT m bs j).size ≤ bs.length := by
  unfold fT
  rw [strOf_size]
  have h := textS_fst (stT m bs j) m
  have h2 := stT_len m bs j
  omega

/-- The code's reader, and the EDU that is filled. -/
def RdE (w : World) (g E : Nat) (cs : Array Value) (s : St) (w' : World) : Prop :=
  Below w.heap.size w w' ∧ (∃ X : Array Value, X.size = 11 ∧ w'.heap[w.heap.size]? = some (.cells X 50 (0, 0))) ∧ Rd w' 0 g s ∧ w'.heap[E]? = some (.cells cs 50 (0, 0)) ∧ w.heap.size < g ∧ w.heap.size < E ∧ g ≠ E
theorem RdE.later {w w' w'' : World} {g E : Nat} {cs : Array Value} {s : St} (h : RdE w g E cs s w') (hb : Below w'.heap.size w' w'') : RdE w g E cs s w'' := by
  obtain ⟨h1, ⟨X, hX, h2⟩, h3, h4, h5⟩ := h
  exact ⟨Go.Proofs.Ytnabbebkmafakaa.later h1 hb, ⟨X, hX, (hb.block _ (heap_lt h2)).trans h2⟩, h3.below hb, (hb.block _ (heap_lt h4)).trans h4, h5⟩
theorem RdE.read {w w' w'' : World} {g E : Nat} {cs : Array Value} {s s' : St} (h : RdE w g E cs s w') (hr : Rd w'' 0 g s') (hg : w'.grownBy w'' (some g)) : RdE w g E cs s' w'' := by
  obtain ⟨h1, ⟨X, hX, h2⟩, h3, h4, h5, h6, h7⟩ := h
  exact ⟨below_grown h1 hg (by omega), ⟨X, hX, (hg.block _ (heap_lt h2) (fun e => by injection e with e; omega)).trans h2⟩, hr, (hg.block _ (heap_lt h4) (fun e => h7 (by injection e with e; exact e.symm))).trans h4, h5, h6, h7⟩
theorem RdE.store {w w' : World} {g E i : Nat} {cs : Array Value} {s : St} {u : Value} (h : RdE w g E cs s w') : RdE w g E (cs.setIfInBounds i u) s (w'.setCell ⟨E, i, none⟩ u) := by
  obtain ⟨h1, ⟨X, hX, h2⟩, ⟨⟨v, hh, hr⟩, ho⟩, h4, h5, h6, h7⟩ := h
  have hg := grown_set w' E i u
  exact ⟨h1.setCell (by simp; omega) _, ⟨X, hX, (hg.block _ (heap_lt h2) (fun e => by injection e with e; omega)).trans h2⟩, ⟨⟨v, (hg.block _ (heap_lt hh) (fun e => h7 (by injection e))).trans hh, hr.grown hg (not_bytes h4 (by decide))⟩, ho⟩, heap_set h4 i u, h5, h6, h7⟩
/-- Where the fields lie is listed. -/
theorem listed_read {w' w'' : World} {g P : Nat} {o : Obj} (h : w'.heap[P]? = some o) (hg : w'.grownBy w'' (some g)) (hne : P ≠ g) : w''.heap[P]? = some o := (hg.block _ (heap_lt h) (fun e => hne (by injection e))).trans h
theorem listed_store {w' : World} {E i P : Nat} {u : Value} {o : Obj} (h : w'.heap[P]? = some o) (hne : P ≠ E) : (w'.setCell ⟨E, i, none⟩ u).heap[P]? = some o := (Below.heap_setCell w' _ u P hne).trans h
theorem ptr_cell {w : World} {P E a : Nat} {ty : TypeId} (h : w.heap[P]? = some (.cells #[.pointer (some ⟨E, a, none⟩), .pointer (some ⟨E, a + 1, none⟩), .pointer (some ⟨E, a + 2, none⟩), .pointer (some ⟨E, a + 3, none⟩)] ty (0, 0))) {k : Nat} (hk : k < 4) : w.cell? ⟨P, k, none⟩ = some (.pointer (some ⟨E, a + k, none⟩)) := by
  rw [cell_at h k]
  rcases (show k = 0 ∨ k = 1 ∨ k = 2 ∨ k = 3 by omega) with rfl | rfl | rfl | rfl <;> rfl
theorem cellT (k : Int) (f : Nat → ByteArray) {j : Nat} (hj : j < 4) : (#[.int .i64 k, .string (if 0 < j then f 0 else ⟨#[]⟩), .string (if 1 < j then f 1 else ⟨#[]⟩), .string (if 2 < j then f 2 else ⟨#[]⟩), .string (if 3 < j then f 3 else ⟨#[]⟩), .bool false, .bool false, .int .i64 0, .int .i64 0, .int .i64 0, .int .i64 0] : Array Value)[1 + j]? = some (.string ⟨#[]⟩) := by
  rcases (show j = 0 ∨ j = 1 ∨ j = 2 ∨ j = 3 by omega) with rfl | rfl | rfl | rfl <;> rfl
theorem stepT (k : Int) (f : Nat → ByteArray) {j : Nat} (hj : j < 4) : (#[.int .i64 k, .string (if 0 < j then f 0 else ⟨#[]⟩), .string (if 1 < j then f 1 else ⟨#[]⟩), .string (if 2 < j then f 2 else ⟨#[]⟩), .string (if 3 < j then f 3 else ⟨#[]⟩), .bool false, .bool false, .int .i64 0, .int .i64 0, .int .i64 0, .int .i64 0] : Array Value).setIfInBounds (1 + j) (.string (f j)) = #[.int .i64 k, .string (if 0 < j + 1 then f 0 else ⟨#[]⟩), .string (if 1 < j + 1 then f 1 else ⟨#[]⟩), .string (if 2 < j + 1 then f 2 else ⟨#[]⟩), .string (if 3 < j + 1 then f 3 else ⟨#[]⟩), .bool false, .bool false, .int .i64 0, .int .i64 0, .int .i64 0, .int .i64 0] := by
  rcases (show j = 0 ∨ j = 1 ∨ j = 2 ∨ j = 3 by omega) with rfl | rfl | rfl | rfl <;> rfl
theorem cellN (k : Int) (f : Nat → ByteArray) (o : Bool) (n : Nat → Int) {j : Nat} (hj : j < 4) : (#[.int .i64 k, .string (f 0), .string (f 1), .string (f 2), .string (f 3), .bool false, .bool o, .int .i64 (if 0 < j then n 0 else 0), .int .i64 (if 1 < j then n 1 else 0), .int .i64 (if 2 < j then n 2 else 0), .int .i64 (if 3 < j then n 3 else 0)] : Array Value)[7 + j]? = some (.int .i64 0) := by
  rcases (show j = 0 ∨ j = 1 ∨ j = 2 ∨ j = 3 by omega) with rfl | rfl | rfl | rfl <;> rfl
theorem stepN (k : Int) (f : Nat → ByteArray) (o : Bool) (n : Nat → Int) {j : Nat} (hj : j < 4) : (#[.int .i64 k, .string (f 0), .string (f 1), .string (f 2), .string (f 3), .bool false, .bool o, .int .i64 (if 0 < j then n 0 else 0), .int .i64 (if 1 < j then n 1 else 0), .int .i64 (if 2 < j then n 2 else 0), .int .i64 (if 3 < j then n 3 else 0)] : Array Value).setIfInBounds (7 + j) (.int .i64 (n j)) = #[.int .i64 k, .string (f 0), .string (f 1), .string (f 2), .string (f 3), .bool false, .bool o, .int .i64 (if 0 < j + 1 then n 0 else 0), .int .i64 (if 1 < j + 1 then n 1 else 0), .int .i64 (if 2 < j + 1 then n 2 else 0), .int .i64 (if 3 < j + 1 then n 3 else 0)] := by
  rcases (show j = 0 ∨ j = 1 ∨ j = 2 ∨ j = 3 by omega) with rfl | rfl | rfl | rfl <;> rfl

def answerE (m : Int) (bs : List UInt8) : Edu := bif readB m bs then (readE m bs).1 else ⟨0, ⟨#[]⟩, ⟨#[]⟩, ⟨#[]⟩, ⟨#[]⟩, false, false, 0, 0, 0, 0⟩
def answerN (m : Int) (bs : List UInt8) : Int := bif readB m bs then 0 else 2
theorem answerE_eq (m : Int) (bs : List UInt8) : answerE m bs = bif readB m bs then ⟨((numS (bs, 0)).1 : Int), fT m bs 0, fT m bs 1, fT m bs 2, fT m bs 3, false, (flagS (stT m bs 4)).1, nT m bs 0, nT m bs 1, nT m bs 2, nT m bs 3⟩ else ⟨0, ⟨#[]⟩, ⟨#[]⟩, ⟨#[]⟩, ⟨#[]⟩, false, false, 0, 0, 0, 0⟩ := by
  rw [answerE, readE_eq]
theorem readB_eq2 (m : Int) (bs : List UInt8) : readB m bs = (decide (endS (stN m bs 4) = 0) && mayB ⟨((numS (bs, 0)).1 : Int), fT m bs 0, fT m bs 1, fT m bs 2, fT m bs 3, false, (flagS (stT m bs 4)).1, nT m bs 0, nT m bs 1, nT m bs 2, nT m bs 3⟩) := by
  rw [readB, readE_eq]
theorem answerN_eq (m : Int) (bs : List UInt8) : answerN m bs = bif readB m bs then 0 else 2 := by rw [answerN]
def zeroE : Edu := ⟨0, ⟨#[]⟩, ⟨#[]⟩, ⟨#[]⟩, ⟨#[]⟩, false, false, 0, 0, 0, 0⟩
end Go.Proofs.Ytnabbebkmafakaa

namespace Go.Proofs.Ytnabbebkmafakaa
open Go.RowKit
set_option linter.unusedVariables false
set_option linter.unusedSimpArgs false
set_option maxRecDepth 20000

set_option maxHeartbeats 3200000 in
theorem readEdu_any (v : Value) (bs : List UInt8) (lo : Nat) (w : World) (h : Row w lo v bs) (hl : bs.length ≤ 1000000) :
    Calls Try.prog 83 #[v] w fun x w' => x = .returned (.tuple #[(answerE 34 bs).val, .int .i64 (answerN 34 bs)]) ∧ Below w.heap.size w w' := by
  have HA := Lib.hid (answerE_eq 34 bs)
  have HN := Lib.hid (answerN_eq 34 bs)
  have HB := Lib.hid (readB_eq2 34 bs)
  generalize answerE 34 bs = ae at *
  generalize answerN 34 bs = an at *
  have HTl := Lib.hid (fun j => Nat.le_trans (stT_len 34 bs j) hl)
  have HNl := Lib.hid (fun j => Nat.le_trans (stN_len 34 bs j) hl)
  have HF := Lib.hid (fun j => show (fT 34 bs j).size ≤ maxLen from Nat.le_trans (fT_size 34 bs j) (Nat.le_trans hl (by unfold maxLen; omega)))
  have H0 := Lib.hid (stT_zero 34 bs)
  have H1 := Lib.hid (stT_succ 34 bs)
  have H2 := Lib.hid (fT_def 34 bs)
  have H3 := Lib.hid (stN_zero 34 bs)
  have H4 := Lib.hid (stN_succ 34 bs)
  have H5 := Lib.hid (nT_def 34 bs)
  generalize readB 34 bs = rb at *
  generalize stT 34 bs = st at *
  generalize stN 34 bs = sn at *
  generalize fT 34 bs = f at *
  generalize nT 34 bs = n at *
  have HRow := Lib.hid h
  clear h
  go_enter Try.func83, Try.ntmps83
  go_wp2_with fail
  have hz := heap_alloc_new w (.cells #[.int .i64 0, .string ⟨#[]⟩, .string ⟨#[]⟩, .string ⟨#[]⟩, .string ⟨#[]⟩, .bool false, .bool false, .int .i64 0, .int .i64 0, .int .i64 0, .int .i64 0] 50)
  have hbz := below_new w (.cells #[.int .i64 0, .string ⟨#[]⟩, .string ⟨#[]⟩, .string ⟨#[]⟩, .string ⟨#[]⟩, .bool false, .bool false, .int .i64 0, .int .i64 0, .int .i64 0, .int .i64 0] 50)
  have hsz := size_alloc1 w (.cells #[.int .i64 0, .string ⟨#[]⟩, .string ⟨#[]⟩, .string ⟨#[]⟩, .string ⟨#[]⟩, .bool false, .bool false, .int .i64 0, .int .i64 0, .int .i64 0, .int .i64 0] 50)
  have HRow2 := Lib.hid (HRow.out.below hbz)
  generalize hW : (w.alloc (.cells #[.int .i64 0, .string ⟨#[]⟩, .string ⟨#[]⟩, .string ⟨#[]⟩, .string ⟨#[]⟩, .bool false, .bool false, .int .i64 0, .int .i64 0, .int .i64 0, .int .i64 0] 50)) = W at *
  clear hW HRow
  refine (read_any v bs lo _ HRow2.out hl).mono ?_
  rintro e w1 ⟨⟨g, rfl, hg, hrd⟩, hb1⟩
  have hz1 := (hb1.block _ (heap_lt hz)).trans hz
  have HB1 := Lib.hid (later hbz (hb1.mono (by omega)))
  have hgw : w.heap.size < g := by omega
  replace hrd := Lib.hid (hrd.mono (Nat.zero_le _))
  clear hb1 hg hz hbz hsz HRow2 W
  go_wp2_with fail
  have HE := Lib.hid (show RdE w g w1.heap.size #[.int .i64 0, .string ⟨#[]⟩, .string ⟨#[]⟩, .string ⟨#[]⟩, .string ⟨#[]⟩, .bool false, .bool false, .int .i64 0, .int .i64 0, .int .i64 0, .int .i64 0] (bs, 0) (w1.alloc (.cells #[.int .i64 0, .string ⟨#[]⟩, .string ⟨#[]⟩, .string ⟨#[]⟩, .string ⟨#[]⟩, .bool false, .bool false, .int .i64 0, .int .i64 0, .int .i64 0, .int .i64 0] 50)) from ⟨later HB1.out (below_new w1 _), ⟨_, rfl, ((below_new w1 _).block _ (heap_lt hz1)).trans hz1⟩, hrd.out.below (below_new w1 _), heap_alloc_new w1 _, hgw, heap_lt hz1, by have := hrd.out.lt; omega⟩)
  generalize hW : (w1.alloc (.cells #[.int .i64 0, .string ⟨#[]⟩, .string ⟨#[]⟩, .string ⟨#[]⟩, .string ⟨#[]⟩, .bool false, .bool false, .int .i64 0, .int .i64 0, .int .i64 0, .int .i64 0] 50)) = W at *
  generalize hE : w1.heap.size = E at *
  clear hW hE HB1 hz1 hrd
  clear w1
  refine (readNum_any 0 g (bs, 0) _ HE.out.2.2.1 hl).mono ?_
  rintro e w2 ⟨rfl, hr2, hg2⟩
  replace HE := Lib.hid (HE.out.read hr2 hg2)
  clear hr2 hg2 W
  rw [H0.out] at HE
  generalize ((numS (bs, 0)).1 : Int) = k at *
  have hc0 : w2.cell? ⟨E, 0, none⟩ = _ := cell_at HE.out.2.2.2.1 0
  replace hc0 : w2.cell? ⟨E, 0, none⟩ = some (.int .i64 0) := hc0
  have hf0 := free_at HE.out.2.2.2.1 0
  go_wp2_with fail
  replace HE := Lib.hid (show RdE w g E #[.int .i64 k, .string ⟨#[]⟩, .string ⟨#[]⟩, .string ⟨#[]⟩, .string ⟨#[]⟩, .bool false, .bool false, .int .i64 0, .int .i64 0, .int .i64 0, .int .i64 0] (st 0) (w2.setCell ⟨E, 0, none⟩ (.int .i64 k)) from HE.out.store)
  have hs2 : (w2.setCell ⟨E, 0, none⟩ (.int .i64 k)).heap.size = w2.heap.size := by simp
  generalize hW : (w2.setCell ⟨E, 0, none⟩ (.int .i64 k)) = W2 at *
  generalize hPP : w2.heap.size = P at *
  clear hW hPP hc0 hf0
  clear w2
  have HP := Lib.hid (heap_alloc_new W2 (.cells #[.pointer (some ⟨E, 1, none⟩), .pointer (some ⟨E, 2, none⟩), .pointer (some ⟨E, 3, none⟩), .pointer (some ⟨E, 4, none⟩)] 98))
  have hP1 := HE.out.2.2.1.lt
  have hP2 := heap_lt HE.out.2.2.2.1
  replace HE := Lib.hid (HE.out.later (below_new W2 (.cells #[.pointer (some ⟨E, 1, none⟩), .pointer (some ⟨E, 2, none⟩), .pointer (some ⟨E, 3, none⟩), .pointer (some ⟨E, 4, none⟩)] 98)))
  generalize hW : (W2.alloc (.cells #[.pointer (some ⟨E, 1, none⟩), .pointer (some ⟨E, 2, none⟩), .pointer (some ⟨E, 3, none⟩), .pointer (some ⟨E, 4, none⟩)] 98)) = W3 at *
  rw [hs2] at HP hP1 hP2
  clear hW hs2
  clear W2
  replace hP1 : P ≠ g := by omega
  replace hP2 : P ≠ E := by omega
  go_loopw [21] (fun i wr => ∃ j : Nat, j ≤ 4 ∧ i = .int .i64 (j : Int) ∧ Hid (RdE w g E #[.int .i64 k, .string (if 0 < j then f 0 else ⟨#[]⟩), .string (if 1 < j then f 1 else ⟨#[]⟩), .string (if 2 < j then f 2 else ⟨#[]⟩), .string (if 3 < j then f 3 else ⟨#[]⟩), .bool false, .bool false, .int .i64 0, .int .i64 0, .int .i64 0, .int .i64 0] (st j) wr) ∧ Hid (wr.heap[P]? = some (.cells #[.pointer (some ⟨E, 1, none⟩), .pointer (some ⟨E, 2, none⟩), .pointer (some ⟨E, 3, none⟩), .pointer (some ⟨E, 4, none⟩)] 98 (0, 0)))) (fun i _ => 4 - (intOf i).toNat)
  case atStart => exact ⟨0, by omega, rfl, HE, HP⟩
  case round =>
    obtain ⟨j, hj, rfl, HK, HQ⟩ := hrel
    clear HE HP W3
    by_cases hlt : j < 4
    · have hc := ptr_cell HQ.out hlt
      have q1 : decide ((j : Int) < 4) = true := decide_eq_true (by omega)
      go_wp2_with fail
      clear hc
      refine (readText_any 0 g (st j) 34 _ HK.out.2.2.1 (HTl.out j) (by decide) (by decide)).mono ?_
      rintro e w3 ⟨rfl, hr3, hg3⟩
      rw [H1.out] at hr3
      rw [H2.out]
      replace HK := Lib.hid (HK.out.read hr3 hg3)
      replace HQ := Lib.hid (listed_read HQ.out hg3 hP1)
      clear hr3 hg3
      have hcc := (cell_at HK.out.2.2.2.1 (1 + j)).trans (cellT k f hlt)
      have hff := free_at HK.out.2.2.2.1 (1 + j)
      go_wp2_with fail
      replace HK := Lib.hid (HK.out.store (i := 1 + j) (u := .string (f j)))
      rw [stepT k f hlt] at HK
      replace HQ := Lib.hid (listed_store (i := 1 + j) (u := .string (f j)) HQ.out hP2)
      clear hcc hff
      go_roundw
      case rel => exact ⟨j + 1, by omega, by go_num, HK, HQ⟩
      case measure => simp [intOf]; omega
    · obtain rfl : j = 4 := by omega
      replace HK := Lib.hid (show RdE w g E #[.int .i64 k, .string (f 0), .string (f 1), .string (f 2), .string (f 3), .bool false, .bool false, .int .i64 0, .int .i64 0, .int .i64 0, .int .i64 0] (st 4) _ from HK.out)
      go_wp2_with fail
      refine (readFlag_any 0 g (st 4) _ HK.out.2.2.1 (HTl.out 4)).mono ?_
      rintro e w4 ⟨rfl, hr4, hg4⟩
      rw [H3.out] at hr4
      replace HK := Lib.hid (HK.out.read hr4 hg4)
      clear hr4 hg4 HQ hP1 hP2
      generalize (flagS (st 4)).1 = o at *
      have hc6 : w4.cell? ⟨E, 6, none⟩ = some (.bool false) := cell_at HK.out.2.2.2.1 6
      have hf6 := free_at HK.out.2.2.2.1 6
      go_wp2_with fail
      replace HK := Lib.hid (show RdE w g E #[.int .i64 k, .string (f 0), .string (f 1), .string (f 2), .string (f 3), .bool false, .bool o, .int .i64 0, .int .i64 0, .int .i64 0, .int .i64 0] (sn 0) (w4.setCell ⟨E, 6, none⟩ (.bool o)) from HK.out.store)
      have hs2 : (w4.setCell ⟨E, 6, none⟩ (.bool o)).heap.size = w4.heap.size := by simp
      generalize hW : (w4.setCell ⟨E, 6, none⟩ (.bool o)) = W2 at *
      generalize hPP : w4.heap.size = P2 at *
      clear hW hPP hc6 hf6
      clear w4
      have HP := Lib.hid (heap_alloc_new W2 (.cells #[.pointer (some ⟨E, 7, none⟩), .pointer (some ⟨E, 8, none⟩), .pointer (some ⟨E, 9, none⟩), .pointer (some ⟨E, 10, none⟩)] 100))
      have hP1 := HK.out.2.2.1.lt
      have hP2 := heap_lt HK.out.2.2.2.1
      have HE := Lib.hid (HK.out.later (below_new W2 (.cells #[.pointer (some ⟨E, 7, none⟩), .pointer (some ⟨E, 8, none⟩), .pointer (some ⟨E, 9, none⟩), .pointer (some ⟨E, 10, none⟩)] 100)))
      generalize hW : (W2.alloc (.cells #[.pointer (some ⟨E, 7, none⟩), .pointer (some ⟨E, 8, none⟩), .pointer (some ⟨E, 9, none⟩), .pointer (some ⟨E, 10, none⟩)] 100)) = W3 at *
      rw [hs2] at HP hP1 hP2
      clear hW hs2 HK
      clear W2
      replace hP1 : P2 ≠ g := by omega
      replace hP2 : P2 ≠ E := by omega
      go_loopw [39] (fun i wr => ∃ j : Nat, j ≤ 4 ∧ i = .int .i64 (j : Int) ∧ Hid (RdE w g E #[.int .i64 k, .string (f 0), .string (f 1), .string (f 2), .string (f 3), .bool false, .bool o, .int .i64 (if 0 < j then n 0 else 0), .int .i64 (if 1 < j then n 1 else 0), .int .i64 (if 2 < j then n 2 else 0), .int .i64 (if 3 < j then n 3 else 0)] (sn j) wr) ∧ Hid (wr.heap[P2]? = some (.cells #[.pointer (some ⟨E, 7, none⟩), .pointer (some ⟨E, 8, none⟩), .pointer (some ⟨E, 9, none⟩), .pointer (some ⟨E, 10, none⟩)] 100 (0, 0)))) (fun i _ => 4 - (intOf i).toNat)
      case atStart => exact ⟨0, by omega, rfl, HE, HP⟩
      case round =>
        obtain ⟨j, hj, rfl, HK, HQ⟩ := hrel
        clear HE HP W3
        by_cases hlt : j < 4
        · have hc := ptr_cell HQ.out hlt
          have q1 : decide ((j : Int) < 4) = true := decide_eq_true (by omega)
          go_wp2_with fail
          clear hc
          refine (readNum_any 0 g (sn j) _ HK.out.2.2.1 (HNl.out j)).mono ?_
          rintro e w3 ⟨rfl, hr3, hg3⟩
          rw [H4.out] at hr3
          rw [H5.out]
          replace HK := Lib.hid (HK.out.read hr3 hg3)
          replace HQ := Lib.hid (listed_read HQ.out hg3 hP1)
          clear hr3 hg3
          have hcc := (cell_at HK.out.2.2.2.1 (7 + j)).trans (cellN k f o n hlt)
          have hff := free_at HK.out.2.2.2.1 (7 + j)
          go_wp2_with fail
          replace HK := Lib.hid (HK.out.store (i := 7 + j) (u := .int .i64 (n j)))
          rw [stepN k f o n hlt] at HK
          replace HQ := Lib.hid (listed_store (i := 7 + j) (u := .int .i64 (n j)) HQ.out hP2)
          clear hcc hff
          go_roundw
          case rel => exact ⟨j + 1, by omega, by go_num, HK, HQ⟩
          case measure => simp [intOf]; omega
        · obtain rfl : j = 4 := by omega
          replace HK := Lib.hid (show RdE w g E #[.int .i64 k, .string (f 0), .string (f 1), .string (f 2), .string (f 3), .bool false, .bool o, .int .i64 (n 0), .int .i64 (n 1), .int .i64 (n 2), .int .i64 (n 3)] (sn 4) _ from HK.out)
          clear HQ hP1 hP2
          go_wp2_with fail
          refine (end_any 0 g (sn 4) _ HK.out.2.2.1 (HNl.out 4)).mono ?_
          rintro e wz ⟨rfl, rfl⟩
          replace HB := HB.out
          generalize endS (sn 4) = ee at *
          obtain ⟨X, hX, hx3⟩ := HK.out.2.1
          replace hx3 := Lib.hid hx3
          by_cases he : ee = 0
          · subst he
            rw [decide_eq_true rfl, Bool.true_and] at HB
            obtain ⟨d0, d1, d2, d3, d4, d5, d6, d7, d8, d9, d10⟩ := cells11 HK.out.2.2.2.1
            go_wp2_with fail
            refine (may_any ⟨k, f 0, f 1, f 2, f 3, false, o, n 0, n 1, n 2, n 3⟩ _ (HF.out 0) (HF.out 1) (HF.out 2) (HF.out 3)).mono ?_
            rintro e w5 ⟨rfl, hb5⟩
            rw [← HB]
            replace HK := Lib.hid (HK.out.later hb5)
            replace hx3 := Lib.hid ((hb5.block _ (heap_lt hx3.out)).trans hx3.out)
            clear d0 d1 d2 d3 d4 d5 d6 d7 d8 d9 d10 hb5 HB
            cases rb
            · have Hset := Lib.hid (setRow_heap _ _ _ #[.int .i64 0, .string ⟨#[]⟩, .string ⟨#[]⟩, .string ⟨#[]⟩, .string ⟨#[]⟩, .bool false, .bool false, .int .i64 0, .int .i64 0, .int .i64 0, .int .i64 0] _ _ hx3.out)
              have HBB := Lib.hid (below_setRow HK.out.1 (Nat.le_refl _) #[.int .i64 0, .string ⟨#[]⟩, .string ⟨#[]⟩, .string ⟨#[]⟩, .string ⟨#[]⟩, .bool false, .bool false, .int .i64 0, .int .i64 0, .int .i64 0, .int .i64 0])
              go_wp2_with (refine wpList_store_row rfl 50 (.tmp 2) (.tmp 56) rfl w.heap.size #[.int .i64 0, .string ⟨#[]⟩, .string ⟨#[]⟩, .string ⟨#[]⟩, .string ⟨#[]⟩, .bool false, .bool false, .int .i64 0, .int .i64 0, .int .i64 0, .int .i64 0] rfl rfl 50 X hx3.out edu_info (hX.trans rfl) (one11 _ _ _ _ _ _ _ _ _ _ _) ?_)
              generalize hW2 : World.setRow _ _ _ = W2 at Hset HBB ⊢
              clear hW2
              obtain ⟨f0, f1, f2, f3, f4, f5, f6, f7, f8, f9, f10⟩ := cells11 Hset.out
              go_wp2_with fail
              refine bodyPost_ret (v := .tuple #[.agg #[.int .i64 0, .string ⟨#[]⟩, .string ⟨#[]⟩, .string ⟨#[]⟩, .string ⟨#[]⟩, .bool false, .bool false, .int .i64 0, .int .i64 0, .int .i64 0, .int .i64 0], .int .i64 2]) ?_ rfl ⟨?_, HBB.out⟩
              · simp [results, Try.results83, go_sem, f0, f1, f2, f3, f4, f5, f6, f7, f8, f9, f10]
              · rw [HA.out, HN.out]; rfl
            · have Hset := Lib.hid (setRow_heap _ _ _ #[.int .i64 k, .string (f 0), .string (f 1), .string (f 2), .string (f 3), .bool false, .bool o, .int .i64 (n 0), .int .i64 (n 1), .int .i64 (n 2), .int .i64 (n 3)] _ _ hx3.out)
              have HBB := Lib.hid (below_setRow HK.out.1 (Nat.le_refl _) #[.int .i64 k, .string (f 0), .string (f 1), .string (f 2), .string (f 3), .bool false, .bool o, .int .i64 (n 0), .int .i64 (n 1), .int .i64 (n 2), .int .i64 (n 3)])
              obtain ⟨d0, d1, d2, d3, d4, d5, d6, d7, d8, d9, d10⟩ := cells11 HK.out.2.2.2.1
              go_wp2_with (refine wpList_store_row rfl 50 (.tmp 2) (.tmp 57) rfl w.heap.size #[.int .i64 k, .string (f 0), .string (f 1), .string (f 2), .string (f 3), .bool false, .bool o, .int .i64 (n 0), .int .i64 (n 1), .int .i64 (n 2), .int .i64 (n 3)] rfl rfl 50 X hx3.out edu_info (hX.trans rfl) (one11 _ _ _ _ _ _ _ _ _ _ _) ?_)
              generalize hW2 : World.setRow _ _ _ = W2 at Hset HBB ⊢
              clear hW2
              clear d0 d1 d2 d3 d4 d5 d6 d7 d8 d9 d10
              obtain ⟨f0, f1, f2, f3, f4, f5, f6, f7, f8, f9, f10⟩ := cells11 Hset.out
              go_wp2_with fail
              refine bodyPost_ret (v := .tuple #[.agg #[.int .i64 k, .string (f 0), .string (f 1), .string (f 2), .string (f 3), .bool false, .bool o, .int .i64 (n 0), .int .i64 (n 1), .int .i64 (n 2), .int .i64 (n 3)], .int .i64 0]) ?_ rfl ⟨?_, HBB.out⟩
              · simp [results, Try.results83, go_sem, f0, f1, f2, f3, f4, f5, f6, f7, f8, f9, f10]
              · rw [HA.out, HN.out]; rfl
          · have q : (((ee : Nat) : Int) != 0) = true := by rw [bne_iff_ne]; omega
            rw [decide_eq_false he, Bool.false_and] at HB
            subst HB
            have Hset := Lib.hid (setRow_heap _ _ _ #[.int .i64 0, .string ⟨#[]⟩, .string ⟨#[]⟩, .string ⟨#[]⟩, .string ⟨#[]⟩, .bool false, .bool false, .int .i64 0, .int .i64 0, .int .i64 0, .int .i64 0] _ _ hx3.out)
            have HBB := Lib.hid (below_setRow HK.out.1 (Nat.le_refl _) #[.int .i64 0, .string ⟨#[]⟩, .string ⟨#[]⟩, .string ⟨#[]⟩, .string ⟨#[]⟩, .bool false, .bool false, .int .i64 0, .int .i64 0, .int .i64 0, .int .i64 0])
            go_wp2_with (refine wpList_store_row rfl 50 (.tmp 2) (.tmp 56) rfl w.heap.size #[.int .i64 0, .string ⟨#[]⟩, .string ⟨#[]⟩, .string ⟨#[]⟩, .string ⟨#[]⟩, .bool false, .bool false, .int .i64 0, .int .i64 0, .int .i64 0, .int .i64 0] rfl rfl 50 X hx3.out edu_info (hX.trans rfl) (one11 _ _ _ _ _ _ _ _ _ _ _) ?_)
            generalize hW2 : World.setRow _ _ _ = W2 at Hset HBB ⊢
            clear hW2
            obtain ⟨f0, f1, f2, f3, f4, f5, f6, f7, f8, f9, f10⟩ := cells11 Hset.out
            go_wp2_with fail
            refine bodyPost_ret (v := .tuple #[.agg #[.int .i64 0, .string ⟨#[]⟩, .string ⟨#[]⟩, .string ⟨#[]⟩, .string ⟨#[]⟩, .bool false, .bool false, .int .i64 0, .int .i64 0, .int .i64 0, .int .i64 0], .int .i64 2]) ?_ rfl ⟨?_, HBB.out⟩
            · simp [results, Try.results83, go_sem, f0, f1, f2, f3, f4, f5, f6, f7, f8, f9, f10]
            · rw [HA.out, HN.out]; rfl
end Go.Proofs.Ytnabbebkmafakaa

namespace Go.Proofs.Ytnabbebkmafakaa
open Go.RowKit
set_option linter.unusedVariables false
set_option linter.unusedSimpArgs false
set_option maxRecDepth 20000








end Go.Proofs.Ytnabbebkmafakaa
