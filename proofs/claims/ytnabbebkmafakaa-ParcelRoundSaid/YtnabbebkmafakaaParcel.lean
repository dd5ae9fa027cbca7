/-
  Plain facts on parcels: which may be, what their bytes are, that what is written is read as it was, whatever bounds are set on texts. No function of the program is named here.
-/
import Derived.Test.YtnabbebkmafakaaMH
namespace Go.Proofs.Ytnabbebkmafakaa
open Go.RowKit
set_option linter.unusedVariables false
set_option linter.unusedSimpArgs false

structure Par where
  ack : Bool
  frm : ByteArray
  dest : ByteArray
  id : Int
  edus : List Edu

/-- May it be? -/
def mayP (p : Par) : Bool := serverB p.frm && (serverB p.dest && (decide (p.frm.toList ≠ p.dest.toList) && (decide (1 ≤ p.id ∧ p.id ≤ 1099511627776) && (decide (p.edus.length ≤ 100) && (decide (p.ack = true → p.edus.length = 0) && p.edus.all mayB)))))
/-- Its bytes. -/
def edusB : List Edu → List UInt8
  | [] => []
  | e :: l => textB (strOf (bytesB e)) ++ edusB l
def bytesP (p : Par) : List UInt8 := flagB p.ack ++ (textB p.frm ++ (textB p.dest ++ (digs (natI p.id) ++ (digs p.edus.length ++ edusB p.edus))))
/-- What is read of bytes as so many EDUs, and as a parcel, texts of at most so many bytes. -/
def readL (m : Int) : Nat → St → Option (List Edu × St)
  | 0, s => some ([], s)
  | n + 1, s => if (textS s m).2.2 = 0 ∧ readB 1000 (textS s m).1 = true then (readL m n (textS s m).2).map (fun r => ((readE 1000 (textS s m).1).1 :: r.1, r.2)) else none
def readP (m1 m2 : Int) (bs : List UInt8) : Option Par :=
  let a := flagS (bs, 0)
  let f := textS a.2 m1
  let t := textS f.2 m1
  let i := numS t.2
  let n := numS i.2
  if n.2.2 = 0 ∧ n.1 ≤ 100 then
    match readL m2 n.1 n.2 with
    | none => none
    | some r => if endS r.2 = 0 ∧ mayP ⟨a.1, strOf f.1, strOf t.1, (i.1 : Int), r.1⟩ = true then some ⟨a.1, strOf f.1, strOf t.1, (i.1 : Int), r.1⟩ else none
  else none

theorem textS_fit {f : ByteArray} {m : Int} (h : f.size ≤ 1000) (hm : (f.size : Int) ≤ m) (r : List UInt8) : textS (textB f ++ r, 0) m = (f.data.toList, (r, 0)) := by
  have hn := numS_digs f.size (Nat.lt_of_le_of_lt h (by decide)) (f.data.toList ++ r) 0
  have hl : f.data.toList.length = f.size := by rw [Array.length_toList]; rfl
  unfold textB
  rw [List.append_assoc]
  rw [textS_take (n := f.size) (s1 := (f.data.toList ++ r, 0)) (by rw [hn]) (by rw [hn]) (by omega) (by simp only [List.length_append]; omega) rfl]
  simp only
  rw [← hl, List.take_left, List.drop_left]
theorem may_bytes_len {e : Edu} (h : mayB e = true) : (bytesB e).length ≤ 242 := by
  have hl : localB e = true := by
    unfold mayB at h
    rw [Bool.and_eq_true] at h
    exact h.1
  obtain ⟨h1, h2, h3, h4, h5, h6, h7, h8, h9⟩ := may_small hl
  have t1 := textB_len e.room
  have t2 := textB_len e.user
  have t3 := textB_len e.event
  have t4 := textB_len e.thread
  have d1 := len_digs e.room.size (Nat.lt_of_le_of_lt h1 (by decide))
  have d2 := len_digs e.user.size (Nat.lt_of_le_of_lt h2 (by decide))
  have d3 := len_digs e.event.size (Nat.lt_of_le_of_lt h3 (by decide))
  have d4 := len_digs e.thread.size (Nat.lt_of_le_of_lt h4 (by decide))
  have k1 := len_digs _ (natI_lt e.kind (by omega))
  have k2 := len_digs _ (natI_lt e.span (by omega))
  have k3 := len_digs _ (natI_lt e.state (by omega))
  have k4 := len_digs _ (natI_lt e.tick (by omega))
  have k5 := len_digs _ (natI_lt e.stamp (by omega))
  have fl : (flagB e.on).length = 1 := rfl
  unfold bytesB
  simp only [List.length_append]
  omega

/-- So many EDUs are read as they were. -/
theorem readL_edus {m : Int} (hm : 242 ≤ m) (r : List UInt8) : ∀ l : List Edu, l.all mayB = true → readL m l.length (edusB l ++ r, 0) = some (l, (r, 0))
  | [], _ => rfl
  | e :: l, h => by
    rw [List.all_cons, Bool.and_eq_true] at h
    have hb := may_bytes_len h.1
    have hs : (strOf (bytesB e)).size = (bytesB e).length := strOf_size _
    have ht := textS_fit (f := strOf (bytesB e)) (m := m) (by omega) (by omega) (edusB l ++ r)
    have hd : (strOf (bytesB e)).data.toList = bytesB e := by simp [strOf]
    rw [hd] at ht
    have ih := readL_edus hm r l h.2
    rw [List.length_cons, edusB, List.append_assoc, readL, ht]
    simp only
    rw [if_pos ⟨trivial, read_ok h.1 (by decide)⟩, ih, read_bytes h.1 (by decide)]
    rfl
theorem server_size {s : ByteArray} (h : serverB s = true) : s.size ≤ 16 := by
  unfold serverB at h
  rw [Bool.and_eq_true] at h
  exact (filledB_size h.1).2
theorem mayP_parts {p : Par} (h : mayP p = true) : serverB p.frm = true ∧ serverB p.dest = true ∧ p.frm.toList ≠ p.dest.toList ∧ (1 ≤ p.id ∧ p.id ≤ 1099511627776) ∧ p.edus.length ≤ 100 ∧ (p.ack = true → p.edus.length = 0) ∧ p.edus.all mayB = true := by
  unfold mayP at h
  simp only [Bool.and_eq_true, decide_eq_true_iff] at h
  exact h
/-- What is written is read as it was. -/
theorem readP_bytes {p : Par} {m1 m2 : Int} (h : mayP p = true) (h1 : 16 ≤ m1) (h2 : 242 ≤ m2) : readP m1 m2 (bytesP p) = some p := by
  obtain ⟨hf, ht, _, hi, hn, _, ha⟩ := mayP_parts h
  have sf := server_size hf
  have st := server_size ht
  obtain ⟨i1, i2⟩ := natI_small (n := p.id) (by omega) hi.2
  have n1 : p.edus.length < 128 ^ 9 := Nat.lt_of_le_of_lt hn (by decide)
  have hl := readL_edus h2 [] p.edus ha
  rw [List.append_nil] at hl
  unfold readP bytesP
  simp only [flagS_flag, textS_fit (f := p.frm) (m := m1) (by omega) (by omega), textS_fit (f := p.dest) (m := m1) (by omega) (by omega), numS_digs _ i1, numS_digs _ n1, strOf_toList, i2]
  rw [if_pos ⟨trivial, hn⟩, hl]
  simp only
  rw [if_pos ⟨rfl, h⟩]
/-- No two have the same bytes. -/
theorem bytesP_inj {a b : Par} (ha : mayP a = true) (hb : mayP b = true) (h : bytesP a = bytesP b) : a = b := by
  have h1 := readP_bytes (m1 := 16) (m2 := 242) ha (by decide) (by decide)
  rw [h, readP_bytes hb (by decide) (by decide)] at h1
  injection h1 with h1
  exact h1.symm

/-- How many bytes are read at most. -/
theorem num_eats {s : St} (h : (numS s).2.2 = 0) : s.1.length ≤ (numS s).2.1.length + 9 := by
  unfold numS at h ⊢
  split
  · rename_i hn
    simp only [List.length_drop]
    have : goes s.1 < 9 := by
      unfold numErr at hn
      split at hn
      · cases hn
      · omega
    omega
  · rename_i hn
    rw [if_neg hn] at h
    exact absurd h (failS_err hn)
theorem text_eats {s : St} {m : Int} (h : (textS s m).2.2 = 0) : s.1.length ≤ (textS s m).2.1.length + (textS s m).1.length + 9 := by
  obtain ⟨he, h1, h2, h3⟩ := textS_was h
  have hn := num_eats he
  rw [textS_take rfl rfl (by omega) (by omega) he]
  simp only [List.length_take, List.length_drop]
  omega
theorem flag_eats {s : St} (h : (flagS s).2.2 = 0) : s.1.length ≤ (flagS s).2.1.length + 1 := by
  obtain ⟨bs, e⟩ := s
  cases bs with
  | nil => exact Nat.zero_le _
  | cons b r =>
    unfold flagS at h ⊢
    simp only at h ⊢
    split
    · rename_i hb
      rw [if_pos hb] at h
      exact absurd h (failS_err (by decide))
    · simp
/-- An EDU's bytes are few. -/
theorem read_len {m : Int} {bs : List UInt8} (h : readB m bs = true) : bs.length ≤ 242 := by
  unfold readB at h
  rw [Bool.and_eq_true, decide_eq_true_iff] at h
  obtain ⟨h1, h2⟩ := h
  unfold mayB at h2
  rw [Bool.and_eq_true] at h2
  obtain ⟨z1, z2, z3, z4, _⟩ := may_small h2.1
  have e0 := (end_zero h1).1
  have e1 := congrArg List.length (end_zero h1).2
  unfold readE at e0 e1 z1 z2 z3 z4
  simp only [List.length_nil] at e0 e1 z1 z2 z3 z4
  rw [strOf_size] at z1 z2 z3 z4
  have w8 := numS_was e0
  have w7 := numS_was w8
  have w6 := numS_was w7
  have w5 := numS_was w6
  have w4 := flagS_was w5
  have w3 := numS_was (textS_was w4).1
  have w2 := numS_was (textS_was w3).1
  have w1 := numS_was (textS_was w2).1
  have w0 := numS_was (textS_was w1).1
  have a9 := num_eats e0
  have a8 := num_eats w8
  have a7 := num_eats w7
  have a6 := num_eats w6
  have a5 := flag_eats w5
  have a4 := text_eats w4
  have a3 := text_eats w3
  have a2 := text_eats w2
  have a1 := text_eats w1
  have a0 := num_eats w0
  simp only at a0
  omega

/-- Whatever bound is set on an EDU's text, from 242 on. -/
theorem one_same {m m' : Int} (hm' : 242 ≤ m') {s : St} (h : (textS s m).2.2 = 0 ∧ readB 1000 (textS s m).1 = true) : textS s m' = textS s m :=
  textS_same h.1 (by have := read_len h.2; omega)
theorem readL_same {m m' : Int} (hm : 242 ≤ m) (hm' : 242 ≤ m') : ∀ (n : Nat) (s : St), readL m' n s = readL m n s
  | 0, _ => rfl
  | n + 1, s => by
    rw [readL, readL]
    by_cases h : (textS s m).2.2 = 0 ∧ readB 1000 (textS s m).1 = true
    · have he := one_same hm' h
      rw [he, if_pos h, if_pos h, readL_same hm hm' n]
    · by_cases h' : (textS s m').2.2 = 0 ∧ readB 1000 (textS s m').1 = true
      · have he := one_same hm h'
        rw [← he] at h'
        exact absurd h' h
      · rw [if_neg h, if_neg h']
theorem readL_was {m : Int} : ∀ (n : Nat) (s : St) (r : List Edu × St), readL m n s = some r → s.2 ≠ 0 → n = 0
  | 0, _, _, _, _ => rfl
  | n + 1, s, r, h, hs => by
    rw [readL] at h
    split at h
    · rename_i hc
      exact absurd (numS_was (textS_was hc.1).1) hs
    · cases h
/-- .. and on a server's. -/
theorem readP_same1 {m1 m1' m2 : Int} (h1' : 16 ≤ m1') {bs : List UInt8} {p : Par} (h : readP m1 m2 bs = some p) : readP m1' m2 bs = some p := by
  have h0 := h
  unfold readP at h
  simp only at h
  split at h
  · rename_i hc
    split at h
    · cases h
    · rename_i r hr
      split at h
      · rename_i he
        obtain ⟨hf, ht, _⟩ := mayP_parts he.2
        have sf := server_size hf
        have st := server_size ht
        simp only at sf st
        rw [strOf_size] at sf st
        have w3 := numS_was (numS_was hc.1)
        have w2 := numS_was (textS_was w3).1
        have q1 := textS_same (m' := m1') w2 (by omega)
        have q2 := textS_same (m' := m1') w3 (by omega)
        rw [← h0]
        unfold readP
        simp only [q1, q2]
      · cases h
  · cases h
theorem readP_same {m1 m2 m1' m2' : Int} (h1 : 16 ≤ m1) (h1' : 16 ≤ m1') (h2 : 242 ≤ m2) (h2' : 242 ≤ m2') (bs : List UInt8) : readP m1' m2' bs = readP m1 m2 bs := by
  have hx : readP m1' m2' bs = readP m1' m2 bs := by
    unfold readP
    simp only [readL_same h2 h2']
  rw [hx]
  cases h : readP m1 m2 bs with
  | some p => exact readP_same1 h1' h
  | none =>
    cases h' : readP m1' m2 bs with
    | none => rfl
    | some p =>
      rw [readP_same1 h1 h'] at h
      cases h
theorem edus_len : ∀ l : List Edu, l.all mayB = true → (edusB l).length ≤ 251 * l.length
  | [], _ => Nat.zero_le _
  | e :: l, h => by
    rw [List.all_cons, Bool.and_eq_true] at h
    have h1 := may_bytes_len h.1
    have h2 := edus_len l h.2
    have h3 := textB_len (strOf (bytesB e))
    have h4 : (strOf (bytesB e)).size = (bytesB e).length := strOf_size _
    have h5 := len_digs (strOf (bytesB e)).size (Nat.lt_of_le_of_lt (show _ ≤ 242 by omega) (by decide))
    rw [edusB, List.length_append, List.length_cons]
    omega
theorem parcel_len {p : Par} (h : mayP p = true) : (bytesP p).length ≤ 26000 := by
  obtain ⟨hf, ht, _, hi, hn, _, ha⟩ := mayP_parts h
  have sf := server_size hf
  have st := server_size ht
  have t1 := textB_len p.frm
  have t2 := textB_len p.dest
  have d1 := len_digs p.frm.size (Nat.lt_of_le_of_lt sf (by decide))
  have d2 := len_digs p.dest.size (Nat.lt_of_le_of_lt st (by decide))
  have k1 := len_digs _ (natI_lt p.id (by omega))
  have k2 := len_digs p.edus.length (Nat.lt_of_le_of_lt hn (by decide))
  have k3 := edus_len p.edus ha
  have fl : (flagB p.ack).length = 1 := rfl
  unfold bytesP
  simp only [List.length_append]
  omega
end Go.Proofs.Ytnabbebkmafakaa
