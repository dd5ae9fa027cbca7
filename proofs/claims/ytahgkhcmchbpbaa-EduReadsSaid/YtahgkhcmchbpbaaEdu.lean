/-
  Plain facts on EDUs: which may be, what their bytes are, that what is written is read as it was, which one is later. No function of the program is named here.
-/
import Derived.Test.YtahgkhcmchbpbaaNames
import Derived.Test.YtahgkhcmchbpbaaBoth
namespace Go.Proofs.Ytahgkhcmchbpbaa
open Go.RowKit
set_option linter.unusedVariables false
set_option linter.unusedSimpArgs false

/-- An EDU. -/
structure Edu where
  kind : Int
  room : ByteArray
  user : ByteArray
  event : ByteArray
  thread : ByteArray
  priv : Bool
  on : Bool
  span : Int
  state : Int
  tick : Int
  stamp : Int

/-- As a value. -/
def Edu.val (e : Edu) : Value := .agg #[.int .i64 e.kind, .string e.room, .string e.user, .string e.event, .string e.thread, .bool e.priv, .bool e.on, .int .i64 e.span, .int .i64 e.state, .int .i64 e.tick, .int .i64 e.stamp]

/-- Its numbers are as an int has them. -/
def Edu.fits (e : Edu) : Prop := (-9223372036854775808 ≤ e.kind ∧ e.kind ≤ 9223372036854775807) ∧ (-9223372036854775808 ≤ e.span ∧ e.span ≤ 9223372036854775807) ∧ (-9223372036854775808 ≤ e.state ∧ e.state ≤ 9223372036854775807) ∧ (-9223372036854775808 ≤ e.tick ∧ e.tick ≤ 9223372036854775807) ∧ (-9223372036854775808 ≤ e.stamp ∧ e.stamp ≤ 9223372036854775807)

def stampsB (e : Edu) : Bool := decide (0 ≤ e.tick ∧ e.tick ≤ 1099511627776 ∧ 0 ≤ e.stamp ∧ e.stamp ≤ 1099511627776)
def kindB (e : Edu) : Bool :=
  if e.kind = 1 then namedB 33 e.room && eventB e.event && threadB e.thread && !e.on && decide (e.span = 0) && decide (e.state = 0)
  else if e.kind = 2 then namedB 33 e.room && (if e.on then decide (1 ≤ e.span ∧ e.span ≤ 60) else decide (e.span = 0)) && decide (e.event.size = 0) && decide (e.thread.size = 0) && decide (e.state = 0) && !e.priv
  else if e.kind = 3 then decide (e.room.size = 0) && decide (e.event.size = 0) && decide (e.thread.size = 0) && !e.on && decide (e.span = 0) && !e.priv && decide (0 ≤ e.state ∧ e.state ≤ 2)
  else false
/-- May it be local? -/
def localB (e : Edu) : Bool := namedB 64 e.user && stampsB e && kindB e
/-- May it be? -/
def mayB (e : Edu) : Bool := localB e && !e.priv

/-- Its bytes. -/
def bytesB (e : Edu) : List UInt8 :=
  digs (natI e.kind) ++ (textB e.room ++ (textB e.user ++ (textB e.event ++ (textB e.thread ++ (flagB e.on ++ (digs (natI e.span) ++ (digs (natI e.state) ++ (digs (natI e.tick) ++ digs (natI e.stamp)))))))))

/-- What is read of bytes as an EDU, its texts of at most so many bytes, and where the reader is behind it. -/
def readE (m : Int) (bs : List UInt8) : Edu × St :=
  let a := numS (bs, 0)
  let b := textS a.2 m
  let c := textS b.2 m
  let d := textS c.2 m
  let f := textS d.2 m
  let g := flagS f.2
  let h := numS g.2
  let i := numS h.2
  let j := numS i.2
  let k := numS j.2
  ({ kind := a.1, room := strOf b.1, user := strOf c.1, event := strOf d.1, thread := strOf f.1, priv := false, on := g.1, span := h.1, state := i.1, tick := j.1, stamp := k.1 }, k.2)
/-- Is it one? -/
def readB (m : Int) (bs : List UInt8) : Bool := decide (endS (readE m bs).2 = 0) && mayB (readE m bs).1

/-- Names are short. -/
theorem named_size {sign : Int} {s : ByteArray} (h : namedB sign s = true) : s.size ≤ 34 := by
  by_cases hz : 0 < s.size
  · unfold namedB at h
    rw [dif_pos hz] at h
    simp only [Bool.and_eq_true, decide_eq_true_iff] at h
    obtain ⟨⟨⟨_, h1⟩, h2⟩, h3⟩ := h
    have h4 := filledB_size h2
    have h5 : filledB hostI (s.extract ((colonK s).toNat + 1) s.size) = true := by
      unfold serverB at h3
      rw [Bool.and_eq_true] at h3
      exact h3.1
    have h6 := filledB_size h5
    have hc := colonK_lt s
    rw [Lib.size_eq, Lib.extract_data, List.length_take, List.length_drop, ← Lib.size_eq] at h4 h6
    omega
  · omega
theorem event_size {s : ByteArray} (h : eventB s = true) : s.size ≤ 34 := by
  by_cases hz : 0 < s.size
  · unfold eventB at h
    rw [dif_pos hz] at h
    simp only [Bool.and_eq_true] at h
    have h4 := filledB_size h.2
    rw [restS_size] at h4
    omega
  · omega
theorem thread_size {s : ByteArray} (h : threadB s = true) : s.size ≤ 34 := by
  unfold threadB at h
  rw [Bool.or_eq_true, Bool.or_eq_true, beq_iff_eq, beq_iff_eq] at h
  have hz := Lib.size_eq s
  rw [← Lib.toList_data] at hz
  rcases h with (h | h) | h
  · rw [h] at hz
    have h0 : s.size = 0 := hz
    omega
  · rw [h] at hz
    have h0 : s.size = 4 := hz
    omega
  · exact event_size h

/-- What is known of one that may be. -/
theorem may_small {e : Edu} (h : localB e = true) : e.room.size ≤ 34 ∧ e.user.size ≤ 34 ∧ e.event.size ≤ 34 ∧ e.thread.size ≤ 34 ∧ (1 ≤ e.kind ∧ e.kind ≤ 3) ∧ (0 ≤ e.span ∧ e.span ≤ 60) ∧ (0 ≤ e.state ∧ e.state ≤ 2) ∧ (0 ≤ e.tick ∧ e.tick ≤ 1099511627776) ∧ (0 ≤ e.stamp ∧ e.stamp ≤ 1099511627776) := by
  unfold localB stampsB kindB at h
  rw [Bool.and_eq_true, Bool.and_eq_true, decide_eq_true_iff] at h
  obtain ⟨⟨hu, ht⟩, hk⟩ := h
  have hu := named_size hu
  split at hk
  · simp only [Bool.and_eq_true, decide_eq_true_iff, Bool.not_eq_true'] at hk
    obtain ⟨⟨⟨⟨⟨hr, he⟩, hth⟩, hon⟩, hs⟩, hst⟩ := hk
    have := named_size hr
    have := event_size he
    have := thread_size hth
    omega
  · split at hk
    · simp only [Bool.and_eq_true, decide_eq_true_iff, Bool.not_eq_true'] at hk
      obtain ⟨⟨⟨⟨⟨hr, hs⟩, he⟩, hth⟩, hst⟩, hp⟩ := hk
      have := named_size hr
      have hs' : 0 ≤ e.span ∧ e.span ≤ 60 := by
        split at hs
        · rw [decide_eq_true_iff] at hs; omega
        · rw [decide_eq_true_iff] at hs; omega
      omega
    · split at hk
      · simp only [Bool.and_eq_true, decide_eq_true_iff, Bool.not_eq_true'] at hk
        obtain ⟨⟨⟨⟨⟨⟨hr, he⟩, hth⟩, hon⟩, hs⟩, hp⟩, hst⟩ := hk
        omega
      · cases hk

theorem natI_small {n : Int} (h0 : 0 ≤ n) (h1 : n ≤ 1099511627776) : natI n < 128 ^ 9 ∧ ((natI n : Nat) : Int) = n := by
  rw [pow128_9]
  unfold natI
  omega
theorem textS_put {f : ByteArray} {m : Int} (h : f.size ≤ 34) (hm : 34 ≤ m) (r : List UInt8) : textS (textB f ++ r, 0) m = (f.data.toList, (r, 0)) := by
  have hn := numS_digs f.size (Nat.lt_of_le_of_lt h (by decide)) (f.data.toList ++ r) 0
  have hl : f.data.toList.length = f.size := by rw [Array.length_toList]; rfl
  unfold textB
  rw [List.append_assoc]
  rw [textS_take (n := f.size) (s1 := (f.data.toList ++ r, 0)) (by rw [hn]) (by rw [hn]) (by omega) (by simp only [List.length_append]; omega) rfl]
  simp only
  rw [← hl, List.take_left, List.drop_left]

/-- What is written is read as it was. -/
theorem read_bytes {e : Edu} {m : Int} (h : mayB e = true) (hm : 34 ≤ m) : readE m (bytesB e) = (e, ([], 0)) := by
  unfold mayB at h
  rw [Bool.and_eq_true, Bool.not_eq_true'] at h
  obtain ⟨hl, hp⟩ := h
  obtain ⟨h1, h2, h3, h4, h5, h6, h7, h8, h9⟩ := may_small hl
  obtain ⟨k1, k2⟩ := natI_small (n := e.kind) (by omega) (by omega)
  obtain ⟨s1, s2⟩ := natI_small (n := e.span) (by omega) (by omega)
  obtain ⟨t1, t2⟩ := natI_small (n := e.state) (by omega) (by omega)
  obtain ⟨u1, u2⟩ := natI_small (n := e.tick) (by omega) (by omega)
  obtain ⟨v1, v2⟩ := natI_small (n := e.stamp) (by omega) (by omega)
  have hlast := numS_digs (natI e.stamp) v1 [] 0
  rw [List.append_nil] at hlast
  unfold readE bytesB
  simp only [numS_digs _ k1, textS_put h1 hm, textS_put h2 hm, textS_put h3 hm, textS_put h4 hm, flagS_flag, numS_digs _ s1, numS_digs _ t1, numS_digs _ u1, hlast, strOf_toList, k2, s2, t2, u2, v2]
  rw [← hp]
theorem read_ok {e : Edu} {m : Int} (h : mayB e = true) (hm : 34 ≤ m) : readB m (bytesB e) = true := by
  unfold readB
  rw [read_bytes h hm, h]
  rfl
/-- No two have the same bytes. -/
theorem bytes_inj {a b : Edu} (ha : mayB a = true) (hb : mayB b = true) (h : bytesB a = bytesB b) : a = b := by
  have h1 := read_bytes (m := 34) ha (by decide)
  rw [h, read_bytes hb (by decide)] at h1
  exact (congrArg Prod.fst h1).symm

/-- An error stays. -/
theorem failS_err {s : St} {x : Nat} (hx : x ≠ 0) : (failS s x).2 ≠ 0 := failS_bad s x hx
theorem numS_was {s : St} (h : (numS s).2.2 = 0) : s.2 = 0 := by
  unfold numS at h
  split at h
  · exact h
  · rename_i hn
    exact absurd h (failS_err hn)
theorem textS_was {s : St} {m : Int} (h : (textS s m).2.2 = 0) : (numS s).2.2 = 0 ∧ ((numS s).1 : Int) ≤ m ∧ (numS s).1 ≤ (numS s).2.1.length ∧ (textS s m).1 = (numS s).2.1.take (numS s).1 := by
  by_cases hm : m < ((numS s).1 : Int)
  · rw [textS_most rfl rfl hm] at h
    exact absurd h (failS_err (by decide))
  · by_cases hl : (numS s).2.1.length < (numS s).1
    · rw [textS_short rfl rfl hm hl] at h
      exact absurd h (failS_err (by decide))
    · by_cases he : (numS s).2.2 = 0
      · exact ⟨he, by omega, by omega, by rw [textS_take rfl rfl hm hl he]⟩
      · rw [textS_err rfl rfl hm hl he] at h
        exact absurd h he
theorem flagS_was {s : St} (h : (flagS s).2.2 = 0) : s.2 = 0 := by
  obtain ⟨bs, e⟩ := s
  cases bs with
  | nil => exact absurd h (failS_err (by decide))
  | cons b r =>
    unfold flagS at h
    simp only at h
    split at h
    · exact absurd h (failS_err (by decide))
    · exact h
/-- Another bound tells the same, where the text is not above it. -/
theorem textS_same {s : St} {m m' : Int} (h : (textS s m).2.2 = 0) (hl : ((textS s m).1.length : Int) ≤ m') : textS s m' = textS s m := by
  obtain ⟨he, h1, h2, h3⟩ := textS_was h
  rw [h3, List.length_take, Nat.min_eq_left h2] at hl
  rw [textS_take (most := m) rfl rfl (by omega) (by omega) he, textS_take (most := m') rfl rfl (by omega) (by omega) he]
theorem end_zero {s : St} (h : endS s = 0) : s.2 = 0 ∧ s.1 = [] := by
  unfold endS at h
  split at h
  · cases h
  · rename_i hh
    refine ⟨h, ?_⟩
    cases hs : s.1 with
    | nil => rfl
    | cons b r => exact absurd ⟨h, by rw [hs]; simp⟩ hh

/-- Whatever bound is set on its texts, from 34 on. -/
theorem read_same {m m' : Int} {bs : List UInt8} (hm' : 34 ≤ m') (h : readB m bs = true) : readE m' bs = readE m bs := by
  unfold readB at h
  rw [Bool.and_eq_true, decide_eq_true_iff] at h
  obtain ⟨h1, h2⟩ := h
  unfold mayB at h2
  rw [Bool.and_eq_true] at h2
  obtain ⟨z1, z2, z3, z4, _⟩ := may_small h2.1
  have e0 := (end_zero h1).1
  unfold readE at e0 z1 z2 z3 z4
  simp only at e0 z1 z2 z3 z4
  rw [strOf_size] at z1 z2 z3 z4
  have w9 := numS_was (numS_was (numS_was (numS_was e0)))
  have w4 := flagS_was w9
  have w3 := numS_was (textS_was w4).1
  have w2 := numS_was (textS_was w3).1
  have w1 := numS_was (textS_was w2).1
  have q1 := textS_same (m' := m') w1 (by omega)
  have q2 := textS_same (m' := m') w2 (by omega)
  have q3 := textS_same (m' := m') w3 (by omega)
  have q4 := textS_same (m' := m') w4 (by omega)
  unfold readE
  simp only [q1, q2, q3, q4]
theorem readB_same {m m' : Int} (hm : 34 ≤ m) (hm' : 34 ≤ m') (bs : List UInt8) : readB m' bs = readB m bs := by
  cases h : readB m bs
  · cases h' : readB m' bs
    · rfl
    · have := read_same hm h'
      unfold readB at h h'
      rw [this] at h
      rw [h] at h'
      cases h'
  · have := read_same hm' h
    unfold readB at h ⊢
    rw [this]
    exact h

/-- Which one of two rows of bytes is the greater. -/
theorem cmp_self (a : List UInt8) : Lib.compareBytes a a = 0 := by
  induction a with
  | nil => rfl
  | cons x l ih => unfold Lib.compareBytes; simp [ih]
theorem cmp_zero {a b : List UInt8} (h : Lib.compareBytes a b = 0) : a = b := by
  induction a generalizing b with
  | nil => cases b with
    | nil => rfl
    | cons y m => unfold Lib.compareBytes at h; cases h
  | cons x l ih => cases b with
    | nil => unfold Lib.compareBytes at h; cases h
    | cons y m =>
      unfold Lib.compareBytes at h
      split at h
      · cases h
      · split at h
        · cases h
        · rename_i h1 h2
          rw [ih h, UInt8.le_antisymm (UInt8.not_lt.1 h2) (UInt8.not_lt.1 h1)]
theorem cmp_range (a b : List UInt8) : Lib.compareBytes a b = -1 ∨ Lib.compareBytes a b = 0 ∨ Lib.compareBytes a b = 1 := by
  induction a generalizing b with
  | nil => cases b <;> simp [Lib.compareBytes]
  | cons x l ih => cases b with
    | nil => simp [Lib.compareBytes]
    | cons y m =>
      unfold Lib.compareBytes
      split
      · simp
      · split
        · simp
        · exact ih m
theorem cmp_swap (a b : List UInt8) : Lib.compareBytes b a = -Lib.compareBytes a b := by
  induction a generalizing b with
  | nil => cases b <;> simp [Lib.compareBytes]
  | cons x l ih => cases b with
    | nil => simp [Lib.compareBytes]
    | cons y m =>
      unfold Lib.compareBytes
      by_cases h1 : x < y
      · have h2 : ¬ y < x := fun h => UInt8.lt_irrefl _ (UInt8.lt_trans h1 h)
        simp [h1, h2]
      · by_cases h2 : y < x
        · simp [h1, h2]
        · simp [h1, h2, ih]
theorem cmp_trans {a b c : List UInt8} (h1 : Lib.compareBytes a b ≤ 0) (h2 : Lib.compareBytes b c ≤ 0) : Lib.compareBytes a c ≤ 0 := by
  induction a generalizing b c with
  | nil => cases c <;> simp [Lib.compareBytes]
  | cons x l ih => cases b with
    | nil => simp [Lib.compareBytes] at h1
    | cons y m => cases c with
      | nil => simp [Lib.compareBytes] at h2
      | cons z n =>
        unfold Lib.compareBytes at h1 h2 ⊢
        by_cases hxy : x < y
        · by_cases hyz : y < z
          · simp [UInt8.lt_trans hxy hyz]
          · by_cases hzy : z < y
            · simp [hyz, hzy] at h2
            · have : y = z := UInt8.le_antisymm (UInt8.not_lt.1 hzy) (UInt8.not_lt.1 hyz)
              subst this
              simp [hxy]
        · by_cases hyx : y < x
          · simp [hxy, hyx] at h1
          · have : x = y := UInt8.le_antisymm (UInt8.not_lt.1 hyx) (UInt8.not_lt.1 hxy)
            subst this
            by_cases hxz : x < z
            · simp [hxz]
            · by_cases hzx : z < x
              · simp [hxz, hzx] at h2
              · simp [hxz, hzx] at h2 ⊢
                simp at h1
                exact ih h1 h2

/-- Which one of two is later. -/
def cmpE (a b : Edu) : Int := if a.stamp < b.stamp then -1 else if b.stamp < a.stamp then 1 else Lib.compareBytes (bytesB a) (bytesB b)
theorem cmpE_range (a b : Edu) : cmpE a b = -1 ∨ cmpE a b = 0 ∨ cmpE a b = 1 := by
  unfold cmpE
  split
  · simp
  · split
    · simp
    · exact cmp_range _ _
theorem cmpE_swap (a b : Edu) : cmpE b a = -cmpE a b := by
  unfold cmpE
  by_cases h1 : a.stamp < b.stamp
  · have h2 : ¬ b.stamp < a.stamp := by omega
    simp [h1, h2]
  · by_cases h2 : b.stamp < a.stamp
    · simp [h1, h2]
    · simp [h1, h2, cmp_swap (bytesB a)]
theorem cmpE_zero {a b : Edu} (ha : mayB a = true) (hb : mayB b = true) : cmpE a b = 0 ↔ a = b := by
  constructor
  · intro h
    unfold cmpE at h
    split at h
    · cases h
    · split at h
      · cases h
      · exact bytes_inj ha hb (cmp_zero h)
  · rintro rfl
    unfold cmpE
    simp [cmp_self]
theorem cmpE_trans {a b c : Edu} (h1 : cmpE a b ≤ 0) (h2 : cmpE b c ≤ 0) : cmpE a c ≤ 0 := by
  unfold cmpE at h1 h2 ⊢
  by_cases x1 : a.stamp < b.stamp
  · by_cases y1 : b.stamp < c.stamp
    · rw [if_pos (by omega)]; decide
    · by_cases y2 : c.stamp < b.stamp
      · rw [if_neg y1, if_pos y2] at h2; exact absurd h2 (by decide)
      · rw [if_pos (by omega)]; decide
  · by_cases x2 : b.stamp < a.stamp
    · rw [if_neg x1, if_pos x2] at h1; exact absurd h1 (by decide)
    · rw [if_neg x1, if_neg x2] at h1
      by_cases y1 : b.stamp < c.stamp
      · rw [if_pos (by omega)]; decide
      · by_cases y2 : c.stamp < b.stamp
        · rw [if_neg y1, if_pos y2] at h2; exact absurd h2 (by decide)
        · rw [if_neg y1, if_neg y2] at h2
          rw [if_neg (by omega), if_neg (by omega)]
          exact cmp_trans h1 h2
end Go.Proofs.Ytahgkhcmchbpbaa
