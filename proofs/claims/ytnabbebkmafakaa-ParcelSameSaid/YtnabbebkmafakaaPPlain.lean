/-
  Plain facts on how a parcel is read, step by step.
-/
import Derived.Test.YtnabbebkmafakaaPRead
namespace Go.Proofs.Ytnabbebkmafakaa
set_option maxRecDepth 20000
open Go.RowKit
set_option linter.unusedVariables false
set_option linter.unusedSimpArgs false

theorem text_left {s : St} {m : Int} (hm : (s.1.length : Int) ≤ m) : ((textS s (s.1.length : Int)).2.2 = 0 ↔ (textS s m).2.2 = 0) ∧ ((textS s m).2.2 = 0 → textS s (s.1.length : Int) = textS s m) := by
  have h1 := text_len s (s.1.length : Int)
  have h2 := text_len s m
  refine ⟨⟨fun h => ?_, fun h => ?_⟩, fun h => ?_⟩
  · rw [textS_same h (by omega)]; exact h
  · rw [textS_same h (by omega)]; exact h
  · exact textS_same h (by omega)
theorem text_err {s : St} {m : Int} (h : (textS s m).2.2 ≠ 0) : (textS s m).1 = [] := text_shape _ _ h
theorem read_nil (m : Int) (hm : 34 ≤ m) : readB m [] = false := by
  rw [readB_same (m := 34) (by decide) hm]
  decide +kernel
/-- Is the next one an EDU? -/
def okE (s : St) : Prop := (textS s 1000000).2.2 = 0 ∧ readB 1000 (textS s 1000000).1 = true
def nextE (s : St) : Edu := (readE 1000 (textS s 1000000).1).1
def nextS (s : St) : St := (textS s 1000000).2
instance (s : St) : Decidable (okE s) := by unfold okE; exact inferInstance
theorem readL_ok {s : St} (h : okE s) (n : Nat) : readL 1000000 (n + 1) s = (readL 1000000 n (nextS s)).map (fun r => (nextE s :: r.1, r.2)) := by
  rw [readL]
  exact if_pos h
theorem readL_bad {s : St} (h : ¬ okE s) (n : Nat) : readL 1000000 (n + 1) s = none := by
  rw [readL]
  exact if_neg h
theorem okE_left {s : St} (hl : s.1.length ≤ 1000000) (h : okE s) : textS s (s.1.length : Int) = ((textS s 1000000).1, nextS s) ∧ answerN 34 (textS s 1000000).1 = 0 ∧ answerE 34 (textS s 1000000).1 = nextE s := by
  have h1 := (text_left (s := s) (m := 1000000) (by omega)).2 h.1
  obtain ⟨a1, a2⟩ := answer_same (textS s 1000000).1
  obtain ⟨b1, b2⟩ := answerN_yes h.2
  exact ⟨h1, a2.trans b1, a1.trans b2⟩
theorem badE_left {s : St} (hl : s.1.length ≤ 1000000) (h : ¬ okE s) : readB 34 (textS s (s.1.length : Int)).1 = false := by
  by_cases h0 : (textS s 1000000).2.2 = 0
  · rw [(text_left (s := s) (m := 1000000) (by omega)).2 h0]
    cases hb : readB 34 (textS s 1000000).1 with
    | false => rfl
    | true =>
      exact absurd ⟨h0, (readB_same (m := 1000) (m' := 34) (by decide) (by decide) _).symm.trans hb⟩ h
  · have h1 : (textS s (s.1.length : Int)).2.2 ≠ 0 := fun e => h0 ((text_left (s := s) (m := 1000000) (by omega)).1.1 e)
    rw [text_err h1]
    exact read_nil 34 (by decide)
theorem nextS_len (s : St) : (nextS s).1.length ≤ s.1.length := textS_len s 1000000
theorem okE_may {s : St} (h : okE s) : mayB (nextE s) = true := by
  have := h.2
  unfold readB at this
  rw [Bool.and_eq_true] at this
  exact this.2
theorem may_well {e : Edu} (h : mayB e = true) : e.well := by
  obtain ⟨h1, h2, h3, h4, _⟩ := may_small (may_local h)
  exact ⟨(may_fits h).1, by rw [maxLen_eq]; omega, by rw [maxLen_eq]; omega, by rw [maxLen_eq]; omega, by rw [maxLen_eq]; omega⟩
/-- What is made of all that was read. -/
def finishP (ack : Bool) (f t : List UInt8) (i n : Nat) (r : Option (List Edu × St)) : Option Par :=
  if n ≤ 100 then
    match r with
    | none => none
    | some r => if endS r.2 = 0 ∧ mayP ⟨ack, strOf f, strOf t, (i : Int), r.1⟩ = true then some ⟨ack, strOf f, strOf t, (i : Int), r.1⟩ else none
  else none
theorem finishP_many {ack : Bool} {f t : List UInt8} {i n : Nat} {r : Option (List Edu × St)} (h : ¬ n ≤ 100) : finishP ack f t i n r = none := if_neg h
theorem finishP_none {ack : Bool} {f t : List UInt8} {i n : Nat} : finishP ack f t i n none = none := by
  unfold finishP
  split <;> rfl
theorem finishP_yes {ack : Bool} {f t : List UInt8} {i n : Nat} {es : List Edu} {s : St} (h : n ≤ 100) (he : endS s = 0) (hm : mayP ⟨ack, strOf f, strOf t, (i : Int), es⟩ = true) : finishP ack f t i n (some (es, s)) = some ⟨ack, strOf f, strOf t, (i : Int), es⟩ := by
  unfold finishP
  rw [if_pos h]
  exact if_pos ⟨he, hm⟩
theorem finishP_no {ack : Bool} {f t : List UInt8} {i n : Nat} {es : List Edu} {s : St} (hm : ¬ (endS s = 0 ∧ mayP ⟨ack, strOf f, strOf t, (i : Int), es⟩ = true)) : finishP ack f t i n (some (es, s)) = none := by
  unfold finishP
  split
  · exact if_neg hm
  · rfl
theorem num_err {s : St} (hs : Ok s) (h : (numS s).2.2 ≠ 0) : (numS s).1 = 0 := by
  obtain ⟨bs, e⟩ := s
  by_cases hn : numErr bs = 0
  · rw [numS_good hn rfl] at h
    simp only at h
    have hb : bs = [] := hs h
    subst hb
    exact absurd hn (by decide)
  · rw [numS_bad rfl hn]
theorem readP_finish {m1 : Int} {bs : List UInt8} {ack : Bool} {f t : List UInt8} {i n : Nat} {s1 s2 s3 s4 s5 : St} (h1 : flagS (bs, 0) = (ack, s1)) (h2 : textS s1 m1 = (f, s2)) (h3 : textS s2 m1 = (t, s3)) (h4 : numS s3 = (i, s4)) (h5 : numS s4 = (n, s5)) (hok : Ok s4) :
    readP m1 1000000 bs = finishP ack f t i n (readL 1000000 n s5) := by
  unfold readP
  simp only [h1, h2, h3, h4, h5]
  by_cases h0 : s5.2 = 0
  · unfold finishP
    by_cases hn : n ≤ 100
    · rw [if_pos ⟨h0, hn⟩, if_pos hn]
      cases readL 1000000 n s5 <;> rfl
    · rw [if_neg (fun h => hn h.2), if_neg hn]
  · rw [if_neg (fun h => h0 h.1)]
    have hz := num_err hok (by rw [h5]; exact h0)
    rw [h5] at hz
    simp only at hz
    subst hz
    rw [readL, finishP_no]
    intro h
    exact h0 (end_zero h.1).1
theorem numS_small {s : St} {n : Nat} {s' : St} (h : numS s = (n, s')) : n < 9223372036854775808 := by
  have := numS_fst_lt s
  rw [h, pow128_9] at this
  exact this
end Go.Proofs.Ytnabbebkmafakaa
