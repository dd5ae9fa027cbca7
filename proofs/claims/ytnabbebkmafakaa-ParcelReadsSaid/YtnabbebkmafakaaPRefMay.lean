/-
  The document's May and Bytes of a parcel, walked.
-/
import Derived.Test.YtnabbebkmafakaaPWrite
namespace Go.Proofs.Ytnabbebkmafakaa
set_option maxRecDepth 20000
open Go.RowKit
set_option linter.unusedVariables false
set_option linter.unusedSimpArgs false

theorem refMayW_any (e : Edu) (w : World) (h : e.well) : Calls Try.prog 28 #[e.val] w (BoolPost (mayB e) w) := refMay_any e w h.2.1 h.2.2.1 h.2.2.2.1 h.2.2.2.2
set_option maxHeartbeats 3200000 in
theorem refMayPar_any (p : Par) (A : Option Addr) (cap : Nat) (w : World) (hE : EdusAt w A p.edus.length p.edus) (hl : p.edus.length ≤ maxLen) (hf : p.frm.size ≤ maxLen) (hd : p.dest.size ≤ maxLen) :
    Calls Try.prog 11 #[.agg #[.bool p.ack, .string p.frm, .string p.dest, .int .i64 p.id, .slice A p.edus.length cap]] w (BoolPost (mayP p) w) := by
  have HE := Lib.hid hE
  have HR := mayP_holds p
  obtain ⟨ack, frm, dest, id, es⟩ := p
  simp only at *
  rw [maxLen_eq] at hl
  have HT := Lib.hid (Box.new w #[.bool ack, .string frm, .string dest, .int .i64 id, .slice A es.length cap] 24)
  have HF := Lib.hid (fun w => refServer_any frm w hf)
  have HD := Lib.hid (fun w => refServer_any dest w hd)
  clear hE hf hd
  generalize mayP ⟨ack, frm, dest, id, es⟩ = R at *
  generalize serverB frm = SF at *
  generalize serverB dest = SD at *
  go_enter Try.func11, Try.ntmps11
  go_wp2_with fail
  generalize hW : w.alloc _ = W at *
  clear hW
  refine (HF.out _).mono ?_
  rintro e w1 ⟨rfl, rfl⟩
  obtain ⟨d0, d1, d2, d3, d4⟩ := cells5p HT.out.2
  go_wp2_with fail
  refine (HD.out _).mono ?_
  rintro e w1 ⟨rfl, rfl⟩
  clear HF HD
  cases SF
  · have HR' : R = false := by rw [HR]; rfl
    subst HR'
    clear HR
    go_wp2_with fail
    go_ret
    exact ⟨rfl, HT.out.1⟩
  cases SD
  · have HR' : R = false := by rw [HR]; rfl
    subst HR'
    clear HR
    go_wp2_with fail
    go_ret
    exact ⟨rfl, HT.out.1⟩
  by_cases hne : ¬ (frm.toList ≠ dest.toList)
  · have q1 : (frm.toList == dest.toList) = true := by simpa using hne
    have HR' : R = false := by rw [HR]; simp only [ne_eq] at hne; simp [Decidable.not_not.1 hne]
    subst HR'
    clear HR
    go_wp2_with fail
    go_ret
    exact ⟨rfl, HT.out.1⟩
  replace hne := Decidable.not_not.1 hne
  have q1 : (frm.toList == dest.toList) = false := by simpa using hne
  by_cases h1 : ¬ (1 ≤ id)
  · have q2 : decide (id < 1) = true := by simp; omega
    have HR' : R = false := by rw [HR]; simp [h1]
    subst HR'
    clear HR
    go_wp2_with fail
    go_ret
    exact ⟨rfl, HT.out.1⟩
  replace h1 := Decidable.not_not.1 h1
  have q2 : decide (id < 1) = false := by simp; omega
  by_cases h2 : ¬ (id ≤ 1099511627776)
  · have q3 : decide (1099511627776 < id) = true := by simp; omega
    have HR' : R = false := by rw [HR]; simp [h2]
    subst HR'
    clear HR
    go_wp2_with fail
    go_ret
    exact ⟨rfl, HT.out.1⟩
  replace h2 := Decidable.not_not.1 h2
  have q3 : decide (1099511627776 < id) = false := by simp; omega
  by_cases h3 : ¬ (es.length ≤ 100)
  · have q4 : decide ((100 : Int) < (es.length : Int)) = true := by simp; omega
    have HR' : R = false := by rw [HR, holdsB_many (fun h => h3 h.1)]; simp
    subst HR'
    clear HR
    go_wp2_with fail
    go_ret
    exact ⟨rfl, HT.out.1⟩
  replace h3 := Decidable.not_not.1 h3
  have q4 : decide ((100 : Int) < (es.length : Int)) = false := by simp; omega
  have q5 : (ack = true → es.length = 0) ∨ (ack = true ∧ 0 < es.length) := by
    cases ack
    · exact .inl (fun h => by cases h)
    · rcases Nat.eq_zero_or_pos es.length with h | h
      · exact .inl (fun _ => h)
      · exact .inr ⟨rfl, h⟩
  rcases q5 with q5 | ⟨rfl, q5⟩
  rotate_left
  · have q6 : decide (0 < es.length) = true := decide_eq_true q5
    have HR' : R = false := by rw [HR, holdsB_many (fun h => by have := h.2 rfl; omega)]; simp
    subst HR'
    clear HR
    go_wp2_with fail
    go_ret
    exact ⟨rfl, HT.out.1⟩
  have HR' : R = es.all mayB := by
    rw [HR]
    simp only [h1, h2, hne, holdsB, h3, q5, Bool.true_and, decide_true, ne_eq, not_false_eq_true, and_self]
    rw [decide_eq_true q5, Bool.true_and]
  clear HR
  have HR := Lib.hid HR'
  clear HR' hne h1 h2
  have q6 : ack = true → decide (0 < es.length) = false := fun h => decide_eq_false (by have := q5 h; omega)
  clear q5
  cases ack
  all_goals
    first | (have q7 := q6 rfl) | skip
    clear q6
    go_wp2_with fail
    clear d0 d1 d2 d3 d4
    go_loopw [5] (fun i wr => ∃ k : Nat, k ≤ es.length ∧ i = .int .i64 (k : Int) ∧ Hid ((es.take k).all mayB = true) ∧ Hid (Box w _ 24 wr)) (fun i _ => es.length - (intOf i).toNat)
    case atStart => exact ⟨0, Nat.zero_le _, rfl, Lib.hid (by simp), HT⟩
    case round =>
      obtain ⟨k, hk, rfl, hall, hbox⟩ := hrel
      clear HT
      obtain ⟨c0, c1, c2, c3, c4⟩ := cells5p hbox.out.2
      by_cases hlt : k < es.length
      · have q8 : decide ((k : Int) < (es.length : Int)) = true := by simp; omega
        obtain ⟨e, he⟩ := get_lt hlt
        obtain ⟨b, off, rfl, hb, hr⟩ := (HE.out.below hbox.out.1).at he
        have hix := fun w => index_edu (b := b) (off := off) (cap := cap) hlt w
        obtain ⟨d0, d1, d2, d3, d4, d5, d6, d7, d8, d9, d10⟩ := range11 hr
        have HM := Lib.hid (fun w => refMayW_any e w (HE.out.2.1 e (mem_at he)))
        have HS := Lib.hid (fun hm => all_take_step hall.out he hm)
        have HFF := Lib.hid (fun hm => all_not he hm)
        clear hr he
        generalize mayB e = M at *
        obtain ⟨x0, x1, x2, x3, x4, x5, x6, x7, x8, x9, x10⟩ := e
        simp only [Edu.val] at HM d0 d1 d2 d3 d4 d5 d6 d7 d8 d9 d10
        go_wp2_with fail
        refine (HM.out _).mono ?_
        rintro e w1 ⟨rfl, hb1⟩
        have hbox1 := Lib.hid (hbox.out.later hb1)
        clear hb1 d0 d1 d2 d3 d4 d5 d6 d7 d8 d9 d10 c0 c1 c2 c3 c4 hix HM hb
        cases M
        · have HR1 : R = false := HR.out.trans (HFF.out rfl)
          subst HR1
          clear HS HFF HR
          go_wp2_with fail
          go_ret
          exact ⟨rfl, hbox1.out.1⟩
        · have HS1 := Lib.hid (HS.out rfl)
          clear HS HFF
          go_wp2_with fail
          refine ⟨⟨k + 1, by omega, by go_num, HS1, hbox1⟩, ?_⟩
          simp [intOf]; omega
      · obtain rfl : k = es.length := by omega
        have q8 : decide ((es.length : Int) < (es.length : Int)) = false := by simp
        have HR1 : R = true := by have := hall.out; rw [List.take_length] at this; rw [HR.out, this]
        subst HR1
        clear HR
        go_wp2_with fail
        go_ret
        exact ⟨rfl, hbox.out.1⟩
end Go.Proofs.Ytnabbebkmafakaa
