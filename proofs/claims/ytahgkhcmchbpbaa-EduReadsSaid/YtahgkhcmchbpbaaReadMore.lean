/-
  What package lay's reader reads as a text, and as a flag.
-/
import Derived.Test.YtahgkhcmchbpbaaReadNum
namespace Go.Proofs.Ytahgkhcmchbpbaa
open Go.RowKit
set_option linter.unusedVariables false
set_option linter.unusedSimpArgs false

theorem Rd.len {w : World} {lo g : Nat} {s : St} (h : Rd w lo g s) (x : Nat) : (failS s x).1.length ≤ s.1.length := by
  unfold failS
  split
  · exact Nat.zero_le _
  · exact Nat.le_refl _
theorem numS_len (s : St) : (numS s).2.1.length ≤ s.1.length := by
  unfold numS
  split
  · simp
  · unfold failS
    split
    · exact Nat.zero_le _
    · exact Nat.le_refl _
theorem failS_len (s : St) (x : Nat) : (failS s x).1.length ≤ s.1.length := by
  unfold failS
  split
  · exact Nat.zero_le _
  · exact Nat.le_refl _

theorem Rd.opens {w : World} {lo g : Nat} {s : St} (h : Rd w lo g s) : ∃ A c, w.cell? ⟨g, 0, none⟩ = some (.slice A s.1.length c) ∧ w.cell? ⟨g, 1, none⟩ = some (.int .i64 (s.2 : Int)) := by
  obtain ⟨⟨v, hh, hr⟩, ho⟩ := h
  obtain ⟨A, c, rfl, _⟩ := hr.shape
  exact ⟨A, c, cell_at hh 0, cell_at hh 1⟩

section
variable {s s1 : St} {n : Nat} {most : Int} (h1 : (numS s).1 = n) (h2 : (numS s).2 = s1)
include h1 h2
omit h1 h2 in
theorem failS_bad (s : St) (x : Nat) (hx : x ≠ 0) : (failS s x).2 ≠ 0 := by
  unfold failS
  split
  · exact hx
  · assumption
omit h1 h2 in
theorem failS_twice {s : St} {x : Nat} (h : s.2 ≠ 0) : failS s x = s := by unfold failS; rw [if_neg h]
theorem textS_most (h : most < (n : Int)) : textS s most = ([], failS s1 2) := by
  have hb := failS_bad s1 2 (by decide)
  unfold textS
  simp only [h1, h2]
  rw [if_pos h]
  have : (if (failS s1 2).1.length < n then failS (failS s1 2) 3 else failS s1 2) = failS s1 2 := by
    split
    · exact failS_twice hb
    · rfl
  rw [this, if_neg hb]
theorem textS_short (h : ¬ most < (n : Int)) (hl : s1.1.length < n) : textS s most = ([], failS s1 3) := by
  have hb := failS_bad s1 3 (by decide)
  unfold textS
  simp only [h1, h2]
  rw [if_neg h, if_pos hl, if_neg hb]
theorem textS_take (h : ¬ most < (n : Int)) (hl : ¬ s1.1.length < n) (he : s1.2 = 0) : textS s most = (s1.1.take n, (s1.1.drop n, 0)) := by
  unfold textS
  simp only [h1, h2]
  rw [if_neg h, if_neg hl, if_pos he]
theorem textS_err (h : ¬ most < (n : Int)) (hl : ¬ s1.1.length < n) (he : s1.2 ≠ 0) : textS s most = ([], s1) := by
  unfold textS
  simp only [h1, h2]
  rw [if_neg h, if_neg hl, if_neg he]
end

theorem strOf_nil : strOf [] = ⟨#[]⟩ := rfl

set_option maxHeartbeats 3200000 in
theorem readText_any (lo g : Nat) (s : St) (most : Int) (w : World) (h : Rd w lo g s) (hl : s.1.length ≤ 1000000) (hm0 : -9223372036854775808 ≤ most) (hm1 : most ≤ 9223372036854775807) :
    Calls Try.prog 43 #[.pointer (some ⟨g, 0, none⟩), .int .i64 most] w (RdPost w lo g (.string (strOf (textS s most).1)) (textS s most).2) := by
  obtain ⟨n, s1, hn⟩ : ∃ n s1, numS s = (n, s1) := ⟨_, _, rfl⟩
  have h1 : (numS s).1 = n := by rw [hn]
  have h2 : (numS s).2 = s1 := by rw [hn]
  have hnb := numS_fst_lt s
  rw [h1, pow128_9] at hnb
  have hs1 := numS_len s
  rw [h2] at hs1
  have hf2 := failS_len s1 2
  have HN := Lib.hid (readNum_any lo g s w h hl)
  have H1 := Lib.hid h1
  have H2 := Lib.hid h2
  clear h1 h2 hn h
  go_enter Try.func43, Try.ntmps43
  go_wp2_with fail
  refine HN.out.mono ?_
  rintro e w1 ⟨rfl, hr1, hg1⟩
  rw [H1.out]
  rw [H2.out] at hr1
  have HR1 := Lib.hid hr1
  have HG1 := Lib.hid hg1
  clear hr1 hg1 HN
  by_cases hmost : most < (n : Int)
  · have Ht := Lib.hid (textS_most H1.out H2.out hmost)
    go_wp2_with fail
    refine (fail_any lo g s1 2 _ HR1.out (by decide) (by decide)).mono ?_
    rintro e w2 ⟨rfl, hr2, hg2⟩
    have hbad := failS_bad s1 2 (by decide)
    obtain ⟨A2, c2, d0, d1⟩ := hr2.opens
    have HR2 := Lib.hid hr2
    have HG2 := Lib.hid hg2
    generalize failS s1 2 = q at *
    obtain ⟨qb, qe⟩ := q
    simp at d0 d1 hbad hf2
    have q5 : ((qe : Int) != 0) = true := by rw [bne_iff_ne]; omega
    clear hr2 hg2
    by_cases hqn : qb.length < n
    · have q6 : decide ((qb.length : Int) < (n : Int)) = true := by simp; omega
      have Hf := Lib.hid (failS_twice (s := (qb, qe)) (x := 3) hbad)
      go_wp2_with fail
      refine (fail_any lo g (qb, qe) 3 _ HR2.out (by decide) (by decide)).mono ?_
      rintro e w3 ⟨rfl, hr3, hg3⟩
      rw [Hf.out] at hr3
      obtain ⟨A3, c3, f0, f1⟩ := hr3.opens
      simp at f0 f1
      have HR3 := Lib.hid hr3
      have HG3 := Lib.hid hg3
      clear hr3 hg3 d0 d1
      go_wp2_with fail
      go_ret
      rw [Ht.out]
      exact ⟨rfl, HR3.out, grown_trans HG1.out (grown_trans HG2.out HG3.out)⟩
    · have q6 : decide ((qb.length : Int) < (n : Int)) = false := by simp; omega
      go_wp2_with fail
      go_ret
      rw [Ht.out]
      exact ⟨rfl, HR2.out, grown_trans HG1.out HG2.out⟩
  · obtain ⟨A1, c1, d0, d1⟩ := HR1.out.opens
    obtain ⟨qb, qe⟩ := s1
    simp at d0 d1 hs1
    clear hf2
    by_cases hqn : qb.length < n
    · have Ht := Lib.hid (textS_short H1.out H2.out hmost hqn)
      have q6 : decide ((qb.length : Int) < (n : Int)) = true := by simp; omega
      go_wp2_with fail
      refine (fail_any lo g (qb, qe) 3 _ HR1.out (by decide) (by decide)).mono ?_
      rintro e w3 ⟨rfl, hr3, hg3⟩
      have hbad := failS_bad (qb, qe) 3 (by decide)
      obtain ⟨A3, c3, f0, f1⟩ := hr3.opens
      have HR3 := Lib.hid hr3
      have HG3 := Lib.hid hg3
      generalize failS (qb, qe) 3 = q at *
      obtain ⟨rb, re⟩ := q
      simp at f0 f1 hbad
      have q5 : ((re : Int) != 0) = true := by rw [bne_iff_ne]; omega
      clear hr3 hg3 d0 d1
      go_wp2_with fail
      go_ret
      rw [Ht.out]
      exact ⟨rfl, HR3.out, grown_trans HG1.out HG3.out⟩
    · have q6 : decide ((qb.length : Int) < (n : Int)) = false := by simp; omega
      by_cases he : qe = 0
      · have Ht := Lib.hid (textS_take H1.out H2.out hmost hqn he)
        subst he
        have HT := Lib.hid (take_any lo g (qb, 0) n w1 HR1.out (by simp; omega) (by simp; omega) rfl)
        go_wp2_with fail
        refine HT.out.mono ?_
        rintro e w3 ⟨⟨v3, rfl, hv3⟩, hr3, hg3⟩
        have hc := conv_row hv3
        have HR3 := Lib.hid hr3
        have HG3 := Lib.hid hg3
        clear hr3 hg3 hv3 d0 d1
        go_wp2_with fail
        go_ret
        rw [Ht.out]
        exact ⟨rfl, HR3.out, grown_trans HG1.out HG3.out⟩
      · have Ht := Lib.hid (textS_err H1.out H2.out hmost hqn he)
        have q5 : ((qe : Int) != 0) = true := by rw [bne_iff_ne]; omega
        go_wp2_with fail
        go_ret
        rw [Ht.out]
        exact ⟨rfl, HR1.out, HG1.out⟩

set_option maxHeartbeats 1600000 in
theorem readFlag_any (lo g : Nat) (s : St) (w : World) (h : Rd w lo g s) (hl : s.1.length ≤ 1000000) :
    Calls Try.prog 44 #[.pointer (some ⟨g, 0, none⟩)] w (RdPost w lo g (.bool (flagS s).1) (flagS s).2) := by
  obtain ⟨A1, c1, d0, d1⟩ := h.opens
  have H := Lib.hid h
  obtain ⟨bs, e⟩ := s
  cases bs with
  | nil =>
    have Hf := Lib.hid (show flagS ([], e) = (false, failS ([], e) 3) from rfl)
    simp at d0 d1
    clear h
    go_enter Try.func44, Try.ntmps44
    go_wp2_with fail
    refine (fail_any lo g ([], e) 3 _ H.out (by decide) (by decide)).mono ?_
    rintro e' w1 ⟨rfl, hr1, hg1⟩
    have HR1 := Lib.hid hr1
    have HG1 := Lib.hid hg1
    clear hr1 hg1
    go_wp2_with fail
    go_ret
    rw [Hf.out]
    exact ⟨rfl, HR1.out, HG1.out⟩
  | cons b r =>
    have he : e = 0 := by
      refine Decidable.byContradiction fun he => ?_
      have h0 : b :: r = [] := h.2 he
      cases h0
    subst he
    have Hf := Lib.hid (show flagS (b :: r, 0) = (b.toNat == 1, if 1 < b.toNat then failS (r, 0) 2 else (r, 0)) from rfl)
    have HT := Lib.hid (take_any lo g (b :: r, 0) 1 w H.out (by simp) hl rfl)
    have hb2 : (b.toNat : Int) ≤ 255 := by have := b.toNat_lt; omega
    simp at d0 d1 hl
    clear h
    go_enter Try.func44, Try.ntmps44
    go_wp2_with fail
    refine HT.out.mono ?_
    rintro e' w1 ⟨⟨v1, rfl, hv1⟩, hr1, hg1⟩
    obtain ⟨g2, off, c2, rfl, _, hc1, hc2, hcell⟩ := hv1.addr (by simp)
    have hc := hcell 0 b rfl
    unfold bV at hc
    have HR1 := Lib.hid hr1
    have HG1 := Lib.hid hg1
    clear hr1 hg1 hv1 hcell d0 d1
    simp at hc
    by_cases hb : 1 < b.toNat
    · rw [if_pos hb] at Hf
      have q1 : decide ((1 : Int) < (b.toNat : Int)) = true := by simp; omega
      have q2 : ((b.toNat : Int) == 1) = false := by rw [beq_eq_false_iff_ne]; omega
      have Q3 := Lib.hid (show (b.toNat == 1) = false by rw [beq_eq_false_iff_ne]; omega)
      go_wp2_with fail
      refine (fail_any lo g (r, 0) 2 _ HR1.out (by decide) (by decide)).mono ?_
      rintro e' w2 ⟨rfl, hr2, hg2⟩
      have HR2 := Lib.hid hr2
      have HG2 := Lib.hid hg2
      clear hr2 hg2
      go_wp2_with fail
      go_ret
      rw [Hf.out, Q3.out]
      exact ⟨rfl, HR2.out, grown_trans HG1.out HG2.out⟩
    · rw [if_neg hb] at Hf
      have q1 : decide ((1 : Int) < (b.toNat : Int)) = false := by simp; omega
      by_cases hb1 : b.toNat = 1
      · have q2 : ((b.toNat : Int) == 1) = true := by rw [beq_iff_eq]; omega
        have Q3 := Lib.hid (show (b.toNat == 1) = true by rw [beq_iff_eq]; omega)
        clear hb1
        go_wp2_with fail
        go_ret
        rw [Hf.out, Q3.out]
        exact ⟨rfl, HR1.out, HG1.out⟩
      · have q2 : ((b.toNat : Int) == 1) = false := by rw [beq_eq_false_iff_ne]; omega
        have Q3 := Lib.hid (show (b.toNat == 1) = false by rw [beq_eq_false_iff_ne]; omega)
        clear hb1
        go_wp2_with fail
        go_ret
        rw [Hf.out, Q3.out]
        exact ⟨rfl, HR1.out, HG1.out⟩
end Go.Proofs.Ytahgkhcmchbpbaa
