/-
  The document's reader reads a text.
-/
import Derived.Test.YtahgkhcmchbpbaaRefNumR
namespace Go.Proofs.Ytahgkhcmchbpbaa
open Go.RowKit
set_option linter.unusedVariables false
set_option linter.unusedSimpArgs false

theorem textS_bad {s s1 : St} {n : Nat} {most : Int} (h1 : (numS s).1 = n) (h2 : (numS s).2 = s1) (he : s1.2 ≠ 0) : textS s most = ([], s1) := by
  by_cases hm : most < (n : Int)
  · rw [textS_most h1 h2 hm, failS_twice he]
  · by_cases hl : s1.1.length < n
    · rw [textS_short h1 h2 hm hl, failS_twice he]
    · exact textS_err h1 h2 hm hl he

/-- A piece of a row, as it is cut out. -/
theorem conv_piece {w : World} {lo I n c : Nat} {A : Option Addr} {bs : List UInt8} (h : Row w lo (.slice A bs.length c) bs) (hn : I + n ≤ bs.length) (d : Nat) :
    (convert 28 9 (.slice (if c = I then A else A.map (fun x : Addr => x.add I)) n (c - I))).run Try.prog (w.drewN d) = .ok (.string (strOf ((bs.drop I).take n))) (w.drewN d) := by
  cases A with
  | none =>
    rcases h with ⟨h, hb⟩ | ⟨_, _, _, _, h, _⟩
    · subst hb
      obtain rfl : n = 0 := by simp at hn; omega
      obtain rfl : I = 0 := by simpa using hn
      have hc : c = 0 := by injection h
      subst hc
      exact conv_row (w := w.drewN d) (lo := 0) (Row.nil _ _)
    · injection h with h
      cases h
  | some a =>
    have h' := h
    rcases h with ⟨h, hb⟩ | ⟨g, off, c', cur, h, _⟩
    · injection h with h
      cases h
    · injection h with ha _ _
      injection ha with ha
      subst ha
      have ht := h'.tail (n := I) (by omega)
      have hl : (bs.drop I).length = bs.length - I := List.length_drop
      have e1 : (if c = I then some (⟨g, off, none⟩ : Addr) else Option.map (fun x : Addr => x.add I) (some (⟨g, off, none⟩ : Addr))) = if c = I then some (⟨g, off, none⟩ : Addr) else some ⟨g, off + I, none⟩ := by
        split
        · rfl
        · simp [Addr.add_lit]
      rw [e1]
      rw [← hl] at ht
      split at ht
      · rw [if_pos (by assumption)]
        exact conv_row (w := w.drewN d) (Row.head ht (by omega))
      · rw [if_neg (by assumption)]
        exact conv_row (w := w.drewN d) (Row.head ht (by omega))

set_option maxHeartbeats 3200000 in
theorem refTextR_any (lo g : Nat) (s : St) (most : Int) (w : World) (h : Rf w lo g s) (hm0 : -9223372036854775808 ≤ most) (hm1 : most ≤ 9223372036854775807) :
    Calls Try.prog 47 #[.pointer (some ⟨g, 0, none⟩), .int .i64 most] w (RfPost w lo g (.string (strOf (textS s most).1)) (textS s most).2) := by
  obtain ⟨n, s1, hn⟩ : ∃ n s1, numS s = (n, s1) := ⟨_, _, rfl⟩
  have h1 : (numS s).1 = n := by rw [hn]
  have h2 : (numS s).2 = s1 := by rw [hn]
  have hnb := numS_fst_lt s
  rw [h1, pow128_9] at hnb
  have HN := Lib.hid (refNumR_any lo g s w h)
  have H1 := Lib.hid h1
  have H2 := Lib.hid h2
  clear h1 h2 hn h
  go_enter Try.func47, Try.ntmps47
  go_wp2_with fail
  refine HN.out.mono ?_
  rintro e w1 ⟨rfl, hr1, hg1⟩
  rw [H1.out]
  rw [H2.out] at hr1
  obtain ⟨A, c, bs, I, hh, hr, hc1, hc2, g1, g2, h3⟩ := hr1.heap
  have HR1 := Lib.hid hr1
  have HG1 := Lib.hid hg1
  clear hr1 hg1 HN
  obtain ⟨rs, e⟩ := s1
  replace h3 : rs = if e = 0 then bs.drop I else [] := h3
  have c0 : w1.cell? ⟨g, 0, none⟩ = some (.slice A bs.length c) := cell_at hh 0
  have c1 : w1.cell? ⟨g, 1, none⟩ = some (.int .i64 (I : Int)) := cell_at hh 1
  have c2 : w1.cell? ⟨g, 2, none⟩ = some (.int .i64 (e : Int)) := cell_at hh 2
  have f1 : w1.frozen? ⟨g, 1, none⟩ = false := free_at hh 1
  have Hh := Lib.hid hh
  have HR := Lib.hid hr
  clear hh hr
  by_cases he : e = 0
  · subst he
    rw [if_pos rfl] at h3
    have hrl : rs.length = bs.length - I := by rw [h3, List.length_drop]
    have H3 := Lib.hid h3
    clear h3
    by_cases hmost : most < (n : Int)
    · have Ht := Lib.hid (textS_most H1.out H2.out hmost)
      go_wp2_with fail
      refine (refFail_any lo g (rs, 0) 2 _ HR1.out (by decide) (by decide)).mono ?_
      rintro e' w2 ⟨rfl, hr2, hg2⟩
      have HR2 := Lib.hid hr2
      have HG2 := Lib.hid (grown_trans HG1.out hg2)
      clear hr2 hg2
      go_wp2_with fail
      go_ret
      rw [Ht.out]
      exact ⟨rfl, HR2.out, HG2.out⟩
    · by_cases hqn : rs.length < n
      · have Ht := Lib.hid (textS_short H1.out H2.out hmost hqn)
        have q6 : decide ((bs.length : Int) - (I : Int) < (n : Int)) = true := decide_eq_true (by omega)
        go_wp2_with fail
        go_quiet (fail)
        go_wp2_with fail
        refine (refFail_any lo g (rs, 0) 3 _ (HR1.out.drewN _) (by decide) (by decide)).mono ?_
        rintro e' w2 ⟨rfl, hr2, hg2⟩
        have HR2 := Lib.hid hr2
        have HG2 := Lib.hid (grown_trans HG1.out (grown_pre hg2))
        clear hr2 hg2
        go_wp2_with fail
        go_ret
        rw [Ht.out]
        exact ⟨rfl, HR2.out, HG2.out⟩
      · have Ht := Lib.hid (textS_take H1.out H2.out hmost hqn rfl)
        have q6 : decide ((bs.length : Int) - (I : Int) < (n : Int)) = false := decide_eq_false (by omega)
        have hcv := conv_piece HR.out (show I + n ≤ bs.length by omega)
        rw [← H3.out] at hcv
        unfold maxLen at hc2
        go_wp2_with fail
        go_quiet (fail)
        go_wp2_with fail
        go_quiet (fail)
        go_wp2_with fail
        all_goals
          go_ret
          rw [Ht.out]
          refine ⟨rfl, ?_, grown_trans HG1.out (grown_pre (grown_set (w1.drewN _) g 1 _))⟩
          rw [H3.out, List.drop_drop]
          exact Rf.goes (w := w1.drewN _) Hh.out HR.out (by omega) g2 _ (by omega)
  · have Ht := Lib.hid (textS_bad (most := most) H1.out H2.out he)
    have q : ((e : Int) != 0) = true := by rw [bne_iff_ne]; omega
    clear h3
    go_wp2_with fail
    go_ret
    rw [Ht.out]
    exact ⟨rfl, HR1.out, HG1.out⟩
end Go.Proofs.Ytahgkhcmchbpbaa
