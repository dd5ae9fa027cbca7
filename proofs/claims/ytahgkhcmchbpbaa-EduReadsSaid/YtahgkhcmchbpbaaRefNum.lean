/-
  The document's reader reads a flag, and a number.
-/
import Derived.Test.YtahgkhcmchbpbaaRefRead
namespace Go.Proofs.Ytahgkhcmchbpbaa
open Go.RowKit
set_option linter.unusedVariables false
set_option linter.unusedSimpArgs false

theorem grown_drewN (w : World) (n g : Nat) : w.grownBy (w.drewN n) (some g) := ⟨rfl, rfl, rfl, Nat.le_refl _, fun _ _ _ => rfl⟩
theorem grown_pre {w w' : World} {n g : Nat} (h : (w.drewN n).grownBy w' (some g)) : w.grownBy w' (some g) := ⟨h.os, h.tape, h.output, h.size, h.block⟩

/-- The reader goes on by so many bytes. -/
theorem Rf.goes {w : World} {lo g I k : Nat} {v : Value} {bs : List UInt8} (hh : w.heap[g]? = some (.cells #[v, .int .i64 (I : Int), .int .i64 0] 67 (0, 0))) (hr : Row w lo v bs) (hk : I + k ≤ bs.length) (hl : bs.length ≤ 1000000) (J : Int) (hJ : J = ((I + k : Nat) : Int)) :
    Rf (w.setCell ⟨g, 1, none⟩ (.int .i64 J)) lo g (bs.drop (I + k), 0) := by
  subst hJ
  refine ⟨v, bs, I + k, ?_, hr.set hh (by decide) _, hk, hl, by simp⟩
  rw [heap_set hh 1]
  rfl
theorem Rf.heap {w : World} {lo g : Nat} {s : St} (h : Rf w lo g s) : ∃ A c bs I, w.heap[g]? = some (.cells #[.slice A bs.length c, .int .i64 ((I : Nat) : Int), .int .i64 (s.2 : Int)] 67 (0, 0)) ∧
    Row w lo (.slice A bs.length c) bs ∧ bs.length ≤ c ∧ c ≤ maxLen ∧ I ≤ bs.length ∧ bs.length ≤ 1000000 ∧ s.1 = if s.2 = 0 then bs.drop I else [] := by
  obtain ⟨v, bs, I, hh, hr, h1, h2, h3⟩ := h
  obtain ⟨A, c, rfl, hc1, hc2, _⟩ := hr.shape
  exact ⟨A, c, bs, I, hh, hr, hc1, hc2, h1, h2, h3⟩

set_option maxHeartbeats 1600000 in
theorem refFlagR_any (lo g : Nat) (s : St) (w : World) (h : Rf w lo g s) :
    Calls Try.prog 48 #[.pointer (some ⟨g, 0, none⟩)] w (RfPost w lo g (.bool (flagS s).1) (flagS s).2) := by
  have H := Lib.hid h
  obtain ⟨A, c, bs, I, hh, hr, hc1, hc2, h1, h2, h3⟩ := h.heap
  obtain ⟨rs, e⟩ := s
  replace h3 : rs = if e = 0 then bs.drop I else [] := h3
  have c0 : w.cell? ⟨g, 0, none⟩ = some (.slice A bs.length c) := cell_at hh 0
  have c1 : w.cell? ⟨g, 1, none⟩ = some (.int .i64 (I : Int)) := cell_at hh 1
  have c2 : w.cell? ⟨g, 2, none⟩ = some (.int .i64 (e : Int)) := cell_at hh 2
  have f1 : w.frozen? ⟨g, 1, none⟩ = false := free_at hh 1
  have Hh := Lib.hid hh
  have HR := Lib.hid hr
  clear hh hr h
  by_cases he : e = 0
  · subst he
    rw [if_pos rfl] at h3
    by_cases hI : I < bs.length
    · obtain ⟨g2, off, c', hA, _, _, _, hcell⟩ := HR.out.addr (by omega)
      injection hA with hA1 hA2 hA3
      subst hA1
      obtain ⟨x, hx⟩ : ∃ x, bs[I]? = some x := ⟨_, List.getElem?_eq_getElem hI⟩
      have hc := hcell I x hx
      unfold bV at hc
      have hrs : rs = x :: bs.drop (I + 1) := by
        rw [h3, List.drop_eq_getElem_cons hI]
        rw [List.getElem?_eq_getElem hI] at hx
        injection hx with hx
        rw [hx]
      have hx2 : (x.toNat : Int) ≤ 255 := by have := x.toNat_lt; omega
      have Hf := Lib.hid (show flagS (rs, 0) = (x.toNat == 1, if 1 < x.toNat then failS (bs.drop (I + 1), 0) 2 else (bs.drop (I + 1), 0)) by rw [hrs]; rfl)
      have qI : decide ((bs.length : Int) ≤ (I : Int)) = false := decide_eq_false (by omega)
      clear hcell hx hrs h3
      by_cases hb : 1 < x.toNat
      · rw [if_pos hb] at Hf
        have q1 : decide ((1 : Int) < (x.toNat : Int)) = true := decide_eq_true (by omega)
        have Q3 := Lib.hid (show (x.toNat == 1) = false by rw [beq_eq_false_iff_ne]; omega)
        go_enter Try.func48, Try.ntmps48
        go_wp2_with fail
        go_quiet (fail)
        go_wp2_with fail
        go_quiet (fail)
        go_wp2_with fail
        refine (refFail_any lo g (rs, 0) 2 _ (H.out.drewN _) (by decide) (by decide)).mono ?_
        rintro e' w2 ⟨rfl, hr2, hg2⟩
        have HR2 := Lib.hid hr2
        have HG2 := Lib.hid (grown_pre hg2)
        clear hr2 hg2
        go_wp2_with fail
        go_ret
        rw [Hf.out, Q3.out]
        exact ⟨rfl, HR2.out, HG2.out⟩
      · rw [if_neg hb] at Hf
        have q1 : decide ((1 : Int) < (x.toNat : Int)) = false := decide_eq_false (by omega)
        by_cases hb1 : x.toNat = 1
        · have q2 : ((x.toNat : Int) == 1) = true := by rw [beq_iff_eq]; omega
          have Q3 := Lib.hid (show (x.toNat == 1) = true by rw [beq_iff_eq]; omega)
          clear hb1
          go_enter Try.func48, Try.ntmps48
          go_wp2_with fail
          go_quiet (fail)
          go_wp2_with fail
          go_quiet (fail)
          go_wp2_with fail
          go_ret
          rw [Hf.out, Q3.out]
          exact ⟨rfl, Rf.goes (w := w.drewN _) Hh.out HR.out (by omega) h2 _ (by omega), grown_pre (grown_set (w.drewN _) g 1 _)⟩
        · have q2 : ((x.toNat : Int) == 1) = false := by rw [beq_eq_false_iff_ne]; omega
          have Q3 := Lib.hid (show (x.toNat == 1) = false by rw [beq_eq_false_iff_ne]; omega)
          clear hb1
          go_enter Try.func48, Try.ntmps48
          go_wp2_with fail
          go_quiet (fail)
          go_wp2_with fail
          go_quiet (fail)
          go_wp2_with fail
          go_ret
          rw [Hf.out, Q3.out]
          exact ⟨rfl, Rf.goes (w := w.drewN _) Hh.out HR.out (by omega) h2 _ (by omega), grown_pre (grown_set (w.drewN _) g 1 _)⟩
    · have hrs : rs = [] := by rw [h3, List.drop_eq_nil_iff]; omega
      subst hrs
      have qI : decide ((bs.length : Int) ≤ (I : Int)) = true := decide_eq_true (by omega)
      have Hf := Lib.hid (show flagS ([], 0) = (false, failS ([], 0) 3) from rfl)
      clear h3
      go_enter Try.func48, Try.ntmps48
      go_wp2_with fail
      go_quiet (fail)
      go_wp2_with fail
      refine (refFail_any lo g ([], 0) 3 _ (H.out.drewN _) (by decide) (by decide)).mono ?_
      rintro e' w2 ⟨rfl, hr2, hg2⟩
      have HR2 := Lib.hid hr2
      have HG2 := Lib.hid (grown_pre hg2)
      clear hr2 hg2
      go_wp2_with fail
      go_ret
      rw [Hf.out]
      exact ⟨rfl, HR2.out, HG2.out⟩
  · rw [if_neg he] at h3
    have Hf := Lib.hid (show flagS (rs, e) = (false, (rs, e)) by rw [h3]; show (false, failS ([], e) 3) = _; rw [failS_twice (s := ([], e)) he])
    have q : ((e : Int) != 0) = true := by rw [bne_iff_ne]; omega
    clear h3
    go_enter Try.func48, Try.ntmps48
    go_wp2
    go_ret
    rw [Hf.out]
    exact ⟨rfl, H.out, grown_refl _ _⟩
end Go.Proofs.Ytahgkhcmchbpbaa
