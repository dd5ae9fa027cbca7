/-
  The document's reader reads a number: first how many bytes go on, then what they are.
-/
import Derived.Test.YtahgkhcmchbpbaaRefNum
namespace Go.Proofs.Ytahgkhcmchbpbaa
open Go.RowKit
set_option linter.unusedVariables false
set_option linter.unusedSimpArgs false

theorem val_down {rs : List UInt8} {i k : Nat} {y : UInt8} (hy : rs[i]? = some y) (hi : i ≤ k) : val ((rs.drop i).take (k + 1 - i)) = y.toNat % 128 + 128 * val ((rs.drop (i + 1)).take (k + 1 - (i + 1))) := by
  have hl : i < rs.length := (List.getElem?_eq_some_iff.1 hy).1
  rw [List.getElem?_eq_getElem hl] at hy
  injection hy with hy
  rw [List.drop_eq_getElem_cons hl, hy, show k + 1 - i = (k + 1 - (i + 1)) + 1 by omega, List.take_succ_cons, val]
theorem val_small (l : List UInt8) (n : Nat) (h : n ≤ 8) : val (l.take n) < 72057594037927936 := Nat.lt_of_lt_of_le (val_take_lt l n) (Nat.le_trans (pow128_le h) (by decide))

set_option maxHeartbeats 3200000 in
theorem refNumR_any (lo g : Nat) (s : St) (w : World) (h : Rf w lo g s) :
    Calls Try.prog 46 #[.pointer (some ⟨g, 0, none⟩)] w (RfPost w lo g (.int .i64 ((numS s).1 : Int)) (numS s).2) := by
  have H := Lib.hid h
  obtain ⟨A, c, bs, I, hh, hr, hc1, hc2, h1, h2, h3⟩ := h.heap
  obtain ⟨rs, e⟩ := s
  replace h3 : rs = if e = 0 then bs.drop I else [] := h3
  have c0 : w.cell? ⟨g, 0, none⟩ = some (.slice A bs.length c) := cell_at hh 0
  have c1 : w.cell? ⟨g, 1, none⟩ = some (.int .i64 (I : Int)) := cell_at hh 1
  have c2 : w.cell? ⟨g, 2, none⟩ = some (.int .i64 (e : Int)) := cell_at hh 2
  have f1 : w.frozen? ⟨g, 1, none⟩ = false := free_at hh 1
  have Hh := Lib.hid hh
  have HR := Lib.hid hr
  clear hh hr h
  by_cases he : e = 0
  · subst he
    rw [if_pos rfl] at h3
    have hrl : rs.length = bs.length - I := by rw [h3, List.length_drop]
    have hat : ∀ (j : Nat) (x : UInt8), rs[j]? = some x → ∃ g2 off, A = some ⟨g2, off, none⟩ ∧ w.cell? ⟨g2, off + (I + j), none⟩ = some (.int .u8 (x.toNat : Int)) := by
      intro j x hx
      rw [h3, List.getElem?_drop] at hx
      have hl : I + j < bs.length := (List.getElem?_eq_some_iff.1 hx).1
      obtain ⟨g2, off, c', hA, _, _, _, hcell⟩ := HR.out.addr (by omega)
      injection hA with hA1 hA2 hA3
      exact ⟨g2, off, hA1, hcell (I + j) x hx⟩
    have HAT := Lib.hid hat
    have H3 := Lib.hid h3
    clear hat h3
    go_enter Try.func46, Try.ntmps46
    go_wp2_with fail
    go_loopw [3] (fun kk wr => ∃ k d : Nat, k ≤ 9 ∧ Hid (k ≤ goes rs) ∧ kk = .int .i64 (k : Int) ∧ wr = w.drewN d) (fun kk _ => 9 - (intOf kk).toNat)
    case atStart => exact ⟨0, 0, by omega, Lib.hid (Nat.zero_le _), rfl, rfl⟩
    case round =>
      obtain ⟨k, d, hk, Hkg, rfl, rfl⟩ := hrel
      have hkl : k ≤ rs.length := Nat.le_trans Hkg.out (goes_le rs)
      by_cases hk9 : k < 9
      · have q1 : decide ((k : Int) < 9) = true := decide_eq_true (by omega)
        by_cases hkr : k < rs.length
        · obtain ⟨x, hx⟩ : ∃ x, rs[k]? = some x := ⟨_, List.getElem?_eq_getElem hkr⟩
          obtain ⟨g2, off, rfl, hc⟩ := HAT.out k x hx
          have hx2 : (x.toNat : Int) ≤ 255 := by have := x.toNat_lt; omega
          have Hx := Lib.hid hx
          clear hx
          have q2 : decide ((I : Int) + (k : Int) < (bs.length : Int)) = true := decide_eq_true (by omega)
          by_cases hx1 : 128 ≤ x.toNat
          · have q3 : decide ((128 : Int) ≤ (x.toNat : Int)) = true := decide_eq_true (by omega)
            go_wp2_with fail
            go_quiet (fail)
            go_wp2_with fail
            refine ⟨⟨k + 1, _, by omega, Lib.hid (goes_more Hkg.out Hx.out hx1), by go_num, rfl⟩, ?_⟩
            simp [intOf]; omega
          · have q3 : decide ((128 : Int) ≤ (x.toNat : Int)) = false := decide_eq_false (by omega)
            have Hg := Lib.hid (goes_here Hkg.out Hx.out hx1)
            have q4 : ((k : Int) == 9) = false := by rw [beq_eq_false_iff_ne]; omega
            have q5 : (((I : Int) + (k : Int)) == (bs.length : Int)) = false := by rw [beq_eq_false_iff_ne]; omega
            go_wp2_with fail
            go_quiet (fail)
            go_wp2_with fail
            go_quiet (fail)
            go_wp2_with fail
            go_loopw [4, 5] (fun n i wr => ∃ j d : Nat, j ≤ k + 1 ∧ i = .int .i64 ((j : Int) - 1) ∧ n = .int .i64 (val ((rs.drop j).take (k + 1 - j)) : Int) ∧ wr = w.drewN d) (fun _ i _ => ((intOf i) + 1).toNat)
            case atStart => exact ⟨k + 1, _, by omega, by go_num, by simp [val], by rw [World.drewN_drewN]⟩
            case round =>
              obtain ⟨j, d2, hj, rfl, rfl, rfl⟩ := hrel
              by_cases hj0 : 0 < j
              · obtain ⟨y, hy⟩ : ∃ y, rs[j - 1]? = some y := ⟨_, List.getElem?_eq_getElem (by omega)⟩
                obtain ⟨g3, off3, hA3, hcy⟩ := HAT.out (j - 1) y hy
                injection hA3 with hA3
                injection hA3 with e1 e2 _
                subst e1 e2
                obtain ⟨i, rfl⟩ : ∃ i, j = i + 1 := ⟨j - 1, by omega⟩
                simp only [Nat.add_sub_cancel] at hy hcy
                have hy2 : (y.toNat : Int) ≤ 255 := by have := y.toNat_lt; omega
                have q6 : decide ((0 : Int) ≤ (i : Int)) = true := decide_eq_true (by omega)
                have HV := Lib.hid (val_down (k := k) hy (by omega))
                have hV := val_small (rs.drop (i + 1)) (k + 1 - (i + 1)) (by omega)
                generalize val ((rs.drop (i + 1)).take (k + 1 - (i + 1))) = V at *
                clear hy
                go_wp2_with fail
                go_quiet (fail)
                go_wp2_with fail
                refine ⟨⟨i, _, by omega, rfl, ?_, rfl⟩, ?_⟩
                · rw [HV.out]
                  exact congrArg (Value.int .i64) (by omega)
                · simp [intOf]
              · obtain rfl : j = 0 := by omega
                have HX : Hid (((digs (val (rs.take (k + 1)))).length ≠ k + 1) ↔ (x = 0 ∧ 0 < k)) := by
                  have := digs_val rs k Hg.out hkr
                  rw [show rs.getD k 0 = x by rw [List.getD_eq_getElem?_getD, Hx.out]; rfl] at this
                  exact Lib.hid this
                have hN : val (rs.take (k + 1)) < 9223372036854775808 := by
                  have h5 := Nat.lt_of_lt_of_le (val_take_lt rs (k + 1)) (pow128_le (show k + 1 ≤ 9 by omega))
                  rw [pow128_9] at h5
                  exact h5
                have HE := Lib.hid (numErr_at Hg.out Hx.out hk9)
                have HG := Lib.hid (numS_good (bs := rs) (e := 0) (k := k))
                have hV0 : val ((rs.drop 0).take (k + 1 - 0)) = val (rs.take (k + 1)) := rfl
                rw [hV0]
                clear hV0
                generalize val (rs.take (k + 1)) = N at *
                have hdl := len_digs N (by rw [pow128_9]; exact hN)
                have q6 : decide ((0 : Int) ≤ ((0 : Nat) : Int) - 1) = false := by decide
                go_wp2_with fail
                refine (refNumber_nat 8 N _ (by rw [show 8 + 1 = 9 from rfl, pow128_9]; exact hN) hN).mono ?_
                rintro e' w1 ⟨⟨g5, cap5, rfl, hg5, ho5⟩, hb5⟩
                have HR5 := Lib.hid ((H.out.drewN d2).below hb5)
                have HG5 := Lib.hid (grown_pre (grown_below hb5 g))
                have HHh := Lib.hid ((hb5.block g (heap_lt Hh.out)).trans Hh.out)
                have HRow := Lib.hid (Row.below (w := w.drewN d2) HR.out hb5)
                have e1 : w1.cell? ⟨g, 1, none⟩ = some (.int .i64 (I : Int)) := cell_at HHh.out 1
                have e2 : w1.frozen? ⟨g, 1, none⟩ = false := free_at HHh.out 1
                clear ho5 hb5 c0 c1 c2 f1 hc
                generalize (digs N).length = L at *
                by_cases hLk : L = k + 1
                · have q7 : ((L : Int) != ((k : Int) + 1)) = false := by rw [bne_eq_false_iff_eq]; omega
                  have Hn := Lib.hid (HG.out (by rw [HE.out, if_neg (fun h => HX.out.2 h hLk)]) Hg.out)
                  go_wp2_with fail
                  go_ret
                  rw [Hn.out]
                  refine ⟨rfl, ?_, grown_trans HG5.out (grown_set w1 g 1 _)⟩
                  rw [H3.out, List.drop_drop]
                  exact Rf.goes HHh.out HRow.out (by omega) h2 _ (by omega)
                · have q7 : ((L : Int) != ((k : Int) + 1)) = true := by rw [bne_iff_ne]; omega
                  have Hn := Lib.hid (numS_bad (e := 0) (x := 2) (show numErr rs = 2 by rw [HE.out, if_pos (HX.out.1 hLk)]) (by decide))
                  go_wp2_with fail
                  refine (refFail_any lo g (rs, 0) 2 _ HR5.out (by decide) (by decide)).mono ?_
                  rintro e' w2 ⟨rfl, hr2, hg2⟩
                  have HR2 := Lib.hid hr2
                  have HG2 := Lib.hid (grown_trans HG5.out hg2)
                  clear hr2 hg2
                  go_wp2_with fail
                  go_ret
                  rw [Hn.out]
                  exact ⟨rfl, HR2.out, HG2.out⟩
        · have q2 : decide ((I : Int) + (k : Int) < (bs.length : Int)) = false := decide_eq_false (by omega)
          have q4 : ((k : Int) == 9) = false := by rw [beq_eq_false_iff_ne]; omega
          have q5 : (((I : Int) + (k : Int)) == (bs.length : Int)) = true := by rw [beq_iff_eq]; omega
          have Hn := Lib.hid (numS_bad (e := 0) (numErr_end (bs := rs) (by have := Hkg.out; have := goes_le rs; omega) (by omega)) (by decide))
          go_wp2_with fail
          go_quiet (fail)
          go_wp2_with fail
          go_quiet (fail)
          go_wp2_with fail
          refine (refFail_any lo g (rs, 0) 3 _ (H.out.drewN _) (by decide) (by decide)).mono ?_
          rintro e' w2 ⟨rfl, hr2, hg2⟩
          have HR2 := Lib.hid hr2
          have HG2 := Lib.hid (grown_pre hg2)
          clear hr2 hg2
          go_wp2_with fail
          go_ret
          rw [Hn.out]
          exact ⟨rfl, HR2.out, HG2.out⟩
      · obtain rfl : k = 9 := by omega
        have Hn := Lib.hid (numS_bad (e := 0) (numErr_go9 Hkg.out) (by decide))
        have q1 : decide (((9 : Nat) : Int) < 9) = false := by decide
        go_wp2_with fail
        go_quiet (fail)
        go_wp2_with fail
        refine (refFail_any lo g (rs, 0) 2 _ (H.out.drewN _) (by decide) (by decide)).mono ?_
        rintro e' w2 ⟨rfl, hr2, hg2⟩
        have HR2 := Lib.hid hr2
        have HG2 := Lib.hid (grown_pre hg2)
        clear hr2 hg2
        go_wp2_with fail
        go_ret
        rw [Hn.out]
        exact ⟨rfl, HR2.out, HG2.out⟩
  · rw [if_neg he] at h3
    subst h3
    have Hf := Lib.hid (numS_err he)
    have q : ((e : Int) != 0) = true := by rw [bne_iff_ne]; omega
    go_enter Try.func46, Try.ntmps46
    go_wp2_with fail
    go_ret
    rw [Hf.out]
    exact ⟨rfl, H.out, grown_refl _ _⟩
end Go.Proofs.Ytahgkhcmchbpbaa
