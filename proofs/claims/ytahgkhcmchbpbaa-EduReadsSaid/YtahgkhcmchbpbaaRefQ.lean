/-
  The document's reader over a slice of bytes that was handed in: call by call.
-/
import Derived.Test.YtahgkhcmchbpbaaRowQ
namespace Go.Proofs.Ytahgkhcmchbpbaa
open Go.RowKit
set_option linter.unusedVariables false
set_option linter.unusedSimpArgs false


/-- The document's reader: its bytes, its place, its first error. -/
def RfQ (w : World) (lo g : Nat) (s : St) : Prop :=
  ∃ v bs I, w.heap[g]? = some (.cells #[v, .int .i64 ((I : Nat) : Int), .int .i64 (s.2 : Int)] 67 (0, 0)) ∧ RowQ w lo g v bs ∧ I ≤ bs.length ∧ bs.length ≤ 1000000 ∧ s.1 = if s.2 = 0 then bs.drop I else []
theorem RfQ.below {w w' : World} {lo g : Nat} {s : St} (h : RfQ w lo g s) (hb : Below w.heap.size w w') : RfQ w' lo g s := by
  obtain ⟨v, bs, I, hh, hr, r⟩ := h
  exact ⟨v, bs, I, (hb.block g (heap_lt hh)).trans hh, hr.below hb, r⟩
theorem RfQ.drewN {w : World} {lo g : Nat} {s : St} (h : RfQ w lo g s) (n : Nat) : RfQ (w.drewN n) lo g s := h
theorem RfQ.len {w : World} {lo g : Nat} {s : St} (h : RfQ w lo g s) : s.1.length ≤ 1000000 := by
  obtain ⟨v, bs, I, hh, hr, h1, h2, h3⟩ := h
  rw [h3]
  split
  · rw [List.length_drop]; omega
  · exact Nat.zero_le _
theorem RfQ.ok {w : World} {lo g : Nat} {s : St} (h : RfQ w lo g s) : Ok s := by
  obtain ⟨v, bs, I, hh, hr, h1, h2, h3⟩ := h
  intro he
  rw [h3, if_neg he]

def RfQPost (w : World) (lo g : Nat) (r : Value) (s : St) (e : Ending) (w' : World) : Prop := e = .returned r ∧ RfQ w' lo g s ∧ w.grownBy w' (some g)

set_option maxHeartbeats 800000 in
theorem refFailQ_any (lo g : Nat) (s : St) (x : Nat) (w : World) (h : RfQ w lo g s) (hx : x ≠ 0) (hx2 : x ≤ 9) :
    Calls Try.prog 73 #[.pointer (some ⟨g, 0, none⟩), .int .i64 (x : Int)] w (RfQPost w lo g (.tuple #[]) (failS s x)) := by
  have H := Lib.hid h
  obtain ⟨v, bs, I, hh, hr, h1, h2, h3⟩ := h
  obtain ⟨rs, e⟩ := s
  have c2 : w.cell? ⟨g, 2, none⟩ = some (.int .i64 (e : Int)) := cell_at hh 2
  have f2 : w.frozen? ⟨g, 2, none⟩ = false := free_at hh 2
  have Hh := Lib.hid hh
  have HR := Lib.hid hr
  clear hh hr h3
  by_cases he : e = 0
  · subst he
    go_enter Try.func73, Try.ntmps73
    go_wp2
    go_end0
    refine ⟨rfl, ⟨v, bs, I, ?_, HR.out.set Hh.out (by decide) _, h1, h2, ?_⟩, grown_set w g 2 _⟩
    · rw [heap_set Hh.out 2]; rfl
    · show [] = _
      rw [if_neg (by simpa [failS] using hx)]
  · have q : ((e : Int) == 0) = false := by rw [beq_eq_false_iff_ne]; omega
    go_enter Try.func73, Try.ntmps73
    go_wp2
    go_end0
    refine ⟨rfl, ?_, grown_refl _ _⟩
    rw [failS_twice (s := (rs, e)) he]
    exact H.out

/-- What is left of the document's reader. -/
theorem RfQ.opens {w : World} {lo g : Nat} {s : St} (h : RfQ w lo g s) : ∃ A c bs I, w.cell? ⟨g, 0, none⟩ = some (.slice A bs.length c) ∧ w.cell? ⟨g, 1, none⟩ = some (.int .i64 ((I : Nat) : Int)) ∧ w.cell? ⟨g, 2, none⟩ = some (.int .i64 (s.2 : Int)) ∧
    RowQ w lo g (.slice A bs.length c) bs ∧ bs.length ≤ c ∧ c ≤ maxLen ∧ I ≤ bs.length ∧ bs.length ≤ 1000000 ∧ s.1 = if s.2 = 0 then bs.drop I else [] := by
  obtain ⟨v, bs, I, hh, hr, h1, h2, h3⟩ := h
  obtain ⟨A, c, rfl, hc1, hc2, _⟩ := hr.shape
  exact ⟨A, c, bs, I, cell_at hh 0, cell_at hh 1, cell_at hh 2, hr, hc1, hc2, h1, h2, h3⟩


set_option maxHeartbeats 800000 in
theorem refEndQ_any (lo g : Nat) (s : St) (w : World) (h : RfQ w lo g s) :
    Calls Try.prog 49 #[.pointer (some ⟨g, 0, none⟩)] w fun e w' => e = .returned (.int .i64 (endS s : Int)) ∧ ∃ m, w' = w.drewN m := by
  obtain ⟨A, c, bs, I, c0, c1, c2, hr, hc1, hc2, h1, h2, h3⟩ := h.opens
  obtain ⟨rs, e⟩ := s
  have h3 : rs = if e = 0 then bs.drop I else [] := h3
  simp at c2
  clear hr h
  by_cases he : e = 0
  · subst he
    rw [if_pos rfl] at h3
    have hl : rs.length = bs.length - I := by rw [h3, List.length_drop]
    by_cases hb : I < bs.length
    · have Hn := Lib.hid (show endS (rs, 0) = 2 by simp only [endS]; rw [if_pos ⟨trivial, by omega⟩])
      have q : decide ((I : Int) < (bs.length : Int)) = true := decide_eq_true (by omega)
      clear h3 hl
      go_enter Try.func49, Try.ntmps49
      go_wp2
      go_quiet (fail)
      go_wp2
      go_ret
      rw [Hn.out]
      exact ⟨rfl, _, rfl⟩
    · have Hn := Lib.hid (show endS (rs, 0) = 0 by simp only [endS]; rw [if_neg (fun h => by have := h.2; omega)])
      have q : decide ((I : Int) < (bs.length : Int)) = false := decide_eq_false (by omega)
      clear h3 hl
      go_enter Try.func49, Try.ntmps49
      go_wp2
      go_quiet (fail)
      go_wp2
      go_ret
      rw [Hn.out]
      exact ⟨rfl, _, rfl⟩
  · have Hn := Lib.hid (show endS (rs, e) = e by simp [endS, he])
    have q : ((e : Int) == 0) = false := by rw [beq_eq_false_iff_ne]; omega
    clear h3
    go_enter Try.func49, Try.ntmps49
    go_wp2
    go_quiet (fail)
    go_wp2
    go_ret
    rw [Hn.out]
    exact ⟨rfl, _, rfl⟩

/-- The reader goes on by so many bytes. -/
theorem RfQ.goes {w : World} {lo g I k : Nat} {v : Value} {bs : List UInt8} (hh : w.heap[g]? = some (.cells #[v, .int .i64 (I : Int), .int .i64 0] 67 (0, 0))) (hr : RowQ w lo g v bs) (hk : I + k ≤ bs.length) (hl : bs.length ≤ 1000000) (J : Int) (hJ : J = ((I + k : Nat) : Int)) :
    RfQ (w.setCell ⟨g, 1, none⟩ (.int .i64 J)) lo g (bs.drop (I + k), 0) := by
  subst hJ
  refine ⟨v, bs, I + k, ?_, hr.set hh (by decide) _, hk, hl, by simp⟩
  rw [heap_set hh 1]
  rfl
theorem RfQ.heap {w : World} {lo g : Nat} {s : St} (h : RfQ w lo g s) : ∃ A c bs I, w.heap[g]? = some (.cells #[.slice A bs.length c, .int .i64 ((I : Nat) : Int), .int .i64 (s.2 : Int)] 67 (0, 0)) ∧
    RowQ w lo g (.slice A bs.length c) bs ∧ bs.length ≤ c ∧ c ≤ maxLen ∧ I ≤ bs.length ∧ bs.length ≤ 1000000 ∧ s.1 = if s.2 = 0 then bs.drop I else [] := by
  obtain ⟨v, bs, I, hh, hr, h1, h2, h3⟩ := h
  obtain ⟨A, c, rfl, hc1, hc2, _⟩ := hr.shape
  exact ⟨A, c, bs, I, hh, hr, hc1, hc2, h1, h2, h3⟩

set_option maxHeartbeats 1600000 in
theorem refFlagRQ_any (lo g : Nat) (s : St) (w : World) (h : RfQ w lo g s) :
    Calls Try.prog 48 #[.pointer (some ⟨g, 0, none⟩)] w (RfQPost w lo g (.bool (flagS s).1) (flagS s).2) := by
  have H := Lib.hid h
  obtain ⟨A, c, bs, I, hh, hr, hc1, hc2, h1, h2, h3⟩ := h.heap
  obtain ⟨rs, e⟩ := s
  replace h3 : rs = if e = 0 then bs.drop I else [] := h3
  have c0 : w.cell? ⟨g, 0, none⟩ = some (.slice A bs.length c) := cell_at hh 0
  have c1 : w.cell? ⟨g, 1, none⟩ = some (.int .i64 (I : Int)) := cell_at hh 1
  have c2 : w.cell? ⟨g, 2, none⟩ = some (.int .i64 (e : Int)) := cell_at hh 2
  have f1 : w.frozen? ⟨g, 1, none⟩ = false := free_at hh 1
  have Hh := Lib.hid hh
  have HR := Lib.hid hr
  clear hh hr h
  by_cases he : e = 0
  · subst he
    rw [if_pos rfl] at h3
    by_cases hI : I < bs.length
    · obtain ⟨g2, off, c', hA, _, _, _, hcell⟩ := HR.out.addr (by omega)
      injection hA with hA1 hA2 hA3
      subst hA1
      obtain ⟨x, hx⟩ : ∃ x, bs[I]? = some x := ⟨_, List.getElem?_eq_getElem hI⟩
      have hc := hcell I x hx
      unfold bV at hc
      have hrs : rs = x :: bs.drop (I + 1) := by
        rw [h3, List.drop_eq_getElem_cons hI]
        rw [List.getElem?_eq_getElem hI] at hx
        injection hx with hx
        rw [hx]
      have hx2 : (x.toNat : Int) ≤ 255 := by have := x.toNat_lt; omega
      have Hf := Lib.hid (show flagS (rs, 0) = (x.toNat == 1, if 1 < x.toNat then failS (bs.drop (I + 1), 0) 2 else (bs.drop (I + 1), 0)) by rw [hrs]; rfl)
      have qI : decide ((bs.length : Int) ≤ (I : Int)) = false := decide_eq_false (by omega)
      clear hcell hx hrs h3
      by_cases hb : 1 < x.toNat
      · rw [if_pos hb] at Hf
        have q1 : decide ((1 : Int) < (x.toNat : Int)) = true := decide_eq_true (by omega)
        have Q3 := Lib.hid (show (x.toNat == 1) = false by rw [beq_eq_false_iff_ne]; omega)
        go_enter Try.func48, Try.ntmps48
        go_wp2_with fail
        go_quiet (fail)
        go_wp2_with fail
        go_quiet (fail)
        go_wp2_with fail
        refine (refFailQ_any lo g (rs, 0) 2 _ (H.out.drewN _) (by decide) (by decide)).mono ?_
        rintro e' w2 ⟨rfl, hr2, hg2⟩
        have HR2 := Lib.hid hr2
        have HG2 := Lib.hid (grown_pre hg2)
        clear hr2 hg2
        go_wp2_with fail
        go_ret
        rw [Hf.out, Q3.out]
        exact ⟨rfl, HR2.out, HG2.out⟩
      · rw [if_neg hb] at Hf
        have q1 : decide ((1 : Int) < (x.toNat : Int)) = false := decide_eq_false (by omega)
        by_cases hb1 : x.toNat = 1
        · have q2 : ((x.toNat : Int) == 1) = true := by rw [beq_iff_eq]; omega
          have Q3 := Lib.hid (show (x.toNat == 1) = true by rw [beq_iff_eq]; omega)
          clear hb1
          go_enter Try.func48, Try.ntmps48
          go_wp2_with fail
          go_quiet (fail)
          go_wp2_with fail
          go_quiet (fail)
          go_wp2_with fail
          go_ret
          rw [Hf.out, Q3.out]
          exact ⟨rfl, RfQ.goes (w := w.drewN _) Hh.out HR.out (by omega) h2 _ (by omega), grown_pre (grown_set (w.drewN _) g 1 _)⟩
        · have q2 : ((x.toNat : Int) == 1) = false := by rw [beq_eq_false_iff_ne]; omega
          have Q3 := Lib.hid (show (x.toNat == 1) = false by rw [beq_eq_false_iff_ne]; omega)
          clear hb1
          go_enter Try.func48, Try.ntmps48
          go_wp2_with fail
          go_quiet (fail)
          go_wp2_with fail
          go_quiet (fail)
          go_wp2_with fail
          go_ret
          rw [Hf.out, Q3.out]
          exact ⟨rfl, RfQ.goes (w := w.drewN _) Hh.out HR.out (by omega) h2 _ (by omega), grown_pre (grown_set (w.drewN _) g 1 _)⟩
    · have hrs : rs = [] := by rw [h3, List.drop_eq_nil_iff]; omega
      subst hrs
      have qI : decide ((bs.length : Int) ≤ (I : Int)) = true := decide_eq_true (by omega)
      have Hf := Lib.hid (show flagS ([], 0) = (false, failS ([], 0) 3) from rfl)
      clear h3
      go_enter Try.func48, Try.ntmps48
      go_wp2_with fail
      go_quiet (fail)
      go_wp2_with fail
      refine (refFailQ_any lo g ([], 0) 3 _ (H.out.drewN _) (by decide) (by decide)).mono ?_
      rintro e' w2 ⟨rfl, hr2, hg2⟩
      have HR2 := Lib.hid hr2
      have HG2 := Lib.hid (grown_pre hg2)
      clear hr2 hg2
      go_wp2_with fail
      go_ret
      rw [Hf.out]
      exact ⟨rfl, HR2.out, HG2.out⟩
  · rw [if_neg he] at h3
    have Hf := Lib.hid (show flagS (rs, e) = (false, (rs, e)) by rw [h3]; show (false, failS ([], e) 3) = _; rw [failS_twice (s := ([], e)) he])
    have q : ((e : Int) != 0) = true := by rw [bne_iff_ne]; omega
    clear h3
    go_enter Try.func48, Try.ntmps48
    go_wp2
    go_ret
    rw [Hf.out]
    exact ⟨rfl, H.out, grown_refl _ _⟩

set_option maxHeartbeats 3200000 in
theorem refNumRQ_any (lo g : Nat) (s : St) (w : World) (h : RfQ w lo g s) :
    Calls Try.prog 46 #[.pointer (some ⟨g, 0, none⟩)] w (RfQPost w lo g (.int .i64 ((numS s).1 : Int)) (numS s).2) := by
  have H := Lib.hid h
  obtain ⟨A, c, bs, I, hh, hr, hc1, hc2, h1, h2, h3⟩ := h.heap
  obtain ⟨rs, e⟩ := s
  replace h3 : rs = if e = 0 then bs.drop I else [] := h3
  have c0 : w.cell? ⟨g, 0, none⟩ = some (.slice A bs.length c) := cell_at hh 0
  have c1 : w.cell? ⟨g, 1, none⟩ = some (.int .i64 (I : Int)) := cell_at hh 1
  have c2 : w.cell? ⟨g, 2, none⟩ = some (.int .i64 (e : Int)) := cell_at hh 2
  have f1 : w.frozen? ⟨g, 1, none⟩ = false := free_at hh 1
  have Hh := Lib.hid hh
  have HR := Lib.hid hr
  clear hh hr h
  by_cases he : e = 0
  · subst he
    rw [if_pos rfl] at h3
    have hrl : rs.length = bs.length - I := by rw [h3, List.length_drop]
    have hat : ∀ (j : Nat) (x : UInt8), rs[j]? = some x → ∃ g2 off, A = some ⟨g2, off, none⟩ ∧ w.cell? ⟨g2, off + (I + j), none⟩ = some (.int .u8 (x.toNat : Int)) := by
      intro j x hx
      rw [h3, List.getElem?_drop] at hx
      have hl : I + j < bs.length := (List.getElem?_eq_some_iff.1 hx).1
      obtain ⟨g2, off, c', hA, _, _, _, hcell⟩ := HR.out.addr (by omega)
      injection hA with hA1 hA2 hA3
      exact ⟨g2, off, hA1, hcell (I + j) x hx⟩
    have HAT := Lib.hid hat
    have H3 := Lib.hid h3
    clear hat h3
    go_enter Try.func46, Try.ntmps46
    go_wp2_with fail
    go_loopw [3] (fun kk wr => ∃ k d : Nat, k ≤ 9 ∧ Hid (k ≤ goes rs) ∧ kk = .int .i64 (k : Int) ∧ wr = w.drewN d) (fun kk _ => 9 - (intOf kk).toNat)
    case atStart => exact ⟨0, 0, by omega, Lib.hid (Nat.zero_le _), rfl, rfl⟩
    case round =>
      obtain ⟨k, d, hk, Hkg, rfl, rfl⟩ := hrel
      have hkl : k ≤ rs.length := Nat.le_trans Hkg.out (goes_le rs)
      by_cases hk9 : k < 9
      · have q1 : decide ((k : Int) < 9) = true := decide_eq_true (by omega)
        by_cases hkr : k < rs.length
        · obtain ⟨x, hx⟩ : ∃ x, rs[k]? = some x := ⟨_, List.getElem?_eq_getElem hkr⟩
          obtain ⟨g2, off, rfl, hc⟩ := HAT.out k x hx
          have hx2 : (x.toNat : Int) ≤ 255 := by have := x.toNat_lt; omega
          have Hx := Lib.hid hx
          clear hx
          have q2 : decide ((I : Int) + (k : Int) < (bs.length : Int)) = true := decide_eq_true (by omega)
          by_cases hx1 : 128 ≤ x.toNat
          · have q3 : decide ((128 : Int) ≤ (x.toNat : Int)) = true := decide_eq_true (by omega)
            go_wp2_with fail
            go_quiet (fail)
            go_wp2_with fail
            refine ⟨⟨k + 1, _, by omega, Lib.hid (goes_more Hkg.out Hx.out hx1), by go_num, rfl⟩, ?_⟩
            simp [intOf]; omega
          · have q3 : decide ((128 : Int) ≤ (x.toNat : Int)) = false := decide_eq_false (by omega)
            have Hg := Lib.hid (goes_here Hkg.out Hx.out hx1)
            have q4 : ((k : Int) == 9) = false := by rw [beq_eq_false_iff_ne]; omega
            have q5 : (((I : Int) + (k : Int)) == (bs.length : Int)) = false := by rw [beq_eq_false_iff_ne]; omega
            go_wp2_with fail
            go_quiet (fail)
            go_wp2_with fail
            go_quiet (fail)
            go_wp2_with fail
            go_loopw [4, 5] (fun n i wr => ∃ j d : Nat, j ≤ k + 1 ∧ i = .int .i64 ((j : Int) - 1) ∧ n = .int .i64 (val ((rs.drop j).take (k + 1 - j)) : Int) ∧ wr = w.drewN d) (fun _ i _ => ((intOf i) + 1).toNat)
            case atStart => exact ⟨k + 1, _, by omega, by go_num, by simp [val], by rw [World.drewN_drewN]⟩
            case round =>
              obtain ⟨j, d2, hj, rfl, rfl, rfl⟩ := hrel
              by_cases hj0 : 0 < j
              · obtain ⟨y, hy⟩ : ∃ y, rs[j - 1]? = some y := ⟨_, List.getElem?_eq_getElem (by omega)⟩
                obtain ⟨g3, off3, hA3, hcy⟩ := HAT.out (j - 1) y hy
                injection hA3 with hA3
                injection hA3 with e1 e2 _
                subst e1 e2
                obtain ⟨i, rfl⟩ : ∃ i, j = i + 1 := ⟨j - 1, by omega⟩
                simp only [Nat.add_sub_cancel] at hy hcy
                have hy2 : (y.toNat : Int) ≤ 255 := by have := y.toNat_lt; omega
                have q6 : decide ((0 : Int) ≤ (i : Int)) = true := decide_eq_true (by omega)
                have HV := Lib.hid (val_down (k := k) hy (by omega))
                have hV := val_small (rs.drop (i + 1)) (k + 1 - (i + 1)) (by omega)
                generalize val ((rs.drop (i + 1)).take (k + 1 - (i + 1))) = V at *
                clear hy
                go_wp2_with fail
                go_quiet (fail)
                go_wp2_with fail
                refine ⟨⟨i, _, by omega, rfl, ?_, rfl⟩, ?_⟩
                · rw [HV.out]
                  exact congrArg (Value.int .i64) (by omega)
                · simp [intOf]
              · obtain rfl : j = 0 := by omega
                have HX : Hid (((digs (val (rs.take (k + 1)))).length ≠ k + 1) ↔ (x = 0 ∧ 0 < k)) := by
                  have := digs_val rs k Hg.out hkr
                  rw [show rs.getD k 0 = x by rw [List.getD_eq_getElem?_getD, Hx.out]; rfl] at this
                  exact Lib.hid this
                have hN : val (rs.take (k + 1)) < 9223372036854775808 := by
                  have h5 := Nat.lt_of_lt_of_le (val_take_lt rs (k + 1)) (pow128_le (show k + 1 ≤ 9 by omega))
                  rw [pow128_9] at h5
                  exact h5
                have HE := Lib.hid (numErr_at Hg.out Hx.out hk9)
                have HG := Lib.hid (numS_good (bs := rs) (e := 0) (k := k))
                have hV0 : val ((rs.drop 0).take (k + 1 - 0)) = val (rs.take (k + 1)) := rfl
                rw [hV0]
                clear hV0
                generalize val (rs.take (k + 1)) = N at *
                have hdl := len_digs N (by rw [pow128_9]; exact hN)
                have q6 : decide ((0 : Int) ≤ ((0 : Nat) : Int) - 1) = false := by decide
                go_wp2_with fail
                refine (refNumber_nat 8 N _ (by rw [show 8 + 1 = 9 from rfl, pow128_9]; exact hN) hN).mono ?_
                rintro e' w1 ⟨⟨g5, cap5, rfl, hg5, ho5⟩, hb5⟩
                have HR5 := Lib.hid ((H.out.drewN d2).below hb5)
                have HG5 := Lib.hid (grown_pre (grown_below hb5 g))
                have HHh := Lib.hid ((hb5.block g (heap_lt Hh.out)).trans Hh.out)
                have HRow := Lib.hid (RowQ.below (w := w.drewN d2) HR.out hb5)
                have e1 : w1.cell? ⟨g, 1, none⟩ = some (.int .i64 (I : Int)) := cell_at HHh.out 1
                have e2 : w1.frozen? ⟨g, 1, none⟩ = false := free_at HHh.out 1
                clear ho5 hb5 c0 c1 c2 f1 hc
                generalize (digs N).length = L at *
                by_cases hLk : L = k + 1
                · have q7 : ((L : Int) != ((k : Int) + 1)) = false := by rw [bne_eq_false_iff_eq]; omega
                  have Hn := Lib.hid (HG.out (by rw [HE.out, if_neg (fun h => HX.out.2 h hLk)]) Hg.out)
                  go_wp2_with fail
                  go_ret
                  rw [Hn.out]
                  refine ⟨rfl, ?_, grown_trans HG5.out (grown_set w1 g 1 _)⟩
                  rw [H3.out, List.drop_drop]
                  exact RfQ.goes HHh.out HRow.out (by omega) h2 _ (by omega)
                · have q7 : ((L : Int) != ((k : Int) + 1)) = true := by rw [bne_iff_ne]; omega
                  have Hn := Lib.hid (numS_bad (e := 0) (x := 2) (show numErr rs = 2 by rw [HE.out, if_pos (HX.out.1 hLk)]) (by decide))
                  go_wp2_with fail
                  refine (refFailQ_any lo g (rs, 0) 2 _ HR5.out (by decide) (by decide)).mono ?_
                  rintro e' w2 ⟨rfl, hr2, hg2⟩
                  have HR2 := Lib.hid hr2
                  have HG2 := Lib.hid (grown_trans HG5.out hg2)
                  clear hr2 hg2
                  go_wp2_with fail
                  go_ret
                  rw [Hn.out]
                  exact ⟨rfl, HR2.out, HG2.out⟩
        · have q2 : decide ((I : Int) + (k : Int) < (bs.length : Int)) = false := decide_eq_false (by omega)
          have q4 : ((k : Int) == 9) = false := by rw [beq_eq_false_iff_ne]; omega
          have q5 : (((I : Int) + (k : Int)) == (bs.length : Int)) = true := by rw [beq_iff_eq]; omega
          have Hn := Lib.hid (numS_bad (e := 0) (numErr_end (bs := rs) (by have := Hkg.out; have := goes_le rs; omega) (by omega)) (by decide))
          go_wp2_with fail
          go_quiet (fail)
          go_wp2_with fail
          go_quiet (fail)
          go_wp2_with fail
          refine (refFailQ_any lo g (rs, 0) 3 _ (H.out.drewN _) (by decide) (by decide)).mono ?_
          rintro e' w2 ⟨rfl, hr2, hg2⟩
          have HR2 := Lib.hid hr2
          have HG2 := Lib.hid (grown_pre hg2)
          clear hr2 hg2
          go_wp2_with fail
          go_ret
          rw [Hn.out]
          exact ⟨rfl, HR2.out, HG2.out⟩
      · obtain rfl : k = 9 := by omega
        have Hn := Lib.hid (numS_bad (e := 0) (numErr_go9 Hkg.out) (by decide))
        have q1 : decide (((9 : Nat) : Int) < 9) = false := by decide
        go_wp2_with fail
        go_quiet (fail)
        go_wp2_with fail
        refine (refFailQ_any lo g (rs, 0) 2 _ (H.out.drewN _) (by decide) (by decide)).mono ?_
        rintro e' w2 ⟨rfl, hr2, hg2⟩
        have HR2 := Lib.hid hr2
        have HG2 := Lib.hid (grown_pre hg2)
        clear hr2 hg2
        go_wp2_with fail
        go_ret
        rw [Hn.out]
        exact ⟨rfl, HR2.out, HG2.out⟩
  · rw [if_neg he] at h3
    subst h3
    have Hf := Lib.hid (numS_err he)
    have q : ((e : Int) != 0) = true := by rw [bne_iff_ne]; omega
    go_enter Try.func46, Try.ntmps46
    go_wp2_with fail
    go_ret
    rw [Hf.out]
    exact ⟨rfl, H.out, grown_refl _ _⟩

set_option maxHeartbeats 3200000 in
theorem refTextRQ_any (lo g : Nat) (s : St) (most : Int) (w : World) (h : RfQ w lo g s) (hm0 : -9223372036854775808 ≤ most) (hm1 : most ≤ 9223372036854775807) :
    Calls Try.prog 47 #[.pointer (some ⟨g, 0, none⟩), .int .i64 most] w (RfQPost w lo g (.string (strOf (textS s most).1)) (textS s most).2) := by
  obtain ⟨n, s1, hn⟩ : ∃ n s1, numS s = (n, s1) := ⟨_, _, rfl⟩
  have h1 : (numS s).1 = n := by rw [hn]
  have h2 : (numS s).2 = s1 := by rw [hn]
  have hnb := numS_fst_lt s
  rw [h1, pow128_9] at hnb
  have HN := Lib.hid (refNumRQ_any lo g s w h)
  have H1 := Lib.hid h1
  have H2 := Lib.hid h2
  clear h1 h2 hn h
  go_enter Try.func47, Try.ntmps47
  go_wp2_with fail
  refine HN.out.mono ?_
  rintro e w1 ⟨rfl, hr1, hg1⟩
  rw [H1.out]
  rw [H2.out] at hr1
  obtain ⟨A, c, bs, I, hh, hr, hc1, hc2, g1, g2, h3⟩ := hr1.heap
  have HR1 := Lib.hid hr1
  have HG1 := Lib.hid hg1
  clear hr1 hg1 HN
  obtain ⟨rs, e⟩ := s1
  replace h3 : rs = if e = 0 then bs.drop I else [] := h3
  have c0 : w1.cell? ⟨g, 0, none⟩ = some (.slice A bs.length c) := cell_at hh 0
  have c1 : w1.cell? ⟨g, 1, none⟩ = some (.int .i64 (I : Int)) := cell_at hh 1
  have c2 : w1.cell? ⟨g, 2, none⟩ = some (.int .i64 (e : Int)) := cell_at hh 2
  have f1 : w1.frozen? ⟨g, 1, none⟩ = false := free_at hh 1
  have Hh := Lib.hid hh
  have HR := Lib.hid hr
  clear hh hr
  by_cases he : e = 0
  · subst he
    rw [if_pos rfl] at h3
    have hrl : rs.length = bs.length - I := by rw [h3, List.length_drop]
    have H3 := Lib.hid h3
    clear h3
    by_cases hmost : most < (n : Int)
    · have Ht := Lib.hid (textS_most H1.out H2.out hmost)
      go_wp2_with fail
      refine (refFailQ_any lo g (rs, 0) 2 _ HR1.out (by decide) (by decide)).mono ?_
      rintro e' w2 ⟨rfl, hr2, hg2⟩
      have HR2 := Lib.hid hr2
      have HG2 := Lib.hid (grown_trans HG1.out hg2)
      clear hr2 hg2
      go_wp2_with fail
      go_ret
      rw [Ht.out]
      exact ⟨rfl, HR2.out, HG2.out⟩
    · by_cases hqn : rs.length < n
      · have Ht := Lib.hid (textS_short H1.out H2.out hmost hqn)
        have q6 : decide ((bs.length : Int) - (I : Int) < (n : Int)) = true := decide_eq_true (by omega)
        go_wp2_with fail
        go_quiet (fail)
        go_wp2_with fail
        refine (refFailQ_any lo g (rs, 0) 3 _ (HR1.out.drewN _) (by decide) (by decide)).mono ?_
        rintro e' w2 ⟨rfl, hr2, hg2⟩
        have HR2 := Lib.hid hr2
        have HG2 := Lib.hid (grown_trans HG1.out (grown_pre hg2))
        clear hr2 hg2
        go_wp2_with fail
        go_ret
        rw [Ht.out]
        exact ⟨rfl, HR2.out, HG2.out⟩
      · have Ht := Lib.hid (textS_take H1.out H2.out hmost hqn rfl)
        have q6 : decide ((bs.length : Int) - (I : Int) < (n : Int)) = false := decide_eq_false (by omega)
        have hcv := conv_pieceQ HR.out (show I + n ≤ bs.length by omega)
        rw [← H3.out] at hcv
        unfold maxLen at hc2
        go_wp2_with fail
        go_quiet (fail)
        go_wp2_with fail
        go_quiet (fail)
        go_wp2_with fail
        all_goals
          go_ret
          rw [Ht.out]
          refine ⟨rfl, ?_, grown_trans HG1.out (grown_pre (grown_set (w1.drewN _) g 1 _))⟩
          rw [H3.out, List.drop_drop]
          exact RfQ.goes (w := w1.drewN _) Hh.out HR.out (by omega) g2 _ (by omega)
  · have Ht := Lib.hid (textS_bad (most := most) H1.out H2.out he)
    have q : ((e : Int) != 0) = true := by rw [bne_iff_ne]; omega
    clear h3
    go_wp2_with fail
    go_ret
    rw [Ht.out]
    exact ⟨rfl, HR1.out, HG1.out⟩
end Go.Proofs.Ytahgkhcmchbpbaa
