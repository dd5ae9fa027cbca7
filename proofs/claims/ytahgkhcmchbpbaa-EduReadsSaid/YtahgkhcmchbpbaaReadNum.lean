/-
  What package lay's reader reads as a number.
-/
import Derived.Test.YtahgkhcmchbpbaaReader
import Derived.Laws.BitsAllLaws
import Derived.Laws.BitsLemmas
namespace Go.Proofs.Ytahgkhcmchbpbaa
open Go.RowKit
set_option linter.unusedVariables false
set_option linter.unusedSimpArgs false

theorem ofInt_i64 (a : Nat) (ha : a < 9223372036854775808) : (BitVec.ofInt 64 (a : Int)).toNat = a := by
  rw [BitVec.ofInt_natCast, BitVec.toNat_ofNat]; exact Nat.mod_eq_of_lt (by omega)
theorem i64_or_nat (a b : Nat) (ha : a < 9223372036854775808) (hb : b < 9223372036854775808) : bits .or .i64 (a : Int) (b : Int) = ((a ||| b : Nat) : Int) := by
  have hx : a ||| b < 2 ^ 63 := Nat.or_lt_two_pow (by omega) (by omega)
  show IntKind.i64.wrap ((BitVec.ofInt 64 (a : Int) ||| BitVec.ofInt 64 (b : Int)).toNat : Int) = _
  rw [BitVec.toNat_or, ofInt_i64 a ha, ofInt_i64 b hb, IntKind.wrap_i64]
  omega
theorem pow128_9 : 128 ^ 9 = 9223372036854775808 := by decide

/-- One digit more. -/
theorem or_val {l : List UInt8} {k : Nat} {x : UInt8} (hx : l[k]? = some x) (hk : k < 9) : bits .or .i64 (val (l.take k) : Int) (wrap64 ((x.toNat : Int) % 128 * 2 ^ (7 * k))) = (val (l.take (k + 1)) : Int) := by
  have h1 := val_take_lt l (k + 1)
  have h2 := val_take_lt l k
  have h3 := val_take hx
  have h4 : 128 ^ (k + 1) ≤ 128 ^ 9 := pow128_le (by omega)
  rw [pow128_9] at h4
  have e1 : (x.toNat : Int) % 128 * 2 ^ (7 * k) = ((x.toNat % 128 * 2 ^ (7 * k) : Nat) : Int) := by
    rw [Int.natCast_mul, Int.natCast_pow]; rfl
  have e2 : x.toNat % 128 * 2 ^ (7 * k) = x.toNat % 128 * 128 ^ k := by rw [pow128]
  have h5 : x.toNat % 128 * 2 ^ (7 * k) < 9223372036854775808 := by rw [e2]; omega
  have e3 : wrap64 ((x.toNat % 128 * 2 ^ (7 * k) : Nat) : Int) = ((x.toNat % 128 * 2 ^ (7 * k) : Nat) : Int) := by
    rw [wrap64]; omega
  rw [e1, e3, i64_or_nat _ _ (by omega) h5, or_parts h2, h3]

theorem numErr_go9 {bs : List UInt8} (h : 9 ≤ goes bs) : numErr bs = 2 := by unfold numErr; rw [if_pos h]
theorem numErr_end {bs : List UInt8} (h : goes bs = bs.length) (h9 : bs.length < 9) : numErr bs = 3 := by unfold numErr; rw [if_neg (by omega), if_pos h]
theorem numErr_at {bs : List UInt8} {k : Nat} {x : UInt8} (hk : goes bs = k) (hx : bs[k]? = some x) (h9 : k < 9) : numErr bs = if x = 0 ∧ 0 < k then 2 else 0 := by
  have hl : k < bs.length := (List.getElem?_eq_some_iff.1 hx).1
  unfold numErr
  rw [hk, if_neg (by omega), if_neg (by omega), show bs.getD k 0 = x by rw [List.getD_eq_getElem?_getD, hx]; rfl]
theorem goes_more {bs : List UInt8} {k : Nat} {x : UInt8} (hk : k ≤ goes bs) (hx : bs[k]? = some x) (h : 128 ≤ x.toNat) : k + 1 ≤ goes bs := by
  rcases Nat.lt_or_ge k (goes bs) with hlt | hge
  · exact hlt
  · obtain rfl : k = goes bs := by omega
    have := goes_stops hx
    omega
theorem goes_here {bs : List UInt8} {k : Nat} {x : UInt8} (hk : k ≤ goes bs) (hx : bs[k]? = some x) (h : ¬ 128 ≤ x.toNat) : goes bs = k := by
  rcases Nat.lt_or_ge k (goes bs) with hlt | hge
  · exact absurd (goes_on hlt hx) h
  · omega
theorem numS_bad {bs : List UInt8} {e x : Nat} (h : numErr bs = x) (hx : x ≠ 0) : numS (bs, e) = (0, failS (bs, e) x) := by
  unfold numS; simp only; rw [if_neg (by rw [h]; exact hx), h]
theorem numS_good {bs : List UInt8} {e k : Nat} (h : numErr bs = 0) (hk : goes bs = k) : numS (bs, e) = (val (bs.take (k + 1)), (bs.drop (k + 1), e)) := by
  unfold numS; simp only; rw [if_pos h, hk]
theorem toNat_zero {x : UInt8} (h : x.toNat = 0) : x = 0 := UInt8.toNat_inj.1 h

set_option maxHeartbeats 3200000 in
theorem readNum_any (lo g : Nat) (s : St) (w : World) (h : Rd w lo g s) (hl : s.1.length ≤ 1000000) :
    Calls Try.prog 42 #[.pointer (some ⟨g, 0, none⟩)] w (RdPost w lo g (.int .i64 ((numS s).1 : Int)) (numS s).2) := by
  have H := Lib.hid h
  obtain ⟨⟨v, hh, hr⟩, ho⟩ := h
  obtain ⟨bs, e⟩ := s
  have c0 : w.cell? ⟨g, 0, none⟩ = some v := cell_at hh 0
  obtain ⟨A, c, rfl, _⟩ := hr.shape
  have HR := Lib.hid hr
  have HO := Lib.hid ho
  clear hh hr ho
  simp at c0 hl
  go_enter Try.func42, Try.ntmps42
  go_wp2_with fail
  · have hm : 9 < bs.length := by omega
    go_loop [3, 12] (fun n i => ∃ k : Nat, k ≤ 9 ∧ Hid (k ≤ goes bs) ∧ i = .int .i64 (k : Int) ∧ n = .int .i64 (val (bs.take k) : Int)) (fun _ i => 9 - (intOf i).toNat)
    case atStart => exact ⟨0, by omega, Lib.hid (Nat.zero_le _), rfl, rfl⟩
    case round =>
      obtain ⟨k, hk, Hkg, rfl, rfl⟩ := hrel
      by_cases hk9 : k < 9
      · obtain ⟨g2, off, c', hA, _, hc1, hc2, hcell⟩ := HR.out.addr (show 0 < bs.length by omega)
        injection hA with hA1 hA2 hA3
        subst hA1
        have hkb : k < bs.length := by omega
        obtain ⟨x, hx⟩ : ∃ x, bs[k]? = some x := ⟨_, List.getElem?_eq_getElem hkb⟩
        have he : e = 0 := by
          refine Decidable.byContradiction fun he => ?_
          have h0 : bs = [] := HO.out he
          rw [h0] at hkb
          cases hkb
        subst he
        have hc := hcell k x hx
        have hx2 : (x.toNat : Int) ≤ 255 := by have := x.toNat_lt; omega
        unfold bV at hc
        have Hx := Lib.hid hx
        have Hv := Lib.hid (or_val hx (show k < 9 by omega))
        clear hcell hx
        have q1 : decide ((k : Int) < 9) = true := by simp; omega
        by_cases hx1 : 128 ≤ x.toNat
        · have q2 : decide ((128 : Int) ≤ (x.toNat : Int)) = true := by simp; omega
          go_wp2_with fail
          refine ⟨⟨k + 1, by omega, Lib.hid (goes_more Hkg.out Hx.out hx1), by go_num, ?_⟩, ?_⟩
          · rw [Hv.out]
          · simp [intOf]; omega
        · have q2 : decide ((128 : Int) ≤ (x.toNat : Int)) = false := by simp; omega
          have Hg := Lib.hid (goes_here Hkg.out Hx.out hx1)
          have He := Lib.hid (numErr_at Hg.out Hx.out (show k < 9 by omega))
          by_cases hx0 : x.toNat = 0 ∧ 0 < k
          · have Hn := Lib.hid (numS_bad (e := 0) (x := 2) (show numErr bs = 2 by rw [He.out, if_pos ⟨toNat_zero hx0.1, hx0.2⟩]) (by decide))
            have q3 : ((x.toNat : Int) == 0) = true := by rw [beq_iff_eq]; omega
            have q4 : 0 < k := hx0.2
            clear hx0
            go_wp2_with fail
            refine (fail_any lo g (bs, 0) 2 _ H.out (by decide) (by decide)).mono ?_
            rintro e' w1 ⟨rfl, hr1, hg1⟩
            have HR1 := Lib.hid hr1
            have HG1 := Lib.hid hg1
            clear hr1 hg1
            go_wp2_with fail
            go_ret
            rw [Hn.out]
            exact ⟨rfl, HR1.out, HG1.out⟩
          · have Hn := Lib.hid (numS_good (e := 0) (show numErr bs = 0 by rw [He.out, if_neg (fun hh => hx0 ⟨by rw [hh.1]; rfl, hh.2⟩)]) Hg.out)
            have ht := take_any lo g (bs, 0) (k + 1) w H.out (show k + 1 ≤ bs.length by omega) hl rfl
            have HT := Lib.hid ht
            clear ht
            have q3 : (((x.toNat : Int) == 0) = true ∧ decide (0 < k) = false) ∨ ((x.toNat : Int) == 0) = false := by
              rw [beq_iff_eq, beq_eq_false_iff_ne, decide_eq_false_iff_not]
              omega
            clear hx0
            rcases q3 with ⟨q3, q4⟩ | q3
            · go_wp2_with fail
              refine HT.out.mono ?_
              rintro e' w1 ⟨⟨v1, rfl, hv1⟩, hr1, hg1⟩
              have HR1 := Lib.hid hr1
              have HG1 := Lib.hid hg1
              clear hr1 hg1 hv1
              go_wp2_with fail
              go_ret
              rw [Hn.out]
              refine ⟨?_, HR1.out, HG1.out⟩
              show Ending.returned (Value.int .i64 _) = _
              rw [Hv.out]
            · go_wp2_with fail
              refine HT.out.mono ?_
              rintro e' w1 ⟨⟨v1, rfl, hv1⟩, hr1, hg1⟩
              have HR1 := Lib.hid hr1
              have HG1 := Lib.hid hg1
              clear hr1 hg1 hv1
              go_wp2_with fail
              go_ret
              rw [Hn.out]
              refine ⟨?_, HR1.out, HG1.out⟩
              show Ending.returned (Value.int .i64 _) = _
              rw [Hv.out]
      · obtain rfl : k = 9 := by omega
        have q1 : decide ((9 : Int) < 9) = false := by simp
        have Hn := Lib.hid (numS_bad (e := e) (numErr_go9 Hkg.out) (by decide))
        have q2 : decide ((9 : Int) ≤ (bs.length : Int)) = true := by simp; omega
        go_wp2_with fail
        refine (fail_any lo g (bs, e) 2 _ H.out (by decide) (by decide)).mono ?_
        rintro e' w1 ⟨rfl, hr1, hg1⟩
        have HR1 := Lib.hid hr1
        have HG1 := Lib.hid hg1
        clear hr1 hg1
        go_wp2_with fail
        go_ret
        rw [Hn.out]
        exact ⟨rfl, HR1.out, HG1.out⟩
  · have hm : bs.length ≤ 9 := by omega
    go_loop [3, 12] (fun n i => ∃ k : Nat, k ≤ bs.length ∧ Hid (k ≤ goes bs) ∧ i = .int .i64 (k : Int) ∧ n = .int .i64 (val (bs.take k) : Int)) (fun _ i => bs.length - (intOf i).toNat)
    case atStart => exact ⟨0, by omega, Lib.hid (Nat.zero_le _), rfl, rfl⟩
    case round =>
      obtain ⟨k, hk, Hkg, rfl, rfl⟩ := hrel
      by_cases hk9 : k < bs.length
      · obtain ⟨g2, off, c', hA, _, hc1, hc2, hcell⟩ := HR.out.addr (show 0 < bs.length by omega)
        injection hA with hA1 hA2 hA3
        subst hA1
        have hkb : k < bs.length := by omega
        obtain ⟨x, hx⟩ : ∃ x, bs[k]? = some x := ⟨_, List.getElem?_eq_getElem hkb⟩
        have he : e = 0 := by
          refine Decidable.byContradiction fun he => ?_
          have h0 : bs = [] := HO.out he
          rw [h0] at hkb
          cases hkb
        subst he
        have hc := hcell k x hx
        have hx2 : (x.toNat : Int) ≤ 255 := by have := x.toNat_lt; omega
        unfold bV at hc
        have Hx := Lib.hid hx
        have Hv := Lib.hid (or_val hx (show k < 9 by omega))
        clear hcell hx
        have q1 : decide ((k : Int) < (bs.length : Int)) = true := by simp; omega
        by_cases hx1 : 128 ≤ x.toNat
        · have q2 : decide ((128 : Int) ≤ (x.toNat : Int)) = true := by simp; omega
          go_wp2_with fail
          refine ⟨⟨k + 1, by omega, Lib.hid (goes_more Hkg.out Hx.out hx1), by go_num, ?_⟩, ?_⟩
          · rw [Hv.out]
          · simp [intOf]; omega
        · have q2 : decide ((128 : Int) ≤ (x.toNat : Int)) = false := by simp; omega
          have Hg := Lib.hid (goes_here Hkg.out Hx.out hx1)
          have He := Lib.hid (numErr_at Hg.out Hx.out (show k < 9 by omega))
          by_cases hx0 : x.toNat = 0 ∧ 0 < k
          · have Hn := Lib.hid (numS_bad (e := 0) (x := 2) (show numErr bs = 2 by rw [He.out, if_pos ⟨toNat_zero hx0.1, hx0.2⟩]) (by decide))
            have q3 : ((x.toNat : Int) == 0) = true := by rw [beq_iff_eq]; omega
            have q4 : 0 < k := hx0.2
            clear hx0
            go_wp2_with fail
            refine (fail_any lo g (bs, 0) 2 _ H.out (by decide) (by decide)).mono ?_
            rintro e' w1 ⟨rfl, hr1, hg1⟩
            have HR1 := Lib.hid hr1
            have HG1 := Lib.hid hg1
            clear hr1 hg1
            go_wp2_with fail
            go_ret
            rw [Hn.out]
            exact ⟨rfl, HR1.out, HG1.out⟩
          · have Hn := Lib.hid (numS_good (e := 0) (show numErr bs = 0 by rw [He.out, if_neg (fun hh => hx0 ⟨by rw [hh.1]; rfl, hh.2⟩)]) Hg.out)
            have ht := take_any lo g (bs, 0) (k + 1) w H.out (show k + 1 ≤ bs.length by omega) hl rfl
            have HT := Lib.hid ht
            clear ht
            have q3 : (((x.toNat : Int) == 0) = true ∧ decide (0 < k) = false) ∨ ((x.toNat : Int) == 0) = false := by
              rw [beq_iff_eq, beq_eq_false_iff_ne, decide_eq_false_iff_not]
              omega
            clear hx0
            rcases q3 with ⟨q3, q4⟩ | q3
            · go_wp2_with fail
              refine HT.out.mono ?_
              rintro e' w1 ⟨⟨v1, rfl, hv1⟩, hr1, hg1⟩
              have HR1 := Lib.hid hr1
              have HG1 := Lib.hid hg1
              clear hr1 hg1 hv1
              go_wp2_with fail
              go_ret
              rw [Hn.out]
              refine ⟨?_, HR1.out, HG1.out⟩
              show Ending.returned (Value.int .i64 _) = _
              rw [Hv.out]
            · go_wp2_with fail
              refine HT.out.mono ?_
              rintro e' w1 ⟨⟨v1, rfl, hv1⟩, hr1, hg1⟩
              have HR1 := Lib.hid hr1
              have HG1 := Lib.hid hg1
              clear hr1 hg1 hv1
              go_wp2_with fail
              go_ret
              rw [Hn.out]
              refine ⟨?_, HR1.out, HG1.out⟩
              show Ending.returned (Value.int .i64 _) = _
              rw [Hv.out]
      · obtain rfl : k = bs.length := by omega
        have q1 : decide (((bs.length : Int) : Int) < (bs.length : Int)) = false := by simp
        have hgl := goes_le bs
        by_cases h9 : bs.length = 9
        · have Hn := Lib.hid (numS_bad (e := e) (numErr_go9 (show 9 ≤ goes bs by have := Hkg.out; omega)) (by decide))
          have q2 : decide ((9 : Int) ≤ (bs.length : Int)) = true := by simp; omega
          clear hgl
          go_wp2_with fail
          refine (fail_any lo g (bs, e) 2 _ H.out (by decide) (by decide)).mono ?_
          rintro e' w1 ⟨rfl, hr1, hg1⟩
          have HR1 := Lib.hid hr1
          have HG1 := Lib.hid hg1
          clear hr1 hg1
          go_wp2_with fail
          go_ret
          rw [Hn.out]
          exact ⟨rfl, HR1.out, HG1.out⟩
        · have Hn := Lib.hid (numS_bad (e := e) (numErr_end (show goes bs = bs.length by have := Hkg.out; omega) (by omega)) (by decide))
          have q2 : decide ((9 : Int) ≤ (bs.length : Int)) = false := by simp; omega
          clear hgl
          go_wp2_with fail
          refine (fail_any lo g (bs, e) 3 _ H.out (by decide) (by decide)).mono ?_
          rintro e' w1 ⟨rfl, hr1, hg1⟩
          have HR1 := Lib.hid hr1
          have HG1 := Lib.hid hg1
          clear hr1 hg1
          go_wp2_with fail
          go_ret
          rw [Hn.out]
          exact ⟨rfl, HR1.out, HG1.out⟩
end Go.Proofs.Ytahgkhcmchbpbaa
