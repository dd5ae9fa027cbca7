/-
  Package lay's reader.
-/
import Derived.Test.YtnabbebkmafakaaMB
import Derived.Laws.BitsAllLaws
import Derived.Laws.BitsLemmas
namespace Go.Proofs.Ytnabbebkmafakaa
set_option maxRecDepth 20000
open Go.RowKit
set_option linter.unusedVariables false
set_option linter.unusedSimpArgs false

theorem cell_at {w : World} {g : Nat} {cs : Array Value} {t : TypeId} (h : w.heap[g]? = some (.cells cs t (0, 0))) (i : Nat) : w.cell? ⟨g, i, none⟩ = cs[i]? := cell_of_row w g i cs t (0, 0) h
theorem free_at {w : World} {g : Nat} {cs : Array Value} {t : TypeId} (h : w.heap[g]? = some (.cells cs t (0, 0))) (i : Nat) : w.frozen? ⟨g, i, none⟩ = false := by simp [World.frozen?, h]
theorem heap_set {w : World} {g : Nat} {cs : Array Value} {t : TypeId} (h : w.heap[g]? = some (.cells cs t (0, 0))) (i : Nat) (u : Value) : (w.setCell ⟨g, i, none⟩ u).heap[g]? = some (.cells (cs.setIfInBounds i u) t (0, 0)) := by
  simp [World.setCell, Array.getElem?_modify, h]
theorem grown_set (w : World) (g i : Nat) (u : Value) : w.grownBy (w.setCell ⟨g, i, none⟩ u) (some g) :=
  ⟨rfl, rfl, rfl, by simp [World.setCell], fun k hk hne => Below.heap_setCell w _ u k (fun e => hne (by rw [e]))⟩
theorem grown_trans {a b c : World} {g : Nat} (h : a.grownBy b (some g)) (k : b.grownBy c (some g)) : a.grownBy c (some g) :=
  ⟨k.os.trans h.os, k.tape.trans h.tape, k.output.trans h.output, Nat.le_trans h.size k.size, fun i hi hne => (k.block i (Nat.lt_of_lt_of_le hi h.size) hne).trans (h.block i hi hne)⟩
theorem grown_refl (w : World) (g : Nat) : w.grownBy w (some g) := ⟨rfl, rfl, rfl, Nat.le_refl _, fun _ _ _ => rfl⟩
theorem grown_below {a b : World} (h : Below a.heap.size a b) (g : Nat) : a.grownBy b (some g) := ⟨h.os, h.tape, h.output, h.size, fun i hi _ => h.block i hi⟩
theorem grown_drew {a b : World} {g : Nat} (h : a.grownBy b (some g)) (n : Nat) : a.grownBy (b.drewN n) (some g) := ⟨h.os, h.tape, h.output, h.size, h.block⟩

/-- The rest of a row, and its head. -/
theorem Row.tail {w : World} {lo g off c n : Nat} {bs : List UInt8} (h : Row w lo (.slice (some ⟨g, off, none⟩) bs.length c) bs) (hn : n ≤ bs.length) :
    Row w lo (.slice (if c = n then some ⟨g, off, none⟩ else some ⟨g, off + n, none⟩) (bs.length - n) (c - n)) (bs.drop n) := by
  rcases h with ⟨h, _⟩ | ⟨g', off', c', cur, hv, hg, hh, h1, h2, h3⟩
  · cases h
  · injection hv with ha hb hc
    injection ha with ha
    injection ha with e1 e2 _
    subst e1 e2 hc
    have hl : (bs.drop n).length = bs.length - n := List.length_drop
    split
    · rename_i hc
      have h0 : bs.drop n = [] := by rw [List.drop_eq_nil_iff]; omega
      exact .inr ⟨g, off, c - n, cur, by rw [hl], hg, hh, by omega, by omega, by simp [h0, bVs]⟩
    · refine .inr ⟨g, off + n, c - n, cur, by rw [hl], hg, hh, by omega, by omega, ?_⟩
      rw [hl]
      have := congrArg (List.drop n) h3
      rw [List.drop_take, List.drop_drop] at this
      rw [this]
      simp [bVs]
theorem Row.head {w : World} {lo g off c n : Nat} {bs : List UInt8} (h : Row w lo (.slice (some ⟨g, off, none⟩) bs.length c) bs) (hn : n ≤ bs.length) :
    Row w lo (.slice (some ⟨g, off, none⟩) n c) (bs.take n) := by
  rcases h with ⟨h, _⟩ | ⟨g', off', c', cur, hv, hg, hh, h1, h2, h3⟩
  · cases h
  · injection hv with ha hb hc
    injection ha with ha
    injection ha with e1 e2 _
    subst e1 e2 hc
    have hl : (bs.take n).length = n := by rw [List.length_take]; omega
    refine .inr ⟨g, off, c, cur, by rw [hl], hg, hh, by omega, h2, ?_⟩
    rw [hl]
    have := congrArg (List.take n) h3
    rw [List.take_take, Nat.min_eq_left hn] at this
    rw [this]
    simp [bVs]

theorem Row.set {w : World} {lo g i : Nat} {v : Value} {bs : List UInt8} {cs : Array Value} {t : TypeId} (h : Row w lo v bs) (hh : w.heap[g]? = some (.cells cs t (0, 0))) (ht : t ≠ 5) (u : Value) : Row (w.setCell ⟨g, i, none⟩ u) lo v bs :=
  h.grown (grown_set w g i u) (fun cur hc => by rw [hh] at hc; injection hc with hc; injection hc with _ hc; exact ht hc)

def RdPost (w : World) (lo g : Nat) (r : Value) (s : St) (e : Ending) (w' : World) : Prop := e = .returned r ∧ Rd w' lo g s ∧ w.grownBy w' (some g)

set_option maxHeartbeats 800000 in
theorem fail_any (lo g : Nat) (s : St) (x : Nat) (w : World) (h : Rd w lo g s) (hx : x ≠ 0) (hx2 : x ≤ 9) :
    Calls Try.prog 80 #[.pointer (some ⟨g, 0, none⟩), .int .i64 (x : Int)] w (RdPost w lo g (.tuple #[]) (failS s x)) := by
  have H := Lib.hid h
  obtain ⟨⟨v, hh, hr⟩, ho⟩ := h
  obtain ⟨bs, e⟩ := s
  have c0 : w.cell? ⟨g, 0, none⟩ = some v := cell_at hh 0
  have c1 : w.cell? ⟨g, 1, none⟩ = some (.int .i64 (e : Int)) := cell_at hh 1
  have f0 : w.frozen? ⟨g, 0, none⟩ = false := free_at hh 0
  have f1 : w.frozen? ⟨g, 1, none⟩ = false := free_at hh 1
  obtain ⟨A, c, rfl, _⟩ := hr.shape
  have Hh := Lib.hid hh
  clear hh hr ho
  by_cases he : e = 0
  · subst he
    go_enter Try.func80, Try.ntmps80
    go_wp2
    go_end0
    refine ⟨rfl, ⟨⟨.slice none 0 0, ?_, ?_⟩, ?_⟩, grown_trans (grown_set w g 1 _) (grown_set _ g 0 _)⟩
    · rw [heap_set (heap_set Hh.out 1 _) 0]; rfl
    · exact Row.nil _ _
    · exact fun _ => rfl
  · have q : ((e : Int) == 0) = false := by rw [beq_eq_false_iff_ne]; omega
    go_enter Try.func80, Try.ntmps80
    go_wp2
    go_end0
    refine ⟨rfl, ?_, grown_refl _ _⟩
    rw [show failS (bs, e) x = (bs, e) by simp [failS, he]]
    exact H.out

set_option maxHeartbeats 800000 in
theorem take_any (lo g : Nat) (s : St) (n : Nat) (w : World) (h : Rd w lo g s) (hn : n ≤ s.1.length) (hl : s.1.length ≤ 1000000) (he : s.2 = 0) :
    Calls Try.prog 81 #[.pointer (some ⟨g, 0, none⟩), .int .i64 (n : Int)] w fun e w' => (∃ v, e = .returned v ∧ Row w' lo v (s.1.take n)) ∧ Rd w' lo g (s.1.drop n, 0) ∧ w.grownBy w' (some g) := by
  obtain ⟨⟨v, hh, hr⟩, ho⟩ := h
  obtain ⟨bs, e⟩ := s
  obtain rfl : e = 0 := he
  have c0 : w.cell? ⟨g, 0, none⟩ = some v := cell_at hh 0
  have f0 : w.frozen? ⟨g, 0, none⟩ = false := free_at hh 0
  have hr' := hr
  simp at hn hl
  rcases hr with ⟨rfl, hb⟩ | ⟨g2, off, c, cur, rfl, hg, hh2, h1, h2, h3⟩
  · simp at hb
    subst hb
    obtain rfl : n = 0 := by simpa using hn
    have Hh := Lib.hid hh
    clear hh ho hr'
    go_enter Try.func81, Try.ntmps81
    go_wp2
    go_ret
    refine ⟨⟨_, rfl, Row.nil _ _⟩, ⟨⟨.slice none 0 0, ?_, Row.nil _ _⟩, fun he => absurd rfl he⟩, grown_set _ _ _ _⟩
    rw [heap_set Hh.out 0]; rfl
  · have Hh := Lib.hid hh
    have HT := Lib.hid (hr'.tail (n := n) hn)
    have HH := Lib.hid (hr'.head (n := n) hn)
    clear hh ho hr' hh2 h3
    unfold maxLen at h2
    simp at h1 c0
    by_cases hcn : c = n
    · subst hcn
      rw [if_pos rfl] at HT
      go_enter Try.func81, Try.ntmps81
      go_wp2
      go_ret
      refine ⟨⟨_, rfl, HH.out.set Hh.out (by decide) _⟩, ⟨⟨_, ?_, HT.out.set Hh.out (by decide) _⟩, fun he => absurd rfl he⟩, grown_set _ _ _ _⟩
      rw [heap_set Hh.out 0]
      first | rfl | (simp; omega)
    · rw [if_neg hcn] at HT
      go_enter Try.func81, Try.ntmps81
      go_wp2
      go_ret
      refine ⟨⟨_, rfl, HH.out.set Hh.out (by decide) _⟩, ⟨⟨_, ?_, HT.out.set Hh.out (by decide) _⟩, fun he => absurd rfl he⟩, grown_set _ _ _ _⟩
      rw [heap_set Hh.out 0]
      first | rfl | (simp; omega)

theorem left_any (lo g : Nat) (s : St) (w : World) (h : Rd w lo g s) (hl : s.1.length ≤ 1000000) :
    Calls Try.prog 82 #[.pointer (some ⟨g, 0, none⟩)] w fun e w' => e = .returned (.int .i64 (s.1.length : Int)) ∧ w = w' := by
  obtain ⟨⟨v, hh, hr⟩, ho⟩ := h
  have c0 : w.cell? ⟨g, 0, none⟩ = some v := cell_at hh 0
  obtain ⟨A, c, rfl, _⟩ := hr.shape
  clear hh hr ho
  go_enter Try.func82, Try.ntmps82
  go_wp2
  go_ret
  exact ⟨rfl, rfl⟩


set_option maxHeartbeats 800000 in
theorem end_any (lo g : Nat) (s : St) (w : World) (h : Rd w lo g s) (hl : s.1.length ≤ 1000000) :
    Calls Try.prog 63 #[.pointer (some ⟨g, 0, none⟩)] w fun e w' => e = .returned (.int .i64 (endS s : Int)) ∧ w = w' := by
  obtain ⟨⟨v, hh, hr⟩, ho⟩ := h
  obtain ⟨bs, e⟩ := s
  have c0 : w.cell? ⟨g, 0, none⟩ = some v := cell_at hh 0
  have c1 : w.cell? ⟨g, 1, none⟩ = some (.int .i64 (e : Int)) := cell_at hh 1
  obtain ⟨A, c, rfl, _⟩ := hr.shape
  clear hh hr ho
  simp at c0 hl
  by_cases he : e = 0
  · subst he
    by_cases hb : 0 < bs.length
    · have Hn := Lib.hid (show endS (bs, 0) = 2 by simp [endS, hb])
      have q : decide ((0 : Int) < (bs.length : Int)) = true := by simp; omega
      go_enter Try.func63, Try.ntmps63
      go_wp2
      go_ret
      rw [Hn.out]
      exact ⟨rfl, rfl⟩
    · have Hn := Lib.hid (show endS (bs, 0) = 0 by simp only [endS]; rw [if_neg (fun h => hb h.2)])
      have q : decide ((0 : Int) < (bs.length : Int)) = false := decide_eq_false (by omega)
      go_enter Try.func63, Try.ntmps63
      go_wp2
      go_ret
      rw [Hn.out]
      exact ⟨rfl, rfl⟩
  · have Hn := Lib.hid (show endS (bs, e) = e by simp [endS, he])
    have q : ((e : Int) == 0) = false := by rw [beq_eq_false_iff_ne]; omega
    go_enter Try.func63, Try.ntmps63
    go_wp2
    go_ret
    rw [Hn.out]
    exact ⟨rfl, rfl⟩
end Go.Proofs.Ytnabbebkmafakaa

namespace Go.Proofs.Ytnabbebkmafakaa
set_option maxRecDepth 20000
open Go.RowKit
set_option linter.unusedVariables false
set_option linter.unusedSimpArgs false

theorem ofInt_i64 (a : Nat) (ha : a < 9223372036854775808) : (BitVec.ofInt 64 (a : Int)).toNat = a := by
  rw [BitVec.ofInt_natCast, BitVec.toNat_ofNat]; exact Nat.mod_eq_of_lt (by omega)
theorem i64_or_nat (a b : Nat) (ha : a < 9223372036854775808) (hb : b < 9223372036854775808) : bits .or .i64 (a : Int) (b : Int) = ((a ||| b : Nat) : Int) := by
  have hx : a ||| b < 2 ^ 63 := Nat.or_lt_two_pow (by omega) (by omega)
  show IntKind.i64.wrap ((BitVec.ofInt 64 (a : Int) ||| BitVec.ofInt 64 (b : Int)).toNat : Int) = _
  rw [BitVec.toNat_or, ofInt_i64 a ha, ofInt_i64 b hb, IntKind.wrap_i64]
  omega
theorem pow128_9 : 128 ^ 9 = 9223372036854775808 := by decide

/-- One digit more. -/
theorem or_val {l : List UInt8} {k : Nat} {x : UInt8} (hx : l[k]? = some x) (hk : k < 9) : bits .or .i64 (val (l.take k) : Int) (wrap64 ((x.toNat : Int) % 128 * 2 ^ (7 * k))) = (val (l.take (k + 1)) : Int) := by
  have h1 := val_take_lt l (k + 1)
  have h2 := val_take_lt l k
  have h3 := val_take hx
  have h4 : 128 ^ (k + 1) ≤ 128 ^ 9 := pow128_le (by omega)
  rw [pow128_9] at h4
  have e1 : (x.toNat : Int) % 128 * 2 ^ (7 * k) = ((x.toNat % 128 * 2 ^ (7 * k) : Nat) : Int) := by
    rw [Int.natCast_mul, Int.natCast_pow]; rfl
  have e2 : x.toNat % 128 * 2 ^ (7 * k) = x.toNat % 128 * 128 ^ k := by rw [pow128]
  have h5 : x.toNat % 128 * 2 ^ (7 * k) < 9223372036854775808 := by rw [e2]; omega
  have e3 : wrap64 ((x.toNat % 128 * 2 ^ (7 * k) : Nat) : Int) = ((x.toNat % 128 * 2 ^ (7 * k) : Nat) : Int) := by
    rw [wrap64]; omega
  rw [e1, e3, i64_or_nat _ _ (by omega) h5, or_parts h2, h3]

theorem numErr_go9 {bs : List UInt8} (h : 9 ≤ goes bs) : numErr bs = 2 := by unfold numErr; rw [if_pos h]
theorem numErr_end {bs : List UInt8} (h : goes bs = bs.length) (h9 : bs.length < 9) : numErr bs = 3 := by unfold numErr; rw [if_neg (by omega), if_pos h]
theorem numErr_at {bs : List UInt8} {k : Nat} {x : UInt8} (hk : goes bs = k) (hx : bs[k]? = some x) (h9 : k < 9) : numErr bs = if x = 0 ∧ 0 < k then 2 else 0 := by
  have hl : k < bs.length := (List.getElem?_eq_some_iff.1 hx).1
  unfold numErr
  rw [hk, if_neg (by omega), if_neg (by omega), show bs.getD k 0 = x by rw [List.getD_eq_getElem?_getD, hx]; rfl]
theorem goes_more {bs : List UInt8} {k : Nat} {x : UInt8} (hk : k ≤ goes bs) (hx : bs[k]? = some x) (h : 128 ≤ x.toNat) : k + 1 ≤ goes bs := by
  rcases Nat.lt_or_ge k (goes bs) with hlt | hge
  · exact hlt
  · obtain rfl : k = goes bs := by omega
    have := goes_stops hx
    omega
theorem goes_here {bs : List UInt8} {k : Nat} {x : UInt8} (hk : k ≤ goes bs) (hx : bs[k]? = some x) (h : ¬ 128 ≤ x.toNat) : goes bs = k := by
  rcases Nat.lt_or_ge k (goes bs) with hlt | hge
  · exact absurd (goes_on hlt hx) h
  · omega
theorem numS_bad {bs : List UInt8} {e x : Nat} (h : numErr bs = x) (hx : x ≠ 0) : numS (bs, e) = (0, failS (bs, e) x) := by
  unfold numS; simp only; rw [if_neg (by rw [h]; exact hx), h]
theorem numS_good {bs : List UInt8} {e k : Nat} (h : numErr bs = 0) (hk : goes bs = k) : numS (bs, e) = (val (bs.take (k + 1)), (bs.drop (k + 1), e)) := by
  unfold numS; simp only; rw [if_pos h, hk]
theorem toNat_zero {x : UInt8} (h : x.toNat = 0) : x = 0 := UInt8.toNat_inj.1 h

set_option maxHeartbeats 3200000 in
theorem readNum_any (lo g : Nat) (s : St) (w : World) (h : Rd w lo g s) (hl : s.1.length ≤ 1000000) :
    Calls Try.prog 60 #[.pointer (some ⟨g, 0, none⟩)] w (RdPost w lo g (.int .i64 ((numS s).1 : Int)) (numS s).2) := by
  have H := Lib.hid h
  obtain ⟨⟨v, hh, hr⟩, ho⟩ := h
  obtain ⟨bs, e⟩ := s
  have c0 : w.cell? ⟨g, 0, none⟩ = some v := cell_at hh 0
  obtain ⟨A, c, rfl, _⟩ := hr.shape
  have HR := Lib.hid hr
  have HO := Lib.hid ho
  clear hh hr ho
  simp at c0 hl
  go_enter Try.func60, Try.ntmps60
  go_wp2_with fail
  · have hm : 9 < bs.length := by omega
    go_loop [3, 12] (fun n i => ∃ k : Nat, k ≤ 9 ∧ Hid (k ≤ goes bs) ∧ i = .int .i64 (k : Int) ∧ n = .int .i64 (val (bs.take k) : Int)) (fun _ i => 9 - (intOf i).toNat)
    case atStart => exact ⟨0, by omega, Lib.hid (Nat.zero_le _), rfl, rfl⟩
    case round =>
      obtain ⟨k, hk, Hkg, rfl, rfl⟩ := hrel
      by_cases hk9 : k < 9
      · obtain ⟨g2, off, c', hA, _, hc1, hc2, hcell⟩ := HR.out.addr (show 0 < bs.length by omega)
        injection hA with hA1 hA2 hA3
        subst hA1
        have hkb : k < bs.length := by omega
        obtain ⟨x, hx⟩ : ∃ x, bs[k]? = some x := ⟨_, List.getElem?_eq_getElem hkb⟩
        have he : e = 0 := by
          refine Decidable.byContradiction fun he => ?_
          have h0 : bs = [] := HO.out he
          rw [h0] at hkb
          cases hkb
        subst he
        have hc := hcell k x hx
        have hx2 : (x.toNat : Int) ≤ 255 := by have := x.toNat_lt; omega
        unfold bV at hc
        have Hx := Lib.hid hx
        have Hv := Lib.hid (or_val hx (show k < 9 by omega))
        clear hcell hx
        have q1 : decide ((k : Int) < 9) = true := by simp; omega
        by_cases hx1 : 128 ≤ x.toNat
        · have q2 : decide ((128 : Int) ≤ (x.toNat : Int)) = true := by simp; omega
          go_wp2_with fail
          refine ⟨⟨k + 1, by omega, Lib.hid (goes_more Hkg.out Hx.out hx1), by go_num, ?_⟩, ?_⟩
          · rw [Hv.out]
          · simp [intOf]; omega
        · have q2 : decide ((128 : Int) ≤ (x.toNat : Int)) = false := by simp; omega
          have Hg := Lib.hid (goes_here Hkg.out Hx.out hx1)
          have He := Lib.hid (numErr_at Hg.out Hx.out (show k < 9 by omega))
          by_cases hx0 : x.toNat = 0 ∧ 0 < k
          · have Hn := Lib.hid (numS_bad (e := 0) (x := 2) (show numErr bs = 2 by rw [He.out, if_pos ⟨toNat_zero hx0.1, hx0.2⟩]) (by decide))
            have q3 : ((x.toNat : Int) == 0) = true := by rw [beq_iff_eq]; omega
            have q4 : 0 < k := hx0.2
            clear hx0
            go_wp2_with fail
            refine (fail_any lo g (bs, 0) 2 _ H.out (by decide) (by decide)).mono ?_
            rintro e' w1 ⟨rfl, hr1, hg1⟩
            have HR1 := Lib.hid hr1
            have HG1 := Lib.hid hg1
            clear hr1 hg1
            go_wp2_with fail
            go_ret
            rw [Hn.out]
            exact ⟨rfl, HR1.out, HG1.out⟩
          · have Hn := Lib.hid (numS_good (e := 0) (show numErr bs = 0 by rw [He.out, if_neg (fun hh => hx0 ⟨by rw [hh.1]; rfl, hh.2⟩)]) Hg.out)
            have ht := take_any lo g (bs, 0) (k + 1) w H.out (show k + 1 ≤ bs.length by omega) hl rfl
            have HT := Lib.hid ht
            clear ht
            have q3 : (((x.toNat : Int) == 0) = true ∧ decide (0 < k) = false) ∨ ((x.toNat : Int) == 0) = false := by
              rw [beq_iff_eq, beq_eq_false_iff_ne, decide_eq_false_iff_not]
              omega
            clear hx0
            rcases q3 with ⟨q3, q4⟩ | q3
            · go_wp2_with fail
              refine HT.out.mono ?_
              rintro e' w1 ⟨⟨v1, rfl, hv1⟩, hr1, hg1⟩
              have HR1 := Lib.hid hr1
              have HG1 := Lib.hid hg1
              clear hr1 hg1 hv1
              go_wp2_with fail
              go_ret
              rw [Hn.out]
              refine ⟨?_, HR1.out, HG1.out⟩
              show Ending.returned (Value.int .i64 _) = _
              rw [Hv.out]
            · go_wp2_with fail
              refine HT.out.mono ?_
              rintro e' w1 ⟨⟨v1, rfl, hv1⟩, hr1, hg1⟩
              have HR1 := Lib.hid hr1
              have HG1 := Lib.hid hg1
              clear hr1 hg1 hv1
              go_wp2_with fail
              go_ret
              rw [Hn.out]
              refine ⟨?_, HR1.out, HG1.out⟩
              show Ending.returned (Value.int .i64 _) = _
              rw [Hv.out]
      · obtain rfl : k = 9 := by omega
        have q1 : decide ((9 : Int) < 9) = false := by simp
        have Hn := Lib.hid (numS_bad (e := e) (numErr_go9 Hkg.out) (by decide))
        have q2 : decide ((9 : Int) ≤ (bs.length : Int)) = true := by simp; omega
        go_wp2_with fail
        refine (fail_any lo g (bs, e) 2 _ H.out (by decide) (by decide)).mono ?_
        rintro e' w1 ⟨rfl, hr1, hg1⟩
        have HR1 := Lib.hid hr1
        have HG1 := Lib.hid hg1
        clear hr1 hg1
        go_wp2_with fail
        go_ret
        rw [Hn.out]
        exact ⟨rfl, HR1.out, HG1.out⟩
  · have hm : bs.length ≤ 9 := by omega
    go_loop [3, 12] (fun n i => ∃ k : Nat, k ≤ bs.length ∧ Hid (k ≤ goes bs) ∧ i = .int .i64 (k : Int) ∧ n = .int .i64 (val (bs.take k) : Int)) (fun _ i => bs.length - (intOf i).toNat)
    case atStart => exact ⟨0, by omega, Lib.hid (Nat.zero_le _), rfl, rfl⟩
    case round =>
      obtain ⟨k, hk, Hkg, rfl, rfl⟩ := hrel
      by_cases hk9 : k < bs.length
      · obtain ⟨g2, off, c', hA, _, hc1, hc2, hcell⟩ := HR.out.addr (show 0 < bs.length by omega)
        injection hA with hA1 hA2 hA3
        subst hA1
        have hkb : k < bs.length := by omega
        obtain ⟨x, hx⟩ : ∃ x, bs[k]? = some x := ⟨_, List.getElem?_eq_getElem hkb⟩
        have he : e = 0 := by
          refine Decidable.byContradiction fun he => ?_
          have h0 : bs = [] := HO.out he
          rw [h0] at hkb
          cases hkb
        subst he
        have hc := hcell k x hx
        have hx2 : (x.toNat : Int) ≤ 255 := by have := x.toNat_lt; omega
        unfold bV at hc
        have Hx := Lib.hid hx
        have Hv := Lib.hid (or_val hx (show k < 9 by omega))
        clear hcell hx
        have q1 : decide ((k : Int) < (bs.length : Int)) = true := by simp; omega
        by_cases hx1 : 128 ≤ x.toNat
        · have q2 : decide ((128 : Int) ≤ (x.toNat : Int)) = true := by simp; omega
          go_wp2_with fail
          refine ⟨⟨k + 1, by omega, Lib.hid (goes_more Hkg.out Hx.out hx1), by go_num, ?_⟩, ?_⟩
          · rw [Hv.out]
          · simp [intOf]; omega
        · have q2 : decide ((128 : Int) ≤ (x.toNat : Int)) = false := by simp; omega
          have Hg := Lib.hid (goes_here Hkg.out Hx.out hx1)
          have He := Lib.hid (numErr_at Hg.out Hx.out (show k < 9 by omega))
          by_cases hx0 : x.toNat = 0 ∧ 0 < k
          · have Hn := Lib.hid (numS_bad (e := 0) (x := 2) (show numErr bs = 2 by rw [He.out, if_pos ⟨toNat_zero hx0.1, hx0.2⟩]) (by decide))
            have q3 : ((x.toNat : Int) == 0) = true := by rw [beq_iff_eq]; omega
            have q4 : 0 < k := hx0.2
            clear hx0
            go_wp2_with fail
            refine (fail_any lo g (bs, 0) 2 _ H.out (by decide) (by decide)).mono ?_
            rintro e' w1 ⟨rfl, hr1, hg1⟩
            have HR1 := Lib.hid hr1
            have HG1 := Lib.hid hg1
            clear hr1 hg1
            go_wp2_with fail
            go_ret
            rw [Hn.out]
            exact ⟨rfl, HR1.out, HG1.out⟩
          · have Hn := Lib.hid (numS_good (e := 0) (show numErr bs = 0 by rw [He.out, if_neg (fun hh => hx0 ⟨by rw [hh.1]; rfl, hh.2⟩)]) Hg.out)
            have ht := take_any lo g (bs, 0) (k + 1) w H.out (show k + 1 ≤ bs.length by omega) hl rfl
            have HT := Lib.hid ht
            clear ht
            have q3 : (((x.toNat : Int) == 0) = true ∧ decide (0 < k) = false) ∨ ((x.toNat : Int) == 0) = false := by
              rw [beq_iff_eq, beq_eq_false_iff_ne, decide_eq_false_iff_not]
              omega
            clear hx0
            rcases q3 with ⟨q3, q4⟩ | q3
            · go_wp2_with fail
              refine HT.out.mono ?_
              rintro e' w1 ⟨⟨v1, rfl, hv1⟩, hr1, hg1⟩
              have HR1 := Lib.hid hr1
              have HG1 := Lib.hid hg1
              clear hr1 hg1 hv1
              go_wp2_with fail
              go_ret
              rw [Hn.out]
              refine ⟨?_, HR1.out, HG1.out⟩
              show Ending.returned (Value.int .i64 _) = _
              rw [Hv.out]
            · go_wp2_with fail
              refine HT.out.mono ?_
              rintro e' w1 ⟨⟨v1, rfl, hv1⟩, hr1, hg1⟩
              have HR1 := Lib.hid hr1
              have HG1 := Lib.hid hg1
              clear hr1 hg1 hv1
              go_wp2_with fail
              go_ret
              rw [Hn.out]
              refine ⟨?_, HR1.out, HG1.out⟩
              show Ending.returned (Value.int .i64 _) = _
              rw [Hv.out]
      · obtain rfl : k = bs.length := by omega
        have q1 : decide (((bs.length : Int) : Int) < (bs.length : Int)) = false := by simp
        have hgl := goes_le bs
        by_cases h9 : bs.length = 9
        · have Hn := Lib.hid (numS_bad (e := e) (numErr_go9 (show 9 ≤ goes bs by have := Hkg.out; omega)) (by decide))
          have q2 : decide ((9 : Int) ≤ (bs.length : Int)) = true := by simp; omega
          clear hgl
          go_wp2_with fail
          refine (fail_any lo g (bs, e) 2 _ H.out (by decide) (by decide)).mono ?_
          rintro e' w1 ⟨rfl, hr1, hg1⟩
          have HR1 := Lib.hid hr1
          have HG1 := Lib.hid hg1
          clear hr1 hg1
          go_wp2_with fail
          go_ret
          rw [Hn.out]
          exact ⟨rfl, HR1.out, HG1.out⟩
        · have Hn := Lib.hid (numS_bad (e := e) (numErr_end (show goes bs = bs.length by have := Hkg.out; omega) (by omega)) (by decide))
          have q2 : decide ((9 : Int) ≤ (bs.length : Int)) = false := by simp; omega
          clear hgl
          go_wp2_with fail
          refine (fail_any lo g (bs, e) 3 _ H.out (by decide) (by decide)).mono ?_
          rintro e' w1 ⟨rfl, hr1, hg1⟩
          have HR1 := Lib.hid hr1
          have HG1 := Lib.hid hg1
          clear hr1 hg1
          go_wp2_with fail
          go_ret
          rw [Hn.out]
          exact ⟨rfl, HR1.out, HG1.out⟩
end Go.Proofs.Ytnabbebkmafakaa

namespace Go.Proofs.Ytnabbebkmafakaa
set_option maxRecDepth 20000
open Go.RowKit
set_option linter.unusedVariables false
set_option linter.unusedSimpArgs false

theorem Rd.len {w : World} {lo g : Nat} {s : St} (h : Rd w lo g s) (x : Nat) : (failS s x).1.length ≤ s.1.length := by
  unfold failS
  split
  · exact Nat.zero_le _
  · exact Nat.le_refl _
theorem numS_len (s : St) : (numS s).2.1.length ≤ s.1.length := by
  unfold numS
  split
  · simp
  · unfold failS
    split
    · exact Nat.zero_le _
    · exact Nat.le_refl _
theorem failS_len (s : St) (x : Nat) : (failS s x).1.length ≤ s.1.length := by
  unfold failS
  split
  · exact Nat.zero_le _
  · exact Nat.le_refl _

theorem Rd.opens {w : World} {lo g : Nat} {s : St} (h : Rd w lo g s) : ∃ A c, w.cell? ⟨g, 0, none⟩ = some (.slice A s.1.length c) ∧ w.cell? ⟨g, 1, none⟩ = some (.int .i64 (s.2 : Int)) := by
  obtain ⟨⟨v, hh, hr⟩, ho⟩ := h
  obtain ⟨A, c, rfl, _⟩ := hr.shape
  exact ⟨A, c, cell_at hh 0, cell_at hh 1⟩

section
variable {s s1 : St} {n : Nat} {most : Int} (h1 : (numS s).1 = n) (h2 : (numS s).2 = s1)
include h1 h2
omit h1 h2 in
theorem failS_bad (s : St) (x : Nat) (hx : x ≠ 0) : (failS s x).2 ≠ 0 := by
  unfold failS
  split
  · exact hx
  · assumption
omit h1 h2 in
theorem failS_twice {s : St} {x : Nat} (h : s.2 ≠ 0) : failS s x = s := by unfold failS; rw [if_neg h]
theorem textS_most (h : most < (n : Int)) : textS s most = ([], failS s1 2) := by
  have hb := failS_bad s1 2 (by decide)
  unfold textS
  simp only [h1, h2]
  rw [if_pos h]
  have : (if (failS s1 2).1.length < n then failS (failS s1 2) 3 else failS s1 2) = failS s1 2 := by
    split
    · exact failS_twice hb
    · rfl
  rw [this, if_neg hb]
theorem textS_short (h : ¬ most < (n : Int)) (hl : s1.1.length < n) : textS s most = ([], failS s1 3) := by
  have hb := failS_bad s1 3 (by decide)
  unfold textS
  simp only [h1, h2]
  rw [if_neg h, if_pos hl, if_neg hb]
theorem textS_take (h : ¬ most < (n : Int)) (hl : ¬ s1.1.length < n) (he : s1.2 = 0) : textS s most = (s1.1.take n, (s1.1.drop n, 0)) := by
  unfold textS
  simp only [h1, h2]
  rw [if_neg h, if_neg hl, if_pos he]
theorem textS_err (h : ¬ most < (n : Int)) (hl : ¬ s1.1.length < n) (he : s1.2 ≠ 0) : textS s most = ([], s1) := by
  unfold textS
  simp only [h1, h2]
  rw [if_neg h, if_neg hl, if_neg he]
end

theorem strOf_nil : strOf [] = ⟨#[]⟩ := rfl

set_option maxHeartbeats 3200000 in
theorem readText_any (lo g : Nat) (s : St) (most : Int) (w : World) (h : Rd w lo g s) (hl : s.1.length ≤ 1000000) (hm0 : -9223372036854775808 ≤ most) (hm1 : most ≤ 9223372036854775807) :
    Calls Try.prog 59 #[.pointer (some ⟨g, 0, none⟩), .int .i64 most] w (RdPost w lo g (.string (strOf (textS s most).1)) (textS s most).2) := by
  obtain ⟨n, s1, hn⟩ : ∃ n s1, numS s = (n, s1) := ⟨_, _, rfl⟩
  have h1 : (numS s).1 = n := by rw [hn]
  have h2 : (numS s).2 = s1 := by rw [hn]
  have hnb := numS_fst_lt s
  rw [h1, pow128_9] at hnb
  have hs1 := numS_len s
  rw [h2] at hs1
  have hf2 := failS_len s1 2
  have HN := Lib.hid (readNum_any lo g s w h hl)
  have H1 := Lib.hid h1
  have H2 := Lib.hid h2
  clear h1 h2 hn h
  go_enter Try.func59, Try.ntmps59
  go_wp2_with fail
  refine HN.out.mono ?_
  rintro e w1 ⟨rfl, hr1, hg1⟩
  rw [H1.out]
  rw [H2.out] at hr1
  have HR1 := Lib.hid hr1
  have HG1 := Lib.hid hg1
  clear hr1 hg1 HN
  by_cases hmost : most < (n : Int)
  · have Ht := Lib.hid (textS_most H1.out H2.out hmost)
    go_wp2_with fail
    refine (fail_any lo g s1 2 _ HR1.out (by decide) (by decide)).mono ?_
    rintro e w2 ⟨rfl, hr2, hg2⟩
    have hbad := failS_bad s1 2 (by decide)
    obtain ⟨A2, c2, d0, d1⟩ := hr2.opens
    have HR2 := Lib.hid hr2
    have HG2 := Lib.hid hg2
    generalize failS s1 2 = q at *
    obtain ⟨qb, qe⟩ := q
    simp at d0 d1 hbad hf2
    have q5 : ((qe : Int) != 0) = true := by rw [bne_iff_ne]; omega
    clear hr2 hg2
    by_cases hqn : qb.length < n
    · have q6 : decide ((qb.length : Int) < (n : Int)) = true := by simp; omega
      have Hf := Lib.hid (failS_twice (s := (qb, qe)) (x := 3) hbad)
      go_wp2_with fail
      refine (fail_any lo g (qb, qe) 3 _ HR2.out (by decide) (by decide)).mono ?_
      rintro e w3 ⟨rfl, hr3, hg3⟩
      rw [Hf.out] at hr3
      obtain ⟨A3, c3, f0, f1⟩ := hr3.opens
      simp at f0 f1
      have HR3 := Lib.hid hr3
      have HG3 := Lib.hid hg3
      clear hr3 hg3 d0 d1
      go_wp2_with fail
      go_ret
      rw [Ht.out]
      exact ⟨rfl, HR3.out, grown_trans HG1.out (grown_trans HG2.out HG3.out)⟩
    · have q6 : decide ((qb.length : Int) < (n : Int)) = false := by simp; omega
      go_wp2_with fail
      go_ret
      rw [Ht.out]
      exact ⟨rfl, HR2.out, grown_trans HG1.out HG2.out⟩
  · obtain ⟨A1, c1, d0, d1⟩ := HR1.out.opens
    obtain ⟨qb, qe⟩ := s1
    simp at d0 d1 hs1
    clear hf2
    by_cases hqn : qb.length < n
    · have Ht := Lib.hid (textS_short H1.out H2.out hmost hqn)
      have q6 : decide ((qb.length : Int) < (n : Int)) = true := by simp; omega
      go_wp2_with fail
      refine (fail_any lo g (qb, qe) 3 _ HR1.out (by decide) (by decide)).mono ?_
      rintro e w3 ⟨rfl, hr3, hg3⟩
      have hbad := failS_bad (qb, qe) 3 (by decide)
      obtain ⟨A3, c3, f0, f1⟩ := hr3.opens
      have HR3 := Lib.hid hr3
      have HG3 := Lib.hid hg3
      generalize failS (qb, qe) 3 = q at *
      obtain ⟨rb, re⟩ := q
      simp at f0 f1 hbad
      have q5 : ((re : Int) != 0) = true := by rw [bne_iff_ne]; omega
      clear hr3 hg3 d0 d1
      go_wp2_with fail
      go_ret
      rw [Ht.out]
      exact ⟨rfl, HR3.out, grown_trans HG1.out HG3.out⟩
    · have q6 : decide ((qb.length : Int) < (n : Int)) = false := by simp; omega
      by_cases he : qe = 0
      · have Ht := Lib.hid (textS_take H1.out H2.out hmost hqn he)
        subst he
        have HT := Lib.hid (take_any lo g (qb, 0) n w1 HR1.out (by simp; omega) (by simp; omega) rfl)
        go_wp2_with fail
        refine HT.out.mono ?_
        rintro e w3 ⟨⟨v3, rfl, hv3⟩, hr3, hg3⟩
        have hc := conv_row hv3
        have HR3 := Lib.hid hr3
        have HG3 := Lib.hid hg3
        clear hr3 hg3 hv3 d0 d1
        go_wp2_with fail
        go_ret
        rw [Ht.out]
        exact ⟨rfl, HR3.out, grown_trans HG1.out HG3.out⟩
      · have Ht := Lib.hid (textS_err H1.out H2.out hmost hqn he)
        have q5 : ((qe : Int) != 0) = true := by rw [bne_iff_ne]; omega
        go_wp2_with fail
        go_ret
        rw [Ht.out]
        exact ⟨rfl, HR1.out, HG1.out⟩

set_option maxHeartbeats 1600000 in
theorem readFlag_any (lo g : Nat) (s : St) (w : World) (h : Rd w lo g s) (hl : s.1.length ≤ 1000000) :
    Calls Try.prog 58 #[.pointer (some ⟨g, 0, none⟩)] w (RdPost w lo g (.bool (flagS s).1) (flagS s).2) := by
  obtain ⟨A1, c1, d0, d1⟩ := h.opens
  have H := Lib.hid h
  obtain ⟨bs, e⟩ := s
  cases bs with
  | nil =>
    have Hf := Lib.hid (show flagS ([], e) = (false, failS ([], e) 3) from rfl)
    simp at d0 d1
    clear h
    go_enter Try.func58, Try.ntmps58
    go_wp2_with fail
    refine (fail_any lo g ([], e) 3 _ H.out (by decide) (by decide)).mono ?_
    rintro e' w1 ⟨rfl, hr1, hg1⟩
    have HR1 := Lib.hid hr1
    have HG1 := Lib.hid hg1
    clear hr1 hg1
    go_wp2_with fail
    go_ret
    rw [Hf.out]
    exact ⟨rfl, HR1.out, HG1.out⟩
  | cons b r =>
    have he : e = 0 := by
      refine Decidable.byContradiction fun he => ?_
      have h0 : b :: r = [] := h.2 he
      cases h0
    subst he
    have Hf := Lib.hid (show flagS (b :: r, 0) = (b.toNat == 1, if 1 < b.toNat then failS (r, 0) 2 else (r, 0)) from rfl)
    have HT := Lib.hid (take_any lo g (b :: r, 0) 1 w H.out (by simp) hl rfl)
    have hb2 : (b.toNat : Int) ≤ 255 := by have := b.toNat_lt; omega
    simp at d0 d1 hl
    clear h
    go_enter Try.func58, Try.ntmps58
    go_wp2_with fail
    refine HT.out.mono ?_
    rintro e' w1 ⟨⟨v1, rfl, hv1⟩, hr1, hg1⟩
    obtain ⟨g2, off, c2, rfl, _, hc1, hc2, hcell⟩ := hv1.addr (by simp)
    have hc := hcell 0 b rfl
    unfold bV at hc
    have HR1 := Lib.hid hr1
    have HG1 := Lib.hid hg1
    clear hr1 hg1 hv1 hcell d0 d1
    simp at hc
    by_cases hb : 1 < b.toNat
    · rw [if_pos hb] at Hf
      have q1 : decide ((1 : Int) < (b.toNat : Int)) = true := by simp; omega
      have q2 : ((b.toNat : Int) == 1) = false := by rw [beq_eq_false_iff_ne]; omega
      have Q3 := Lib.hid (show (b.toNat == 1) = false by rw [beq_eq_false_iff_ne]; omega)
      go_wp2_with fail
      refine (fail_any lo g (r, 0) 2 _ HR1.out (by decide) (by decide)).mono ?_
      rintro e' w2 ⟨rfl, hr2, hg2⟩
      have HR2 := Lib.hid hr2
      have HG2 := Lib.hid hg2
      clear hr2 hg2
      go_wp2_with fail
      go_ret
      rw [Hf.out, Q3.out]
      exact ⟨rfl, HR2.out, grown_trans HG1.out HG2.out⟩
    · rw [if_neg hb] at Hf
      have q1 : decide ((1 : Int) < (b.toNat : Int)) = false := by simp; omega
      by_cases hb1 : b.toNat = 1
      · have q2 : ((b.toNat : Int) == 1) = true := by rw [beq_iff_eq]; omega
        have Q3 := Lib.hid (show (b.toNat == 1) = true by rw [beq_iff_eq]; omega)
        clear hb1
        go_wp2_with fail
        go_ret
        rw [Hf.out, Q3.out]
        exact ⟨rfl, HR1.out, HG1.out⟩
      · have q2 : ((b.toNat : Int) == 1) = false := by rw [beq_eq_false_iff_ne]; omega
        have Q3 := Lib.hid (show (b.toNat == 1) = false by rw [beq_eq_false_iff_ne]; omega)
        clear hb1
        go_wp2_with fail
        go_ret
        rw [Hf.out, Q3.out]
        exact ⟨rfl, HR1.out, HG1.out⟩
end Go.Proofs.Ytnabbebkmafakaa

namespace Go.Proofs.Ytnabbebkmafakaa
set_option maxRecDepth 20000
open Go.RowKit
set_option linter.unusedVariables false
set_option linter.unusedSimpArgs false

theorem below_grown {w a b : World} {g : Nat} (h : Below w.heap.size w a) (hg : a.grownBy b (some g)) (hw : w.heap.size ≤ g) : Below w.heap.size w b :=
  h.grown hg h.size (fun k hk => by injection hk with hk; omega)
theorem numS_cut (n k : Nat) (h : n < 128 ^ 9) (hk : k < (digs n).length) : numS ((digs n).take k, 0) = (0, ([], 3)) := by rw [numS_bad (numErr_cut n k h hk) (by decide)]; rfl
theorem natI_lt (n : Int) (h : n ≤ 9223372036854775807) : natI n < 128 ^ 9 := by rw [pow128_9]; unfold natI; omega
theorem textS_nil (e : Nat) (he : e ≠ 0) (m : Int) (hm : 0 ≤ m) : textS ([], e) m = ([], ([], e)) := by
  have h := numS_err he
  rw [textS_err (n := 0) (s1 := ([], e)) (by rw [h]) (by rw [h]) (by omega) (by simp) he]

/-- One byte of a row of one's own is turned. -/
theorem Own.set {w : World} {g cap : Nat} {bs : List UInt8} (h : Own w g cap bs) (i : Nat) (x : UInt8) : Own (w.setCell ⟨g, i, none⟩ (bV x)) g cap (bs.set i x) := by
  obtain ⟨cur, hh, h1, h2, h3, h4⟩ := h
  refine ⟨_, heap_set hh i (bV x), by simpa using h1, h2, by simpa using h3, ?_⟩
  rw [List.length_set, Array.toList_setIfInBounds, List.take_set, h4]
  unfold bVs
  rw [List.map_set]

theorem forms_last {K m : Nat} (hm : (digs K).length = m + 1) : ∃ x, (digs K)[m]? = some x ∧ x.toNat < 128 ∧ ∀ y ∈ (digs K).set m (UInt8.ofNat (x.toNat + 128)), 128 ≤ y.toNat := by
  have hg := goes_digs K []
  rw [List.append_nil, hm] at hg
  have hg : goes (digs K) = m := by omega
  obtain ⟨x, hx⟩ : ∃ x, (digs K)[m]? = some x := ⟨_, List.getElem?_eq_getElem (by omega)⟩
  have hx1 : x.toNat < 128 := goes_stops (by rw [hg]; exact hx)
  refine ⟨x, hx, hx1, fun y hy => ?_⟩
  obtain ⟨j, hj, rfl⟩ := List.getElem_of_mem hy
  rw [List.length_set] at hj
  rw [List.getElem_set]
  split
  · rw [toNat_ofNat (by omega)]; omega
  · exact goes_on (l := digs K) (j := j) (by omega) (List.getElem?_eq_getElem hj)

theorem own_new (w : World) (bs : List UInt8) (cur : Array Value) (n : Nat) (hn : bs.length = n) (h : cur.toList = bVs bs) (hm : n ≤ 1000) (B : Nat) (hB : B = w.heap.size) : Own (w.alloc (.cells cur 5)) B n bs := by
  subst hB hn
  refine ⟨cur, heap_alloc_new w _, Nat.le_refl _, by unfold maxLen; omega, ?_, ?_⟩
  · rw [← Array.length_toList, h, bVs_len]
  · rw [h, List.take_of_length_le (by rw [bVs_len]; exact Nat.le_refl _)]

theorem not_bytes {w : World} {k : Nat} {cs : Array Value} {t : TypeId} (h : w.heap[k]? = some (.cells cs t (0, 0))) (ht : t ≠ 5) : ∀ cur, w.heap[k]? ≠ some (.cells cur 5 (0, 0)) :=
  fun cur hc => by rw [h] at hc; injection hc with hc; injection hc with _ hc; exact ht hc
/-- Another reader is not turned. -/
theorem Rd.other {w w' : World} {lo lo' g k : Nat} {s s' : St} (h : Rd w lo g s) (hk : Rd w lo' k s') (hne : g ≠ k) (hg : w.grownBy w' (some k)) : Rd w' lo g s := by
  obtain ⟨⟨v, hh, hr⟩, ho⟩ := h
  obtain ⟨⟨v', hh', _⟩, _⟩ := hk
  exact ⟨⟨v, (hg.block g (heap_lt hh) (fun e => hne (by injection e))).trans hh, hr.grown hg (not_bytes hh' (by decide))⟩, ho⟩
theorem Rd.lt {w : World} {lo g : Nat} {s : St} (h : Rd w lo g s) : g < w.heap.size := by obtain ⟨⟨v, hh, _⟩, _⟩ := h; exact heap_lt hh

end Go.Proofs.Ytnabbebkmafakaa
