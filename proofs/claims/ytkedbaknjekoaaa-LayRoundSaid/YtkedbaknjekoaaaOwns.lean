/-
  A reader keeps its bytes, whatever becomes of those that were handed in: the statement LayOwns, walked.
-/
import Derived.Test.YtkedbaknjekoaaaRefText
import Derived.Test.YtkedbaknjekoaaaOrders
import Derived.Deep.DeepCutAuto
namespace Go.Proofs.Ytkedbaknjekoaaa
open Go.RowKit
set_option linter.unusedVariables false
set_option linter.unusedSimpArgs false

/-- Both readers, in one state. -/
def Both (w : World) (g g' : Nat) (s : St) : Prop := Rd w 0 g s ∧ Rf w 0 g' s
theorem Rd.mono {w : World} {lo lo' g : Nat} {s : St} (h : Rd w lo g s) (hl : lo' ≤ lo) : Rd w lo' g s := by
  obtain ⟨⟨v, hh, hr⟩, ho⟩ := h
  exact ⟨⟨v, hh, hr.mono hl⟩, ho⟩
theorem Rf.mono {w : World} {lo lo' g : Nat} {s : St} (h : Rf w lo g s) (hl : lo' ≤ lo) : Rf w lo' g s := by
  obtain ⟨v, bs, I, hh, hr, r⟩ := h
  exact ⟨v, bs, I, hh, hr.mono hl, r⟩
theorem Rd.far {w : World} {lo g k i : Nat} {s : St} (h : Rd w lo g s) (hk : k < lo) (hne : g ≠ k) (u : Value) : Rd (w.setCell ⟨k, i, none⟩ u) lo g s := by
  obtain ⟨⟨v, hh, hr⟩, ho⟩ := h
  exact ⟨⟨v, (Below.heap_setCell w _ u g hne).trans hh, hr.keep fun g' _ hg' _ => Below.heap_setCell w _ u g' (by show g' ≠ k; omega)⟩, ho⟩
theorem Rf.far {w : World} {lo g k i : Nat} {s : St} (h : Rf w lo g s) (hk : k < lo) (hne : g ≠ k) (u : Value) : Rf (w.setCell ⟨k, i, none⟩ u) lo g s := by
  obtain ⟨v, bs, I, hh, hr, r⟩ := h
  exact ⟨v, bs, I, (Below.heap_setCell w _ u g hne).trans hh, hr.keep fun g' _ hg' _ => Below.heap_setCell w _ u g' (by show g' ≠ k; omega), r⟩
theorem Rf.other {w w' : World} {lo lo' g k : Nat} {s s' : St} (h : Rf w lo g s) (hk : Rd w lo' k s') (hg : w.grownBy w' (some k)) : Rf w' lo g s := by
  obtain ⟨v, bs, I, hh, hr, r⟩ := h
  obtain ⟨⟨v', hh', _⟩, _⟩ := hk
  have hne : g ≠ k := by
    rintro rfl
    rw [hh] at hh'
    injection hh' with hh'
    injection hh' with _ hh'
    exact absurd hh' (by decide)
  exact ⟨v, bs, I, (hg.block g (heap_lt hh) (fun e => hne (by injection e))).trans hh, hr.grown hg (not_bytes hh' (by decide)), r⟩
theorem Rd.otherR {w w' : World} {lo lo' g k : Nat} {s s' : St} (h : Rd w lo g s) (hk : Rf w lo' k s') (hg : w.grownBy w' (some k)) : Rd w' lo g s := by
  obtain ⟨⟨v, hh, hr⟩, ho⟩ := h
  obtain ⟨v', _, _, hh', _⟩ := hk
  have hne : g ≠ k := by
    rintro rfl
    rw [hh] at hh'
    injection hh' with hh'
    injection hh' with _ hh'
    exact absurd hh' (by decide)
  exact ⟨⟨v, (hg.block g (heap_lt hh) (fun e => hne (by injection e))).trans hh, hr.grown hg (not_bytes hh' (by decide))⟩, ho⟩
/-- A new one of the document's. -/
theorem Rf.new {w : World} {lo : Nat} {v : Value} {bs : List UInt8} (h : Row w lo v bs) (hl : bs.length ≤ 1000000) : Rf (w.alloc (.cells #[v, .int .i64 0, .int .i64 0] 38)) lo w.heap.size (bs, 0) :=
  ⟨v, bs, 0, heap_alloc_new w _, h.below (below_new w _), Nat.zero_le _, hl, by simp⟩
theorem Made.own {w : World} {B : Nat} {A : Option Addr} {n c : Nat} {ts : List UInt8} (h : Made w B (.slice A n c) ts) (h0 : 0 < n) : ∃ g, A = some ⟨g, 0, none⟩ ∧ B ≤ g ∧ Own w g c ts ∧ n = ts.length := by
  rcases h with ⟨h, _⟩ | ⟨g, cap, h, hB, ho⟩
  · injection h with _ h _
    omega
  · injection h with e1 e2 e3
    subst e1 e2 e3
    exact ⟨g, rfl, hB, ho, rfl⟩
theorem Rf.e {w : World} {lo g : Nat} {s : St} (h : Rf w lo g s) : w.cell? ⟨g, 2, none⟩ = some (.int .i64 (s.2 : Int)) := by
  obtain ⟨v, bs, I, hh, _⟩ := h
  exact cell_at hh 2
theorem Both.later {w w' : World} {g g' : Nat} {s : St} (h : Both w g g' s) (hb : Below w.heap.size w w') : Both w' g g' s := ⟨h.1.below hb, h.2.below hb⟩
theorem Both.drewN {w : World} {g g' : Nat} {s : St} (h : Both w g g' s) (n : Nat) : Both (w.drewN n) g g' s := h

set_option maxHeartbeats 6400000 in
set_option maxRecDepth 100000 in
theorem owns_walk (A : Option Addr) (len cap : Nat) (bs : List UInt8) (a b : Int) (w : World) (hA : ArgB w A len cap bs) (a0 : -9223372036854775808 ≤ a) (a1 : a ≤ 9223372036854775807) (b0 : 0 ≤ b) (b1 : b ≤ 255) :
    Calls Try.prog 8 #[.slice A len cap, .int .i64 a, .int .u8 b] w fun e w' => e = .returned (.bool true) ∧ Below w.heap.size w w' := by
  have HA := Lib.hid hA
  clear hA
  go_enter Try.func8, Try.ntmps8
  go_wp2_with fail
  refine (few_bytes A len cap 20 bs _ HA.out (by decide)).mono ?_
  rintro e w1 ⟨⟨v1, rfl, hm1⟩, hb1⟩
  have HA1 := Lib.hid (HA.out.below hb1)
  have HB1 := Lib.hid hb1
  have HM1 := Lib.hid hm1
  clear hb1 hm1
  go_wp2_with fail
  refine (few_bytes A len cap 20 bs _ HA1.out (by decide)).mono ?_
  rintro e w2 ⟨⟨v2, rfl, hm2⟩, hb2⟩
  have hl : (bs.take 20).length ≤ 20 := by rw [List.length_take]; omega
  have HM2 := Lib.hid (HM1.out.below hb2)
  have hw12 := hb2.size
  have HB2 := Lib.hid (later HB1.out hb2)
  generalize bs.take 20 = ts at *
  obtain ⟨A2, c2, rfl, _⟩ := hm2.row.shape
  have HR2 := Lib.hid hm2.row
  clear hm2 hb2
  go_wp2_with fail
  have HF := Lib.hid (Rf.new HR2.out (by omega))
  have hb3 := below_new w2 (.cells #[.slice A2 ts.length c2, .int .i64 0, .int .i64 0] 38)
  have HB3 := Lib.hid (later HB2.out hb3)
  have HM3 := Lib.hid (HM2.out.below hb3)
  clear hb3
  refine (read_any v1 ts _ _ HM3.out.row (by omega)).mono ?_
  rintro e w4 ⟨⟨g4, rfl, hg4, hr4⟩, hb4⟩
  have HD4 := Lib.hid hr4
  have HF4 := Lib.hid (HF.out.below hb4)
  have HB4 := Lib.hid (later HB3.out hb4)
  have HM4 := Lib.hid (HM3.out.below hb4)
  have hw4 : w2.heap.size + 1 ≤ w4.heap.size := by have := hb4.size; simpa using this
  have hg4' : w2.heap.size + 1 ≤ g4 := by simpa using hg4
  clear hr4 hb4 HF
  obtain ⟨A1, c1, rfl, hc1, hc2, hc3⟩ := HM4.out.row.shape
  have hg4w : w.heap.size ≤ g4 := by have := HB2.out.size; omega
  have hg2w : w.heap.size ≤ w2.heap.size := HB2.out.size
  by_cases h0 : 0 < ts.length
  · obtain ⟨g1, hA1, hg1, ho1, _⟩ := HM1.out.own h0
    subst hA1
    obtain ⟨g1', hA1', _, ho4, _⟩ := HM4.out.own h0
    injection hA1' with hA1'
    injection hA1' with hA1' _ _
    subst hA1'
    have hg1w := ho1.lt
    obtain ⟨r0, r1⟩ := aroundI_bd a (ts.length : Int) (by omega)
    obtain ⟨r, hr⟩ := Int.eq_ofNat_of_zero_le r0
    have hrl : r < ts.length := by omega
    have hcell : w4.cell? ⟨g1, r, none⟩ = some (.int .u8 ((ts[r]).toNat : Int)) := ho4.cells r _ (List.getElem?_eq_getElem hrl)
    have hfree : w4.frozen? ⟨g1, r, none⟩ = false := by obtain ⟨cur, hh, _⟩ := ho4; exact free_at hh r
    have Hr := Lib.hid hr
    have hx2 : ((ts[r]).toNat : Int) ≤ 255 := by have := (ts[r]).toNat_lt; omega
    generalize ((ts[r]).toNat : Int) = y at *
    clear ho1 ho4 hr r0 r1
    unfold maxLen at hc2
    go_wp2_with fail
    refine (around_any a (ts.length : Int) _ a0 a1 (by omega) (by omega)).mono ?_
    rintro e wx ⟨rfl, rfl⟩
    rw [Hr.out]
    go_wp2_with fail
    have HST : Hid (Both (w4.setCell ⟨g1, r, none⟩ (.int .u8 (bits .xor .u8 y b))) g4 w2.heap.size (ts, 0)) := Lib.hid ⟨(HD4.out.far (k := g1) (i := r) (by simp; omega) (by omega) _).mono (Nat.zero_le _), (HF4.out.far (k := g1) (i := r) hg1w (by omega) _).mono (Nat.zero_le _)⟩
    have HBS : Hid (Below w.heap.size w (w4.setCell ⟨g1, r, none⟩ (.int .u8 (bits .xor .u8 y b)))) := Lib.hid (HB4.out.setCell (p := ⟨g1, r, none⟩) hg1 _)
    go_loopw [11] (fun i wr => ∃ (k : Nat) (s : St), k ≤ 5 ∧ i = .int .i64 (k : Int) ∧ Hid (Both wr g4 w2.heap.size s) ∧ Hid (Below w.heap.size w wr) ∧ s.1.length ≤ 1000000) (fun i _ => 5 - (intOf i).toNat)
    case atStart => exact ⟨0, (ts, 0), by omega, rfl, HST, HBS, by show ts.length ≤ _; omega⟩
    case round =>
      obtain ⟨k, s, hk, rfl, HBo, HBel, hsl⟩ := hrel
      clear HST HBS
      by_cases hk5 : k < 5
      · have q1 : decide ((k : Int) < 5) = true := decide_eq_true (by omega)
        go_wp2_with fail
        refine wp_region_held_drew (S := fun w' => Below w.heap.size w w') (by kernel_rfl) (HBel.out.drew) (fun hHeld => ?_)
        refine wpAnyH_take (i := 0) (oi := ⟨some 42, _, _, _, _, _⟩) (v := ?va0) rfl (by kernel_rfl) (by kernel_rfl) (by kernel_rfl) (fun _ _ _ h => h) (Or.inl ⟨by rfl, ?ya0⟩) (by assumption) ?ra0
        case ya0 =>
          intro wx hSx
          go_simp
          try with_reducible rfl
        try simp only [Act.put, List.setIfInBounds_toArray, List.set_cons_zero, List.set_cons_succ]
        refine wpAnyH_take (i := 2) (oi := ⟨some 44, _, _, _, _, _⟩) (v := ?va2) rfl (by kernel_rfl) (by kernel_rfl) (by kernel_rfl) (fun _ _ _ h => h) (Or.inl ⟨by rfl, ?ya2⟩) (by assumption) ?ra2
        case ya2 =>
          intro wx hSx
          go_simp
          try with_reducible rfl
        try simp only [Act.put, List.setIfInBounds_toArray, List.set_cons_zero, List.set_cons_succ]
        refine wpAnyH_ready (rs := [1]) (by kernel_rfl) (by simp) ?_
        refine AllReadyH.cons (o := ⟨some 43, _, _, _, _, _⟩) rfl (fun K hK => ?_) AllReadyH.nil
        go_simp
        refine (readNum_any 0 g4 s _ (HBo.out.drewN 1).1 hsl).mono ?_
        rintro e wa ⟨rfl, hra, hga⟩
        have HFa := Lib.hid ((HBo.out.drewN 1).2.other (HBo.out.drewN 1).1 hga)
        have HDa := Lib.hid hra
        refine hK.out _ _ (below_grown (w := w) (HBel.out.drew) hga hg4w) (fun hHeld => ?_)
        clear hK K hra hga
        try simp only [Act.put, List.setIfInBounds_toArray, List.set_cons_zero, List.set_cons_succ]
        refine wpAnyH_ready (rs := [3]) (by kernel_rfl) (by simp) ?_
        refine AllReadyH.cons (o := ⟨some 45, _, _, _, _, _⟩) rfl (fun K hK => ?_) AllReadyH.nil
        go_simp
        refine (refNumR_any 0 w2.heap.size s _ HFa.out).mono ?_
        rintro e wb ⟨rfl, hrb, hgb⟩
        have HBoth : Hid (Both wb g4 w2.heap.size (numS s).2) := Lib.hid ⟨HDa.out.otherR HFa.out hgb, hrb⟩
        have hBel2 := below_grown (w := w) hHeld hgb hg2w
        refine hK.out _ _ hBel2 (fun hHeld2 => ?_)
        clear hK K hrb hgb hHeld hHeld2
        try simp only [Act.put, List.setIfInBounds_toArray, List.set_cons_zero, List.set_cons_succ]
        have hsl2 := numS_len s
        have HNl := Lib.hid (Nat.le_trans hsl2 hsl)
        clear hsl2
        generalize (numS s).1 = n at *
        generalize (numS s).2 = t at *
        refine anyH_narrow (S' := fun w' => Below w.heap.size w w' ∧ Both w' g4 w2.heap.size t) (fun _ h => h.1) _ _ _ _ ?_
        have hN : Below w.heap.size w wb ∧ Both wb g4 w2.heap.size t := ⟨hBel2, HBoth.out⟩
        clear hBel2 HFa HDa
        refine wpAnyH_take (i := 4) (oi := ⟨some 46, _, _, _, _, _⟩) (v := ?va4) rfl (by kernel_rfl) (by kernel_rfl) (by kernel_rfl) (fun _ _ _ h => h) (Or.inl ⟨by rfl, ?ya4⟩) hN ?ra4
        case ya4 =>
          intro wx hSx
          go_simp
          try with_reducible rfl
        try simp only [Act.put, List.setIfInBounds_toArray, List.set_cons_zero, List.set_cons_succ]
        refine wpAnyH_take (i := 5) (oi := ⟨some 47, _, _, _, _, _⟩) (v := ?va5) rfl (by kernel_rfl) (by kernel_rfl) (by kernel_rfl) (fun _ _ _ h => h) (Or.inl ⟨by rfl, ?ya5⟩) hN ?ra5
        case ya5 =>
          intro wx hSx
          go_simp
          try with_reducible rfl
        try simp only [Act.put, List.setIfInBounds_toArray, List.set_cons_zero, List.set_cons_succ]
        refine wpAnyH_take (i := 6) (oi := ⟨some 48, _, _, _, _, _⟩) (v := ?va6) rfl (by kernel_rfl) (by kernel_rfl) (by kernel_rfl) (fun _ _ _ h => h) (Or.inl ⟨by rfl, ?ya6⟩) hN ?ra6
        case ya6 =>
          intro wx hSx
          go_simp
          try with_reducible rfl
        try simp only [Act.put, List.setIfInBounds_toArray, List.set_cons_zero, List.set_cons_succ]
        refine anyH_asks (i := 7) (oi := ⟨some 49, _, _, _, _, _⟩) (v := .int .i64 (t.2 : Int)) rfl (by kernel_rfl) (by kernel_rfl) (by kernel_rfl) (fun _ _ _ h => h) ⟨by rfl, fun wx hSx => ⟨_, _, ?ea7, errno_any 0 g4 t wx hSx.2.1⟩⟩ hN ?ra7
        case ea7 => go_simp
        try simp only [Act.put, List.setIfInBounds_toArray, List.set_cons_zero, List.set_cons_succ]
        refine wpAnyH_take (i := 8) (oi := ⟨some 50, _, _, _, _, _⟩) (v := ?va8) rfl (by kernel_rfl) (by kernel_rfl) (by kernel_rfl) (fun _ _ _ h => h) (Or.inl ⟨by rfl, ?ya8⟩) hN ?ra8
        case ya8 =>
          intro wx hSx
          go_simp
          try with_reducible rfl
        try simp only [Act.put, List.setIfInBounds_toArray, List.set_cons_zero, List.set_cons_succ]
        refine wpAnyH_take (i := 9) (oi := ⟨some 51, _, _, _, _, _⟩) (v := ?va9) rfl (by kernel_rfl) (by kernel_rfl) (by kernel_rfl) (fun _ _ _ h => h) (Or.inl ⟨by rfl, ?ya9⟩) hN ?ra9
        case ya9 =>
          intro wx hSx
          go_simp
          try with_reducible rfl
        try simp only [Act.put, List.setIfInBounds_toArray, List.set_cons_zero, List.set_cons_succ]
        refine wpAnyH_take (i := 10) (oi := ⟨some 52, _, _, _, _, _⟩) (v := ?va10) rfl (by kernel_rfl) (by kernel_rfl) (by kernel_rfl) (fun _ _ _ h => h) (Or.inl ⟨by rfl, ?ya10⟩) hN ?ra10
        case ya10 =>
          intro wx hSx
          go_simp
          try with_reducible rfl
        try simp only [Act.put, List.setIfInBounds_toArray, List.set_cons_zero, List.set_cons_succ]
        refine wpAnyH_take (i := 11) (oi := ⟨some 53, _, _, _, _, _⟩) (v := .int .i64 (t.2 : Int)) rfl (by kernel_rfl) (by kernel_rfl) (by kernel_rfl) (fun _ _ _ h => h) (Or.inl ⟨by rfl, ?ya11⟩) hN ?ra11
        case ya11 =>
          intro wx hSx
          have hce := hSx.2.2.e
          clear hSx
          go_simp
          try with_reducible rfl
        try simp only [Act.put, List.setIfInBounds_toArray, List.set_cons_zero, List.set_cons_succ]
        refine wpAnyH_take (i := 12) (oi := ⟨some 54, _, _, _, _, _⟩) (v := ?va12) rfl (by kernel_rfl) (by kernel_rfl) (by kernel_rfl) (fun _ _ _ h => h) (Or.inl ⟨by rfl, ?ya12⟩) hN ?ra12
        case ya12 =>
          intro wx hSx
          go_simp
          try with_reducible rfl
        try simp only [Act.put, List.setIfInBounds_toArray, List.set_cons_zero, List.set_cons_succ]
        refine wpAnyH_take (i := 13) (oi := ⟨some 55, _, _, _, _, _⟩) (v := ?va13) rfl (by kernel_rfl) (by kernel_rfl) (by kernel_rfl) (fun _ _ _ h => h) (Or.inl ⟨by rfl, ?ya13⟩) hN ?ra13
        case ya13 =>
          intro wx hSx
          go_simp
          try with_reducible rfl
        try simp only [Act.put, List.setIfInBounds_toArray, List.set_cons_zero, List.set_cons_succ]
        refine wpAnyH_take (i := 14) (oi := ⟨some 56, _, _, _, _, _⟩) (v := ?va14) rfl (by kernel_rfl) (by kernel_rfl) (by kernel_rfl) (fun _ _ _ h => h) (Or.inl ⟨by rfl, ?ya14⟩) hN ?ra14
        case ya14 =>
          intro wx hSx
          go_simp
          try with_reducible rfl
        try simp only [Act.put, List.setIfInBounds_toArray, List.set_cons_zero, List.set_cons_succ]
        refine wpAnyH_take (i := 15) (oi := ⟨some 57, _, _, _, _, _⟩) (v := ?va15) rfl (by kernel_rfl) (by kernel_rfl) (by kernel_rfl) (fun _ _ _ h => h) (Or.inl ⟨by rfl, ?ya15⟩) hN ?ra15
        case ya15 =>
          intro wx hSx
          go_simp
          try with_reducible rfl
        try simp only [Act.put, List.setIfInBounds_toArray, List.set_cons_zero, List.set_cons_succ]
        refine anyH_asks (i := 16) (oi := ⟨some 58, _, _, _, _, _⟩) (v := .int .i64 (t.1.length : Int)) rfl (by kernel_rfl) (by kernel_rfl) (by kernel_rfl) (fun _ _ _ h => h) ⟨by rfl, fun wx hSx => ⟨_, _, ?ea16, left_any 0 g4 t wx hSx.2.1 HNl.out⟩⟩ hN ?ra16
        case ea16 => go_simp
        try simp only [Act.put, List.setIfInBounds_toArray, List.set_cons_zero, List.set_cons_succ]
        refine wpAnyH_take (i := 17) (oi := ⟨some 59, _, _, _, _, _⟩) (v := ?va17) rfl (by kernel_rfl) (by kernel_rfl) (by kernel_rfl) (fun _ _ _ h => h) (Or.inl ⟨by rfl, ?ya17⟩) hN ?ra17
        case ya17 =>
          intro wx hSx
          go_simp
          try with_reducible rfl
        try simp only [Act.put, List.setIfInBounds_toArray, List.set_cons_zero, List.set_cons_succ]
        refine wpAnyH_ready (rs := [18]) (by kernel_rfl) (by simp) ?_
        refine AllReadyH.cons (o := ⟨some 60, _, _, _, _, _⟩) rfl (fun K hK => ?_) AllReadyH.nil
        go_simp
        refine (refLeft_any 0 w2.heap.size t _ hN.2.2).mono ?_
        rintro e wc ⟨rfl, m, rfl⟩
        have hN2 : Below w.heap.size w (wb.drewN m) ∧ Both (wb.drewN m) g4 w2.heap.size t := ⟨below_drewN hN.1 m, hN.2.drewN m⟩
        clear hN
        refine hK.out _ _ hN2 (fun hHeld => ?_)
        clear hK K hHeld
        try simp only [Act.put, List.setIfInBounds_toArray, List.set_cons_zero, List.set_cons_succ]
        refine wpAnyH_take (i := 19) (oi := ⟨some 61, _, _, _, _, _⟩) (v := ?va19) rfl (by kernel_rfl) (by kernel_rfl) (by kernel_rfl) (fun _ _ _ h => h) (Or.inl ⟨by rfl, ?ya19⟩) hN2 ?ra19
        case ya19 =>
          intro wx hSx
          go_simp
          try with_reducible rfl
        try simp only [Act.put, List.setIfInBounds_toArray, List.set_cons_zero, List.set_cons_succ]
        refine wpAnyH_take (i := 20) (oi := ⟨some 62, _, _, _, _, _⟩) (v := ?va20) rfl (by kernel_rfl) (by kernel_rfl) (by kernel_rfl) (fun _ _ _ h => h) (Or.inl ⟨by rfl, ?ya20⟩) hN2 ?ra20
        case ya20 =>
          intro wx hSx
          go_simp
          try with_reducible rfl
        try simp only [Act.put, List.setIfInBounds_toArray, List.set_cons_zero, List.set_cons_succ]
        refine wpAnyH_done (by kernel_rfl) ?_ _
        have HK := Lib.hid hN2
        clear hN2
        go_wp2_with fail
        refine ⟨⟨k + 1, t, by omega, by go_num, Lib.hid HK.out.2, Lib.hid HK.out.1, HNl.out⟩, ?_⟩
        simp [intOf]; omega
      · have q1 : decide ((k : Int) < 5) = false := decide_eq_false (by omega)
        go_wp2_with fail
        refine (lives_any _).mono ?_
        rintro e w9 ⟨rfl, hb9⟩
        have HB9 := Lib.hid (later HBel.out hb9)
        clear hb9
        go_wp2_with fail
        go_ret
        exact ⟨rfl, HB9.out⟩
  · have q0 : decide ((0 : Int) < (ts.length : Int)) = false := decide_eq_false (by omega)
    unfold maxLen at hc2
    go_wp2_with fail
    have HST : Hid (Both (w4) g4 w2.heap.size (ts, 0)) := Lib.hid ⟨HD4.out.mono (Nat.zero_le _), HF4.out.mono (Nat.zero_le _)⟩
    have HBS : Hid (Below w.heap.size w (w4)) := HB4
    go_loopw [11] (fun i wr => ∃ (k : Nat) (s : St), k ≤ 5 ∧ i = .int .i64 (k : Int) ∧ Hid (Both wr g4 w2.heap.size s) ∧ Hid (Below w.heap.size w wr) ∧ s.1.length ≤ 1000000) (fun i _ => 5 - (intOf i).toNat)
    case atStart => exact ⟨0, (ts, 0), by omega, rfl, HST, HBS, by show ts.length ≤ _; omega⟩
    case round =>
      obtain ⟨k, s, hk, rfl, HBo, HBel, hsl⟩ := hrel
      clear HST HBS
      by_cases hk5 : k < 5
      · have q1 : decide ((k : Int) < 5) = true := decide_eq_true (by omega)
        go_wp2_with fail
        refine wp_region_held_drew (S := fun w' => Below w.heap.size w w') (by kernel_rfl) (HBel.out.drew) (fun hHeld => ?_)
        refine wpAnyH_take (i := 0) (oi := ⟨some 42, _, _, _, _, _⟩) (v := ?vb0) rfl (by kernel_rfl) (by kernel_rfl) (by kernel_rfl) (fun _ _ _ h => h) (Or.inl ⟨by rfl, ?yb0⟩) (by assumption) ?rb0
        case yb0 =>
          intro wx hSx
          go_simp
          try with_reducible rfl
        try simp only [Act.put, List.setIfInBounds_toArray, List.set_cons_zero, List.set_cons_succ]
        refine wpAnyH_take (i := 2) (oi := ⟨some 44, _, _, _, _, _⟩) (v := ?vb2) rfl (by kernel_rfl) (by kernel_rfl) (by kernel_rfl) (fun _ _ _ h => h) (Or.inl ⟨by rfl, ?yb2⟩) (by assumption) ?rb2
        case yb2 =>
          intro wx hSx
          go_simp
          try with_reducible rfl
        try simp only [Act.put, List.setIfInBounds_toArray, List.set_cons_zero, List.set_cons_succ]
        refine wpAnyH_ready (rs := [1]) (by kernel_rfl) (by simp) ?_
        refine AllReadyH.cons (o := ⟨some 43, _, _, _, _, _⟩) rfl (fun K hK => ?_) AllReadyH.nil
        go_simp
        refine (readNum_any 0 g4 s _ (HBo.out.drewN 1).1 hsl).mono ?_
        rintro e wa ⟨rfl, hra, hga⟩
        have HFa := Lib.hid ((HBo.out.drewN 1).2.other (HBo.out.drewN 1).1 hga)
        have HDa := Lib.hid hra
        refine hK.out _ _ (below_grown (w := w) (HBel.out.drew) hga hg4w) (fun hHeld => ?_)
        clear hK K hra hga
        try simp only [Act.put, List.setIfInBounds_toArray, List.set_cons_zero, List.set_cons_succ]
        refine wpAnyH_ready (rs := [3]) (by kernel_rfl) (by simp) ?_
        refine AllReadyH.cons (o := ⟨some 45, _, _, _, _, _⟩) rfl (fun K hK => ?_) AllReadyH.nil
        go_simp
        refine (refNumR_any 0 w2.heap.size s _ HFa.out).mono ?_
        rintro e wb ⟨rfl, hrb, hgb⟩
        have HBoth : Hid (Both wb g4 w2.heap.size (numS s).2) := Lib.hid ⟨HDa.out.otherR HFa.out hgb, hrb⟩
        have hBel2 := below_grown (w := w) hHeld hgb hg2w
        refine hK.out _ _ hBel2 (fun hHeld2 => ?_)
        clear hK K hrb hgb hHeld hHeld2
        try simp only [Act.put, List.setIfInBounds_toArray, List.set_cons_zero, List.set_cons_succ]
        have hsl2 := numS_len s
        have HNl := Lib.hid (Nat.le_trans hsl2 hsl)
        clear hsl2
        generalize (numS s).1 = n at *
        generalize (numS s).2 = t at *
        refine anyH_narrow (S' := fun w' => Below w.heap.size w w' ∧ Both w' g4 w2.heap.size t) (fun _ h => h.1) _ _ _ _ ?_
        have hN : Below w.heap.size w wb ∧ Both wb g4 w2.heap.size t := ⟨hBel2, HBoth.out⟩
        clear hBel2 HFa HDa
        refine wpAnyH_take (i := 4) (oi := ⟨some 46, _, _, _, _, _⟩) (v := ?vb4) rfl (by kernel_rfl) (by kernel_rfl) (by kernel_rfl) (fun _ _ _ h => h) (Or.inl ⟨by rfl, ?yb4⟩) hN ?rb4
        case yb4 =>
          intro wx hSx
          go_simp
          try with_reducible rfl
        try simp only [Act.put, List.setIfInBounds_toArray, List.set_cons_zero, List.set_cons_succ]
        refine wpAnyH_take (i := 5) (oi := ⟨some 47, _, _, _, _, _⟩) (v := ?vb5) rfl (by kernel_rfl) (by kernel_rfl) (by kernel_rfl) (fun _ _ _ h => h) (Or.inl ⟨by rfl, ?yb5⟩) hN ?rb5
        case yb5 =>
          intro wx hSx
          go_simp
          try with_reducible rfl
        try simp only [Act.put, List.setIfInBounds_toArray, List.set_cons_zero, List.set_cons_succ]
        refine wpAnyH_take (i := 6) (oi := ⟨some 48, _, _, _, _, _⟩) (v := ?vb6) rfl (by kernel_rfl) (by kernel_rfl) (by kernel_rfl) (fun _ _ _ h => h) (Or.inl ⟨by rfl, ?yb6⟩) hN ?rb6
        case yb6 =>
          intro wx hSx
          go_simp
          try with_reducible rfl
        try simp only [Act.put, List.setIfInBounds_toArray, List.set_cons_zero, List.set_cons_succ]
        refine anyH_asks (i := 7) (oi := ⟨some 49, _, _, _, _, _⟩) (v := .int .i64 (t.2 : Int)) rfl (by kernel_rfl) (by kernel_rfl) (by kernel_rfl) (fun _ _ _ h => h) ⟨by rfl, fun wx hSx => ⟨_, _, ?eb7, errno_any 0 g4 t wx hSx.2.1⟩⟩ hN ?rb7
        case eb7 => go_simp
        try simp only [Act.put, List.setIfInBounds_toArray, List.set_cons_zero, List.set_cons_succ]
        refine wpAnyH_take (i := 8) (oi := ⟨some 50, _, _, _, _, _⟩) (v := ?vb8) rfl (by kernel_rfl) (by kernel_rfl) (by kernel_rfl) (fun _ _ _ h => h) (Or.inl ⟨by rfl, ?yb8⟩) hN ?rb8
        case yb8 =>
          intro wx hSx
          go_simp
          try with_reducible rfl
        try simp only [Act.put, List.setIfInBounds_toArray, List.set_cons_zero, List.set_cons_succ]
        refine wpAnyH_take (i := 9) (oi := ⟨some 51, _, _, _, _, _⟩) (v := ?vb9) rfl (by kernel_rfl) (by kernel_rfl) (by kernel_rfl) (fun _ _ _ h => h) (Or.inl ⟨by rfl, ?yb9⟩) hN ?rb9
        case yb9 =>
          intro wx hSx
          go_simp
          try with_reducible rfl
        try simp only [Act.put, List.setIfInBounds_toArray, List.set_cons_zero, List.set_cons_succ]
        refine wpAnyH_take (i := 10) (oi := ⟨some 52, _, _, _, _, _⟩) (v := ?vb10) rfl (by kernel_rfl) (by kernel_rfl) (by kernel_rfl) (fun _ _ _ h => h) (Or.inl ⟨by rfl, ?yb10⟩) hN ?rb10
        case yb10 =>
          intro wx hSx
          go_simp
          try with_reducible rfl
        try simp only [Act.put, List.setIfInBounds_toArray, List.set_cons_zero, List.set_cons_succ]
        refine wpAnyH_take (i := 11) (oi := ⟨some 53, _, _, _, _, _⟩) (v := .int .i64 (t.2 : Int)) rfl (by kernel_rfl) (by kernel_rfl) (by kernel_rfl) (fun _ _ _ h => h) (Or.inl ⟨by rfl, ?yb11⟩) hN ?rb11
        case yb11 =>
          intro wx hSx
          have hce := hSx.2.2.e
          clear hSx
          go_simp
          try with_reducible rfl
        try simp only [Act.put, List.setIfInBounds_toArray, List.set_cons_zero, List.set_cons_succ]
        refine wpAnyH_take (i := 12) (oi := ⟨some 54, _, _, _, _, _⟩) (v := ?vb12) rfl (by kernel_rfl) (by kernel_rfl) (by kernel_rfl) (fun _ _ _ h => h) (Or.inl ⟨by rfl, ?yb12⟩) hN ?rb12
        case yb12 =>
          intro wx hSx
          go_simp
          try with_reducible rfl
        try simp only [Act.put, List.setIfInBounds_toArray, List.set_cons_zero, List.set_cons_succ]
        refine wpAnyH_take (i := 13) (oi := ⟨some 55, _, _, _, _, _⟩) (v := ?vb13) rfl (by kernel_rfl) (by kernel_rfl) (by kernel_rfl) (fun _ _ _ h => h) (Or.inl ⟨by rfl, ?yb13⟩) hN ?rb13
        case yb13 =>
          intro wx hSx
          go_simp
          try with_reducible rfl
        try simp only [Act.put, List.setIfInBounds_toArray, List.set_cons_zero, List.set_cons_succ]
        refine wpAnyH_take (i := 14) (oi := ⟨some 56, _, _, _, _, _⟩) (v := ?vb14) rfl (by kernel_rfl) (by kernel_rfl) (by kernel_rfl) (fun _ _ _ h => h) (Or.inl ⟨by rfl, ?yb14⟩) hN ?rb14
        case yb14 =>
          intro wx hSx
          go_simp
          try with_reducible rfl
        try simp only [Act.put, List.setIfInBounds_toArray, List.set_cons_zero, List.set_cons_succ]
        refine wpAnyH_take (i := 15) (oi := ⟨some 57, _, _, _, _, _⟩) (v := ?vb15) rfl (by kernel_rfl) (by kernel_rfl) (by kernel_rfl) (fun _ _ _ h => h) (Or.inl ⟨by rfl, ?yb15⟩) hN ?rb15
        case yb15 =>
          intro wx hSx
          go_simp
          try with_reducible rfl
        try simp only [Act.put, List.setIfInBounds_toArray, List.set_cons_zero, List.set_cons_succ]
        refine anyH_asks (i := 16) (oi := ⟨some 58, _, _, _, _, _⟩) (v := .int .i64 (t.1.length : Int)) rfl (by kernel_rfl) (by kernel_rfl) (by kernel_rfl) (fun _ _ _ h => h) ⟨by rfl, fun wx hSx => ⟨_, _, ?eb16, left_any 0 g4 t wx hSx.2.1 HNl.out⟩⟩ hN ?rb16
        case eb16 => go_simp
        try simp only [Act.put, List.setIfInBounds_toArray, List.set_cons_zero, List.set_cons_succ]
        refine wpAnyH_take (i := 17) (oi := ⟨some 59, _, _, _, _, _⟩) (v := ?vb17) rfl (by kernel_rfl) (by kernel_rfl) (by kernel_rfl) (fun _ _ _ h => h) (Or.inl ⟨by rfl, ?yb17⟩) hN ?rb17
        case yb17 =>
          intro wx hSx
          go_simp
          try with_reducible rfl
        try simp only [Act.put, List.setIfInBounds_toArray, List.set_cons_zero, List.set_cons_succ]
        refine wpAnyH_ready (rs := [18]) (by kernel_rfl) (by simp) ?_
        refine AllReadyH.cons (o := ⟨some 60, _, _, _, _, _⟩) rfl (fun K hK => ?_) AllReadyH.nil
        go_simp
        refine (refLeft_any 0 w2.heap.size t _ hN.2.2).mono ?_
        rintro e wc ⟨rfl, m, rfl⟩
        have hN2 : Below w.heap.size w (wb.drewN m) ∧ Both (wb.drewN m) g4 w2.heap.size t := ⟨below_drewN hN.1 m, hN.2.drewN m⟩
        clear hN
        refine hK.out _ _ hN2 (fun hHeld => ?_)
        clear hK K hHeld
        try simp only [Act.put, List.setIfInBounds_toArray, List.set_cons_zero, List.set_cons_succ]
        refine wpAnyH_take (i := 19) (oi := ⟨some 61, _, _, _, _, _⟩) (v := ?vb19) rfl (by kernel_rfl) (by kernel_rfl) (by kernel_rfl) (fun _ _ _ h => h) (Or.inl ⟨by rfl, ?yb19⟩) hN2 ?rb19
        case yb19 =>
          intro wx hSx
          go_simp
          try with_reducible rfl
        try simp only [Act.put, List.setIfInBounds_toArray, List.set_cons_zero, List.set_cons_succ]
        refine wpAnyH_take (i := 20) (oi := ⟨some 62, _, _, _, _, _⟩) (v := ?vb20) rfl (by kernel_rfl) (by kernel_rfl) (by kernel_rfl) (fun _ _ _ h => h) (Or.inl ⟨by rfl, ?yb20⟩) hN2 ?rb20
        case yb20 =>
          intro wx hSx
          go_simp
          try with_reducible rfl
        try simp only [Act.put, List.setIfInBounds_toArray, List.set_cons_zero, List.set_cons_succ]
        refine wpAnyH_done (by kernel_rfl) ?_ _
        have HK := Lib.hid hN2
        clear hN2
        go_wp2_with fail
        refine ⟨⟨k + 1, t, by omega, by go_num, Lib.hid HK.out.2, Lib.hid HK.out.1, HNl.out⟩, ?_⟩
        simp [intOf]; omega
      · have q1 : decide ((k : Int) < 5) = false := decide_eq_false (by omega)
        go_wp2_with fail
        refine (lives_any _).mono ?_
        rintro e w9 ⟨rfl, hb9⟩
        have HB9 := Lib.hid (later HBel.out hb9)
        clear hb9
        go_wp2_with fail
        go_ret
        exact ⟨rfl, HB9.out⟩
end Go.Proofs.Ytkedbaknjekoaaa
