/-
  DagRefuses: an event that is refused changes nothing, and one that is taken is there.
-/
import Derived.Test.YtflgpdkdflhhgaaGreatLawA
import Derived.BigQuiet
namespace Go.Proofs.YtflgpdkdflhhgaaGreat
set_option maxRecDepth 20000
open Go.RowKit
set_option linter.unusedVariables false
set_option linter.unusedSimpArgs false
theorem err_again {room : ByteArray} {l : List Ev} {e : Ev} (h : errA room l e = 0) : errA room (l ++ [e]) e = 9 ∧ addA room (l ++ [e]) e = l ++ [e] := by
  obtain ⟨hm, hr, -⟩ := err_zero h
  have h9 : errA room (l ++ [e]) e = 9 := by
    unfold errA
    rw [if_neg (by simp [hm, hr]), if_pos (has_iff.2 ⟨e, by simp, rfl⟩)]
  exact ⟨h9, by unfold addA; rw [h9]; rfl⟩

set_option maxHeartbeats 6400000 in
theorem dagRefuses_walk (C : Dags) (CA : DagAlls C) (CR : DagRms C) (CL : DagLns C) (CH : DagHds C) (v : Value) (gs : List GV) (k which : Int) (raw : EvV) (w : World) (h : GsS w v gs) (hk0 : -9223372036854775808 ≤ k) (hk1 : k ≤ 9223372036854775807) (hw0 : -9223372036854775808 ≤ which) (hw1 : which ≤ 9223372036854775807) (hr : raw.at w) :
    Calls Tryz.prog 5 #[v, .int .i64 k, .int .i64 which, raw.val] w fun e w' => e = .returned (.bool true) ∧ Below w.heap.size w w' := by
  have HMA := Lib.hid (fun W (hb : Below w.heap.size w W) => refMade_any roomR v gs W (h.below hb) roomR_room)
  have HVA := Lib.hid (madeTo_row roomR_room (gps gs) (min gs.length 9) (by omega) (by rw [List.length_map]; omega))
  have HZ := Lib.hid (fun W => lives_any C W)
  have HBx := Lib.hid (heap_alloc_new w (.cells #[.string raw.ev.id, .string raw.ev.room, .slice raw.A raw.ev.parents.length raw.cap, .string raw.ev.thread, .string raw.ev.user, .int .i64 raw.ev.does] 33))
  have HBl := Lib.hid (below_new w (.cells #[.string raw.ev.id, .string raw.ev.room, .slice raw.A raw.ev.parents.length raw.cap, .string raw.ev.thread, .string raw.ev.user, .int .i64 raw.ev.does] 33))
  have HOD := Lib.hid (fun W v' xs (hb : Below w.heap.size w W) (he : EvsS W v' xs) (hl : xs.length ≤ 1000) => refOdd_any roomR v' xs k which raw W he hl roomR_size hk0 hk1 hw0 hw1 (hr.below hb))
  obtain ⟨A0, c0, rfl, -⟩ := id h.1
  clear h hr
  unfold EvV.val EvV.pv at *
  unfold roomR at HMA
  go_enter Tryz.func5, Tryz.ntmps5
  go_upto_region 1 with (fail)
  generalize w.alloc _ = w0 at HBx HBl ⊢
  generalize hB4 : w.heap.size = B4 at HBx ⊢
  go_wp2_with fail
  go_at_call 6
  refine (HMA.out _ (by rw [hB4] at HBl ⊢; exact HBl.out)).mono ?_
  rintro e w1 ⟨v', xs, rfl, hes, hev, b1, hfp⟩
  have hxl : xs.length ≤ 9 := by
    rw [← evs_len, hev]
    have := HVA.out.2
    unfold roomR at this
    rw [this]; omega
  have HVL : Hid (Valid roomR (evs xs)) := Lib.hid (by rw [hev]; exact HVA.out.1.valid)
  obtain ⟨Av, cv, hv, hv1, hv2, -⟩ := id hes.1
  have hv3 : cv ≤ 9223372036854775807 := by unfold maxLen at hv2; omega
  subst hv
  have HE1 := Lib.hid hes
  have HB1 := Lib.hid (HBl.out.trans (b1.mono HBl.out.size))
  replace HBx := Lib.hid ((b1.block B4 (smem_lt HBx.out)).trans HBx.out)
  have HFP := Lib.hid (fun y (hy : y ∈ xs) k hk => (hfp y hy k hk).2)
  have HB2 := Lib.hid (below_new w1 (.cells #[.string roomR, .slice Av xs.length cv] 26))
  have HW2 := Lib.hid (heap_alloc_new w1 (.cells #[.string roomR, .slice Av xs.length cv] 26))
  clear HMA hes hev b1 hv2 HVA hfp
  unfold roomR at HB2 HW2
  go_upto_region 2 with (fail)
  generalize w1.alloc _ = w2 at HB2 HW2 ⊢
  have HE2 := Lib.hid (HE1.out.below HB2.out)
  replace HBx := Lib.hid ((HB2.out.block B4 (smem_lt HBx.out)).trans HBx.out)
  replace HB1 := Lib.hid (HB1.out.trans (HB2.out.mono HB1.out.size))
  have hs12 := HB2.out.size
  generalize hB3 : w1.heap.size = B3 at HW2 ⊢
  have d0 : w2.cell? ⟨B3, 0, none⟩ = some (.string roomR) := cell_at HW2.out 0
  have d1 : w2.cell? ⟨B3, 1, none⟩ = some (.slice Av xs.length cv) := cell_at HW2.out 1
  have HBU := Lib.hid (build_any C roomR (.slice Av xs.length cv) xs w2 HE2.out HVL.out roomR_room roomR_size (by omega))
  go_wp2_with fail
  go_at_call 7
  refine HBU.out.mono ?_
  rintro e w3 ⟨g, rfl, hbd⟩
  have HD := Lib.hid hbd
  clear hbd HBU d0 d1
  have HB23 : Hid (Below w2.heap.size w2 w3) := Lib.hid HD.out.below
  have HE3 := Lib.hid (HE2.out.below HB23.out)
  replace HBx := Lib.hid ((HB23.out.block B4 (smem_lt HBx.out)).trans HBx.out)
  have HW3 := Lib.hid ((HB23.out.block B3 (smem_lt HW2.out)).trans HW2.out)
  have HB3' := Lib.hid (HB1.out.trans (HB23.out.mono HB1.out.size))
  go_upto_region 5 with (fail)
  have d0 : w3.cell? ⟨B3, 0, none⟩ = some (.string roomR) := cell_at HW3.out 0
  have d1 : w3.cell? ⟨B3, 1, none⟩ = some (.slice Av xs.length cv) := cell_at HW3.out 1
  have r0 := cell_at HBx.out 0
  have r1 := cell_at HBx.out 1
  have r2 := cell_at HBx.out 2
  have r3 := cell_at HBx.out 3
  have r4 := cell_at HBx.out 4
  have r5 := cell_at HBx.out 5
  simp only [List.getElem?_toArray, List.getElem?_cons_succ, List.getElem?_cons_zero] at r0 r1 r2 r3 r4 r5
  have HOC := Lib.hid (HOD.out w3 _ xs HB3'.out HE3.out (by omega))
  go_wp2_with fail
  go_at_call 9
  refine HOC.out.mono ?_
  rintro e w4 ⟨y, rfl, hya, hyo, b4, hyf⟩
  have HXK3 := Lib.hid (HD.out.kept HE2.out)
  have HWK3 := Lib.hid (HD.out.box HW2.out)
  have HYK := Lib.hid (EvK.odd HXK3.out HD.out.code b4 hya hyf)
  have HB5 := Lib.hid (below_new w4 (.cells #[.string y.ev.id, .string y.ev.room, .slice y.A y.ev.parents.length y.cap, .string y.ev.thread, .string y.ev.user, .int .i64 y.ev.does] 33))
  have HEB := Lib.hid (heap_alloc_new w4 (.cells #[.string y.ev.id, .string y.ev.room, .slice y.A y.ev.parents.length y.cap, .string y.ev.thread, .string y.ev.user, .int .i64 y.ev.does] 33))
  have b5 : Below w3.heap.size w3 (w4.alloc (.cells #[.string y.ev.id, .string y.ev.room, .slice y.A y.ev.parents.length y.cap, .string y.ev.thread, .string y.ev.user, .int .i64 y.ev.does] 33)) := b4.trans (HB5.out.mono b4.size)
  have HD4 := Lib.hid (HD.out.later b4)
  have HT35 := Lib.hid (Dags.grow HD.out.code b5).2.1
  have HD5 := Lib.hid (HD.out.later b5)
  have HXK := Lib.hid (HXK3.out.turn HT35.out)
  have HWK := Lib.hid (HWK3.out.turn HT35.out)
  replace HYK := Lib.hid (HYK.out.turn (Dags.grow HD4.out.code HB5.out).2.1)
  have HEK := Lib.hid (BoxK.new HD4.out.code HB5.out HEB.out (Nat.le_refl _))
  clear hya hyo b4 hyf b5 HXK3 HWK3 HT35 HD4 HD HOC HB23 HE3 HBx HW3 HB3' r0 r1 r2 r3 r4 r5 d0 d1 HOD HEB
  go_upto_region 6 with (fail)
  generalize w4.alloc _ = w5 at HB5 HD5 HXK HWK HYK HEK ⊢
  generalize w4.heap.size = B11 at HEK ⊢
  have d0 : w5.cell? ⟨B3, 0, none⟩ = some (.string roomR) := cell_at HWK.out.1 0
  have d1 : w5.cell? ⟨B3, 1, none⟩ = some (.slice Av xs.length cv) := cell_at HWK.out.1 1
  have r0 := cell_at HEK.out.1 0
  have r1 := cell_at HEK.out.1 1
  have r2 := cell_at HEK.out.1 2
  have r3 := cell_at HEK.out.1 3
  have r4 := cell_at HEK.out.1 4
  have r5 := cell_at HEK.out.1 5
  simp only [List.getElem?_toArray, List.getElem?_cons_succ, List.getElem?_cons_zero] at r0 r1 r2 r3 r4 r5
  have HAD := Lib.hid (refAdd_any roomR (.slice Av xs.length cv) xs y w5 HXK.out.1 HYK.out.1 (by omega))
  unfold EvV.val EvV.pv at HAD
  go_wp2_with fail
  go_at_call 10
  refine HAD.out.mono ?_
  rintro e w6 ⟨v', xs', rfl, hes6, -, b6, -⟩
  obtain ⟨A6, c6, rfl, -⟩ := id hes6.1
  have b7 : Below w5.heap.size w5 (w6.alloc (.cells #[.string roomR, .slice A6 xs'.length c6] 26)) := b6.trans ((below_new w6 _).mono b6.size)
  have HT57 := Lib.hid (Dags.grow HD5.out.code b7).2.1
  have HD7 := Lib.hid (HD5.out.later b7)
  replace HXK := Lib.hid (HXK.out.turn HT57.out)
  replace HWK := Lib.hid (HWK.out.turn HT57.out)
  replace HYK := Lib.hid (HYK.out.turn HT57.out)
  replace HEK := Lib.hid (HEK.out.turn HT57.out)
  clear hes6 b6 b7 HT57 HD5 HAD d0 d1 r0 r1 r2 r3 r4 r5
  go_upto_region 7 with (fail)
  generalize w6.alloc _ = w7 at HD7 HXK HWK HYK HEK ⊢
  have r0 := cell_at HEK.out.1 0
  have r1 := cell_at HEK.out.1 1
  have r2 := cell_at HEK.out.1 2
  have r3 := cell_at HEK.out.1 3
  have r4 := cell_at HEK.out.1 4
  have r5 := cell_at HEK.out.1 5
  simp only [List.getElem?_toArray, List.getElem?_cons_succ, List.getElem?_cons_zero] at r0 r1 r2 r3 r4 r5
  have HAD := Lib.hid (C.add y HD7.out.code (by rw [evs_len]; omega) HYK.out.1)
  have HER : Hid (errA roomR (evs xs) y.ev = 0 → errA roomR (evs xs ++ [y.ev]) y.ev = 9 ∧ addA roomR (evs xs ++ [y.ev]) y.ev = evs xs ++ [y.ev]) := Lib.hid (fun h => err_again h)
  have HAA : Hid (addA roomR (evs xs) y.ev = if errA roomR (evs xs) y.ev = 0 then evs xs ++ [y.ev] else evs xs) := Lib.hid rfl
  have HEL := Lib.hid (show errA roomR (evs xs) y.ev = errA roomR (evs xs) y.ev from rfl)
  unfold EvV.val EvV.pv at HAD
  generalize herr : errA roomR (evs xs) y.ev = er at HAD HER HAA ⊢
  generalize addA roomR (evs xs) y.ev = la at HAD HAA
  have HRR := Lib.hid herr
  clear herr HEL
  go_wp2_with fail
  go_at_call 11
  refine HAD.out.mono ?_
  rintro e w8 ⟨rfl, hc8, ht8⟩
  have HD8 := Lib.hid (HD7.out.turn hc8 ht8)
  have HXK8 := Lib.hid (HXK.out.turn ht8)
  have HWK8 := Lib.hid (HWK.out.turn ht8)
  have HYK8 := Lib.hid (HYK.out.turn ht8)
  have HEK8 := Lib.hid (HEK.out.turn ht8)
  clear hc8 ht8 HD7 HXK HWK HYK HEK HAD r0 r1 r2 r3 r4 r5 HW2 HE2 HE1 HB2 HB5 HFP HBl
  by_cases her : er = 0
  · subst her
    have HQ := HER.out rfl
    have HLA : Hid (la = evs xs ++ [y.ev]) := Lib.hid (by rw [HAA.out, if_pos rfl])
    have HE9 := Lib.hid HQ.1
    have HA9 := Lib.hid HQ.2
    rw [← HLA.out] at HE9 HA9
    have HLL : Hid ((la.length : Int) = (xs.length : Int) + 1) := Lib.hid (by rw [HLA.out, List.length_append, evs_len]; simp)
    have hll : la.length ≤ 100 := by have := HLL.out; omega
    have HHS : Hid (hasE la y.ev.id = true) := Lib.hid (has_iff.2 ⟨y.ev, by rw [HLA.out]; simp, rfl⟩)
    clear HQ HER HAA HRR HLA
    go_upto_region 11 with (fail)
    refine wp_region_held_drew (S := fun W => LkS C w8 W g roomR la) (by kernel_rfl) ((show LkS C w8 w8 g roomR la from ⟨HD8.out.code, TurnD.refl⟩).later (Below.refl _ _).drew) (fun hHeld => ?_)
    have HEW : Hid (∀ W, LkS C w8 W g roomR la → W.heap[B11]? = some (.cells #[.string y.ev.id, .string y.ev.room, .slice y.A y.ev.parents.length y.cap, .string y.ev.thread, .string y.ev.user, .int .i64 y.ev.does] 33 (0, 0))) := Lib.hid (fun W h => (HEK8.out.turn h.trn).1)
    have HWW : Hid (∀ W, LkS C w8 W g roomR la → W.heap[B3]? = some (.cells #[.string roomR, .slice Av xs.length cv] 26 (0, 0))) := Lib.hid (fun W h => (HWK8.out.turn h.trn).1)
    have HCH := Lib.hid (fun W (h : LkS C w8 W g roomR la) => C.has y.ev.id h.code hll HYK8.out.1.2.1)
    have HCL := Lib.hid (fun W (h : LkS C w8 W g roomR la) => CL.len h.code hll)
    have HCA := Lib.hid (fun W (h : LkS C w8 W g roomR la) => C.add y h.code hll (HYK8.out.turn h.trn).1)
    rw [HHS.out] at HCH
    rw [HLL.out] at HCL
    rw [HE9.out, HA9.out] at HCA
    unfold EvV.val EvV.pv at HCA
    have HWR : Hid (IntKind.i64.wrap ((xs.length : Int) + 1) = (xs.length : Int) + 1) := Lib.hid (IntWalk.i64_in _ (by omega))
    have q3 : (((xs.length : Int) + 1) == ((xs.length : Int) + 1)) = true := beq_self_eq_true _
    generalize w8.drew = wd at hHeld ⊢
    refine wpAnyH_take (i := 0) (oi := ⟨some 40, _, _, _, _, _⟩) (v := ?vg0) rfl (by kernel_rfl) (by kernel_rfl) (by kernel_rfl) (fun _ _ _ h => h) (Or.inl ⟨by rfl, ?yg0⟩) hHeld ?rg0
    case yg0 =>
      intro wx hSx
      go_simp
      try with_reducible rfl
    try simp only [Act.put, List.setIfInBounds_toArray, List.set_cons_zero, List.set_cons_succ]
    refine wpAnyH_take (i := 1) (oi := ⟨some 41, _, _, _, _, _⟩) (v := ?vg1) rfl (by kernel_rfl) (by kernel_rfl) (by kernel_rfl) (fun _ _ _ h => h) (Or.inl ⟨by rfl, ?yg1⟩) hHeld ?rg1
    case yg1 =>
      intro wx hSx
      go_simp
      try with_reducible rfl
    try simp only [Act.put, List.setIfInBounds_toArray, List.set_cons_zero, List.set_cons_succ]
    refine wpAnyH_take (i := 2) (oi := ⟨some 42, _, _, _, _, _⟩) (v := ?vg2) rfl (by kernel_rfl) (by kernel_rfl) (by kernel_rfl) (fun _ _ _ h => h) (Or.inl ⟨by rfl, ?yg2⟩) hHeld ?rg2
    case yg2 =>
      intro wx hSx
      have p0 := cell_at (HEW.out _ hSx) 0
      have p1 := cell_at (HEW.out _ hSx) 1
      have p2 := cell_at (HEW.out _ hSx) 2
      have p3 := cell_at (HEW.out _ hSx) 3
      have p4 := cell_at (HEW.out _ hSx) 4
      have p5 := cell_at (HEW.out _ hSx) 5
      simp only [List.getElem?_toArray, List.getElem?_cons_succ, List.getElem?_cons_zero] at p0 p1 p2 p3 p4 p5
      go_simp
      try with_reducible rfl
    try simp only [Act.put, List.setIfInBounds_toArray, List.set_cons_zero, List.set_cons_succ]
    refine wpAnyH_ready (rs := [3]) (by kernel_rfl) (by simp) ?_
    refine AllReadyH.cons (o := ⟨some 43, _, _, _, _, _⟩) rfl (fun K hK => ?_) AllReadyH.nil
    go_simp
    refine (HCH.out _ hHeld).mono ?_
    rintro e wn ⟨rfl, hcn, htn⟩
    refine hK.out _ _ (hHeld.turn hcn htn) (fun hHeld => ?_)
    clear hK K hcn htn
    try simp only [Act.put, List.setIfInBounds_toArray, List.set_cons_zero, List.set_cons_succ]
    generalize wn = wd at hHeld ⊢
    refine wpAnyH_take (i := 4) (oi := ⟨some 44, _, _, _, _, _⟩) (v := ?vg4) rfl (by kernel_rfl) (by kernel_rfl) (by kernel_rfl) (fun _ _ _ h => h) (Or.inl ⟨by rfl, ?yg4⟩) hHeld ?rg4
    case yg4 =>
      intro wx hSx
      go_simp
      try with_reducible rfl
    try simp only [Act.put, List.setIfInBounds_toArray, List.set_cons_zero, List.set_cons_succ]
    refine wpAnyH_take (i := 5) (oi := ⟨some 45, _, _, _, _, _⟩) (v := ?vg5) rfl (by kernel_rfl) (by kernel_rfl) (by kernel_rfl) (fun _ _ _ h => h) (Or.inl ⟨by rfl, ?yg5⟩) hHeld ?rg5
    case yg5 =>
      intro wx hSx
      go_simp
      try with_reducible rfl
    try simp only [Act.put, List.setIfInBounds_toArray, List.set_cons_zero, List.set_cons_succ]
    refine wpAnyH_take (i := 7) (oi := ⟨some 47, _, _, _, _, _⟩) (v := ?vg7) rfl (by kernel_rfl) (by kernel_rfl) (by kernel_rfl) (fun _ _ _ h => h) (Or.inl ⟨by rfl, ?yg7⟩) hHeld ?rg7
    case yg7 =>
      intro wx hSx
      go_simp
      try with_reducible rfl
    try simp only [Act.put, List.setIfInBounds_toArray, List.set_cons_zero, List.set_cons_succ]
    refine wpAnyH_take (i := 8) (oi := ⟨some 48, _, _, _, _, _⟩) (v := ?vg8) rfl (by kernel_rfl) (by kernel_rfl) (by kernel_rfl) (fun _ _ _ h => h) (Or.inl ⟨by rfl, ?yg8⟩) hHeld ?rg8
    case yg8 =>
      intro wx hSx
      have p0 := cell_at (HWW.out _ hSx) 0
      have p1 := cell_at (HWW.out _ hSx) 1
      simp only [List.getElem?_toArray, List.getElem?_cons_succ, List.getElem?_cons_zero] at p0 p1
      go_simp
      try with_reducible rfl
    try simp only [Act.put, List.setIfInBounds_toArray, List.set_cons_zero, List.set_cons_succ]
    refine wpAnyH_take (i := 9) (oi := ⟨some 49, _, _, _, _, _⟩) (v := ?vg9) rfl (by kernel_rfl) (by kernel_rfl) (by kernel_rfl) (fun _ _ _ h => h) (Or.inl ⟨by rfl, ?yg9⟩) hHeld ?rg9
    case yg9 =>
      intro wx hSx
      go_simp
      try with_reducible rfl
    try simp only [Act.put, List.setIfInBounds_toArray, List.set_cons_zero, List.set_cons_succ]
    refine wpAnyH_take (i := 10) (oi := ⟨some 50, _, _, _, _, _⟩) (v := .int .i64 ((xs.length : Int) + 1)) rfl (by kernel_rfl) (by kernel_rfl) (by kernel_rfl) (fun _ _ _ h => h) (Or.inl ⟨by rfl, ?yg10⟩) hHeld ?rg10
    case yg10 =>
      intro wx hSx
      skip
      go_simp
      try rw [HWR.out]
    try simp only [Act.put, List.setIfInBounds_toArray, List.set_cons_zero, List.set_cons_succ]
    refine wpAnyH_ready (rs := [6]) (by kernel_rfl) (by simp) ?_
    refine AllReadyH.cons (o := ⟨some 46, _, _, _, _, _⟩) rfl (fun K hK => ?_) AllReadyH.nil
    go_simp
    refine (HCL.out _ hHeld).mono ?_
    rintro e wn ⟨rfl, hcn, htn⟩
    refine hK.out _ _ (hHeld.turn hcn htn) (fun hHeld => ?_)
    clear hK K hcn htn
    try simp only [Act.put, List.setIfInBounds_toArray, List.set_cons_zero, List.set_cons_succ]
    generalize wn = wd at hHeld ⊢
    refine wpAnyH_take (i := 11) (oi := ⟨some 51, _, _, _, _, _⟩) (v := .bool true) rfl (by kernel_rfl) (by kernel_rfl) (by kernel_rfl) (fun _ _ _ h => h) (Or.inl ⟨by rfl, ?yg11⟩) hHeld ?rg11
    case yg11 =>
      intro wx hSx
      skip
      go_simp
      try with_reducible rfl
    try simp only [Act.put, List.setIfInBounds_toArray, List.set_cons_zero, List.set_cons_succ]
    refine wpAnyH_take (i := 12) (oi := ⟨some 52, _, _, _, _, _⟩) (v := ?vg12) rfl (by kernel_rfl) (by kernel_rfl) (by kernel_rfl) (fun _ _ _ h => h) (Or.inl ⟨by rfl, ?yg12⟩) hHeld ?rg12
    case yg12 =>
      intro wx hSx
      go_simp
      try with_reducible rfl
    try simp only [Act.put, List.setIfInBounds_toArray, List.set_cons_zero, List.set_cons_succ]
    refine wpAnyH_take (i := 13) (oi := ⟨some 53, _, _, _, _, _⟩) (v := ?vg13) rfl (by kernel_rfl) (by kernel_rfl) (by kernel_rfl) (fun _ _ _ h => h) (Or.inl ⟨by rfl, ?yg13⟩) hHeld ?rg13
    case yg13 =>
      intro wx hSx
      go_simp
      try with_reducible rfl
    try simp only [Act.put, List.setIfInBounds_toArray, List.set_cons_zero, List.set_cons_succ]
    refine wpAnyH_take (i := 14) (oi := ⟨some 54, _, _, _, _, _⟩) (v := ?vg14) rfl (by kernel_rfl) (by kernel_rfl) (by kernel_rfl) (fun _ _ _ h => h) (Or.inl ⟨by rfl, ?yg14⟩) hHeld ?rg14
    case yg14 =>
      intro wx hSx
      go_simp
      try with_reducible rfl
    try simp only [Act.put, List.setIfInBounds_toArray, List.set_cons_zero, List.set_cons_succ]
    refine wpAnyH_take (i := 15) (oi := ⟨some 55, _, _, _, _, _⟩) (v := ?vg15) rfl (by kernel_rfl) (by kernel_rfl) (by kernel_rfl) (fun _ _ _ h => h) (Or.inl ⟨by rfl, ?yg15⟩) hHeld ?rg15
    case yg15 =>
      intro wx hSx
      have p0 := cell_at (HEW.out _ hSx) 0
      have p1 := cell_at (HEW.out _ hSx) 1
      have p2 := cell_at (HEW.out _ hSx) 2
      have p3 := cell_at (HEW.out _ hSx) 3
      have p4 := cell_at (HEW.out _ hSx) 4
      have p5 := cell_at (HEW.out _ hSx) 5
      simp only [List.getElem?_toArray, List.getElem?_cons_succ, List.getElem?_cons_zero] at p0 p1 p2 p3 p4 p5
      go_simp
      try with_reducible rfl
    try simp only [Act.put, List.setIfInBounds_toArray, List.set_cons_zero, List.set_cons_succ]
    refine wpAnyH_ready (rs := [16]) (by kernel_rfl) (by simp) ?_
    refine AllReadyH.cons (o := ⟨some 56, _, _, _, _, _⟩) rfl (fun K hK => ?_) AllReadyH.nil
    go_simp
    refine (HCA.out _ hHeld).mono ?_
    rintro e wn ⟨rfl, hcn, htn⟩
    refine hK.out _ _ (hHeld.turn hcn htn) (fun hHeld => ?_)
    clear hK K hcn htn
    try simp only [Act.put, List.setIfInBounds_toArray, List.set_cons_zero, List.set_cons_succ]
    generalize wn = wd at hHeld ⊢
    refine wpAnyH_take (i := 17) (oi := ⟨some 57, _, _, _, _, _⟩) (v := ?vg17) rfl (by kernel_rfl) (by kernel_rfl) (by kernel_rfl) (fun _ _ _ h => h) (Or.inl ⟨by rfl, ?yg17⟩) hHeld ?rg17
    case yg17 =>
      intro wx hSx
      go_simp
      try with_reducible rfl
    try simp only [Act.put, List.setIfInBounds_toArray, List.set_cons_zero, List.set_cons_succ]
    refine wpAnyH_take (i := 18) (oi := ⟨some 58, _, _, _, _, _⟩) (v := ?vg18) rfl (by kernel_rfl) (by kernel_rfl) (by kernel_rfl) (fun _ _ _ h => h) (Or.inl ⟨by rfl, ?yg18⟩) hHeld ?rg18
    case yg18 =>
      intro wx hSx
      go_simp
      try with_reducible rfl
    try simp only [Act.put, List.setIfInBounds_toArray, List.set_cons_zero, List.set_cons_succ]
    refine wpAnyH_take (i := 19) (oi := ⟨some 59, _, _, _, _, _⟩) (v := ?vg19) rfl (by kernel_rfl) (by kernel_rfl) (by kernel_rfl) (fun _ _ _ h => h) (Or.inl ⟨by rfl, ?yg19⟩) hHeld ?rg19
    case yg19 =>
      intro wx hSx
      go_simp
      try with_reducible rfl
    try simp only [Act.put, List.setIfInBounds_toArray, List.set_cons_zero, List.set_cons_succ]
    refine wpAnyH_ready (rs := [20]) (by kernel_rfl) (by simp) ?_
    refine AllReadyH.cons (o := ⟨some 60, _, _, _, _, _⟩) rfl (fun K hK => ?_) AllReadyH.nil
    go_simp
    refine (HZ.out _).mono ?_
    rintro e wn ⟨rfl, hbn⟩
    refine hK.out _ _ (hHeld.later hbn) (fun hHeld => ?_)
    clear hK K hbn
    try simp only [Act.put, List.setIfInBounds_toArray, List.set_cons_zero, List.set_cons_succ]
    generalize wn = wd at hHeld ⊢
    refine wpAnyH_take (i := 21) (oi := ⟨some 61, _, _, _, _, _⟩) (v := ?vg21) rfl (by kernel_rfl) (by kernel_rfl) (by kernel_rfl) (fun _ _ _ h => h) (Or.inl ⟨by rfl, ?yg21⟩) hHeld ?rg21
    case yg21 =>
      intro wx hSx
      go_simp
      try with_reducible rfl
    try simp only [Act.put, List.setIfInBounds_toArray, List.set_cons_zero, List.set_cons_succ]
    refine wpAnyH_take (i := 22) (oi := ⟨some 8, _, _, _, _, _⟩) (v := ?vg22) rfl (by kernel_rfl) (by kernel_rfl) (by kernel_rfl) (fun _ _ _ h => h) (Or.inl ⟨by rfl, ?yg22⟩) hHeld ?rg22
    case yg22 =>
      intro wx hSx
      go_simp
      try with_reducible rfl
    try simp only [Act.put, List.setIfInBounds_toArray, List.set_cons_zero, List.set_cons_succ]
    refine wpAnyH_done (by kernel_rfl) ?_ _
    go_wp2_with fail
    go_ret
    exact ⟨rfl, hB4 ▸ HB1.out.trans ((HD8.out.turn hHeld.code hHeld.trn).below.mono HB1.out.size)⟩
  · have q1 : (er == 0) = false := by rw [beq_eq_false_iff_ne]; exact her
    have q2 : (er != er) = false := bne_self_eq_false _
    have q3 : (er == er) = true := beq_self_eq_true _
    have HLA : Hid (la = evs xs) := Lib.hid (by rw [HAA.out, if_neg her])
    rw [HLA.out] at HD8
    clear HER HAA her
    have d0 : w8.cell? ⟨B3, 0, none⟩ = some (.string roomR) := cell_at HWK8.out.1 0
    have d1 : w8.cell? ⟨B3, 1, none⟩ = some (.slice Av xs.length cv) := cell_at HWK8.out.1 1
    have HLK := Lib.hid (like_any C CA CR CL CH roomR w8 g (evs xs) _ xs HD8.out.code HXK8.out.1 HXK8.out.2 HVL.out (by omega) (Alike.refl _))
    go_wp2_with fail
    go_at_call 8
    refine HLK.out.mono ?_
    rintro e w9 ⟨rfl, hc9, ht9⟩
    have HD9 := Lib.hid (HD8.out.turn hc9 ht9)
    have HYK9 := Lib.hid (HYK8.out.turn ht9)
    have HEK9 := Lib.hid (HEK8.out.turn ht9)
    clear hc9 ht9 HD8 HXK8 HWK8 HYK8 HEK8 HLK d0 d1
    have r0 := cell_at HEK9.out.1 0
    have r1 := cell_at HEK9.out.1 1
    have r2 := cell_at HEK9.out.1 2
    have r3 := cell_at HEK9.out.1 3
    have r4 := cell_at HEK9.out.1 4
    have r5 := cell_at HEK9.out.1 5
    simp only [List.getElem?_toArray, List.getElem?_cons_succ, List.getElem?_cons_zero] at r0 r1 r2 r3 r4 r5
    have HAD := Lib.hid (C.add y HD9.out.code (by rw [evs_len]; omega) HYK9.out.1)
    rw [HRR.out] at HAD
    unfold EvV.val EvV.pv at HAD
    go_wp2_with fail
    go_at_call 11
    refine HAD.out.mono ?_
    rintro e wa ⟨rfl, hca, hta⟩
    have HDA := Lib.hid (HD9.out.turn hca hta)
    clear hca hta HD9 HYK9 HEK9 HAD r0 r1 r2 r3 r4 r5
    go_wp2_with fail
    go_at_call 12
    refine (HZ.out _).mono ?_
    rintro e wb ⟨rfl, hbb⟩
    have HDB := Lib.hid (HDA.out.later hbb)
    go_wp2_with fail
    go_ret
    exact ⟨rfl, hB4 ▸ HB1.out.trans (HDB.out.below.mono HB1.out.size)⟩
end Go.Proofs.YtflgpdkdflhhgaaGreat
