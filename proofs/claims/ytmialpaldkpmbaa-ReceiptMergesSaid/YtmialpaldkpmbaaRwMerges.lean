/-
  Two tables put together: the walk of the statement.
-/
import Derived.Test.YtmialpaldkpmbaaRwOrder
namespace Go.Proofs.Ytmialpaldkpmbaa
set_option maxRecDepth 20000
open Go.RowKit Go.Maps Go.ChangeMaps
set_option linter.unusedVariables false
set_option linter.unusedSimpArgs false

set_option maxHeartbeats 1600000 in
theorem receiptMerges_walk (v v' : Value) (l l' : List Mk) (w : World) (h : LM.Slice w v l) (hf : ∀ m ∈ l, m.fit) (h' : LM.Slice w v' l') (hf' : ∀ m ∈ l', m.fit) :
    Calls Try.prog 7 #[v, v'] w fun e w' => e = .returned (.bool true) ∧ Below w.heap.size w w' := by
  have HR := Lib.hid h'
  have HF := Lib.hid hf'
  have HLV := Lib.hid (fun W => lives_any W)
  have HFL := Lib.hid (fill_any true v l 8 w h hf (by decide))
  clear h hf h' hf'
  go_enter Try.func7, Try.ntmps7
  go_wp2_with fail
  go_at_call 9
  refine HFL.out.mono ?_
  rintro e w2 ⟨ra, u, rfl, hfi⟩
  have HK2 := Lib.hid hfi.kt
  have HXL : Hid (RowM ra.l ∧ ra.l.length ≤ 8) := Lib.hid ⟨by rw [hfi.l]; exact fillL_row _ _ _, by rw [hfi.l]; exact fillL_len _ _ _⟩
  obtain ⟨X, hX⟩ : ∃ X, ra.l = X := ⟨_, rfl⟩
  rw [hX] at HXL HK2
  clear hfi HFL
  have HFL := Lib.hid (fill_any true v' l' 8 w2 (HR.out.below HK2.out.below) HF.out (by decide))
  go_wp2_with fail
  go_at_call 9
  refine HFL.out.mono ?_
  rintro e w3 ⟨rb, y, rfl, hfi⟩
  have HK3 := Lib.hid (HK2.out.join hfi.kt (fun k hk => hfi.new k hk.1 hk.2))
  have HYL : Hid (RowM rb.l ∧ rb.l.length ≤ 8 ∧ ∀ m ∈ rb.l, m.ok) := Lib.hid ⟨by rw [hfi.l]; exact fillL_row _ _ _, by rw [hfi.l]; exact fillL_len _ _ _, by rw [hfi.l]; exact fillL_ok _ _ _⟩
  obtain ⟨Y, hY⟩ : ∃ Y, rb.l = Y := ⟨_, rfl⟩
  have hYf : fillL true l' 8 = Y := by rw [← hfi.l, hY]
  rw [hY] at HYL HK3
  replace HK3 : Hid (Kt w w3 [ra, rb] [Th.row LM y Y, Th.row LM u X]) := Lib.hid HK3.out
  clear hfi HFL HK2
  have HFL := Lib.hid (fill_any true v' l' 8 w3 (HR.out.below HK3.out.below) HF.out (by decide))
  go_wp2_with fail
  go_at_call 9
  refine HFL.out.mono ?_
  rintro e w4 ⟨rc, yc, rfl, hfi⟩
  have hZ : rc.l = Y := by rw [hfi.l, hYf]
  have HK4 := Lib.hid (HK3.out.join hfi.kt (fun k hk => hfi.new k hk.1 hk.2))
  replace HK4 : Hid (Kt w w4 [ra, rb, rc] [Th.row LM y Y, Th.row LM u X]) := Lib.hid (HK4.out.less (fun t ht => List.mem_cons_of_mem _ ht))
  clear hfi HFL HK3 hYf HR HF
  obtain ⟨Ay, cy, rfl, hyc, -⟩ := id (HK4.out.is List.mem_cons_self : LM.Slice w4 y Y)
  have HZ := Lib.hid hZ
  have HX := Lib.hid hX
  have HY := Lib.hid hY
  clear hX hY hZ
  go_wp2_with fail
  obtain ⟨nY, hnY⟩ : ∃ n, Y.length = n := ⟨_, rfl⟩
  have hn8 : nY ≤ 8 := by rw [← hnY]; exact HYL.out.2.1
  rw [hnY] at HK4 ⊢
  go_loopw [11, 12, 13, 14, 15] (fun q n i _ _ wr => ∃ a : Nat, i = .int .i64 (a : Int) ∧ n = .int .i64 (cntM X (Y.take a) : Int) ∧ a ≤ nY ∧ Hid (Kt w wr [ra, rb, rc] [Th.row LM q (foldM X (Y.take a)), Th.row LM (.slice Ay nY cy) Y])) (fun _ _ i _ _ _ => nY - (intOf i).toNat)
  case atStart => exact ⟨0, rfl, by rw [List.take_zero]; rfl, Nat.zero_le _, Lib.hid (HK4.out.less (fun t ht => by
    rcases List.mem_cons.1 ht with rfl | ht
    · exact List.mem_cons_of_mem _ List.mem_cons_self
    · rw [List.mem_singleton] at ht
      subst ht
      exact List.mem_cons_self))⟩
  case round =>
    obtain ⟨a, rfl, rfl, ha, HK⟩ := hrel
    clear HK4
    have hcn := cnt_leM (Y.take a) X
    have hfl := fold_leM (Y.take a) X
    rw [List.length_take, hnY, Nat.min_eq_left ha] at hcn hfl
    by_cases hat : a < nY
    · have tq1 : decide ((a : Int) < (nY : Int)) = true := decide_eq_true (by omega)
      have hx : Y[a]? = some Y[a] := List.getElem?_eq_getElem (by omega)
      generalize Y[a] = m at hx
      have HTK : Hid (Y.take a ++ [m] = Y.take (a + 1)) := Lib.hid (by rw [List.take_add_one, hx]; rfl)
      obtain ⟨bo, oo, hA, hbo, hco⟩ := (HK.out.is (t := Th.row LM (.slice Ay nY cy) Y) (List.mem_cons_of_mem _ List.mem_cons_self) : LM.Slice wr _ Y).at hx
      subst hA
      have hiy := index_any (P := Try.prog) knM (by decide) (b := bo) (off := oo) (cap := cy) hat
      simp only [LM] at hiy
      have HXL2 := HXL.out
      have HQ := Lib.hid (fun W (hh : LM.Slice W u11 (foldM X (Y.take a))) => refPutM_any u11 (foldM X (Y.take a)) m.k m.po W hh (row_foldM HXL2.1) (by omega))
      rw [show (⟨m.k, m.po⟩ : Mk) = m from rfl] at HQ
      have HCN := Lib.hid (cnt_snocM (Y.take a) X m)
      rw [HTK.out] at HCN
      have HFS : Hid (putM (foldM X (Y.take a)) m = foldM X (Y.take (a + 1))) := Lib.hid (by rw [← HTK.out, fold_snocM])
      generalize hon : onM (foldM X (Y.take a)) m = on at HCN HQ
      unfold Rk.val Po.val at HQ
      have HMX := Lib.hid hx
      clear hx hco hon HXL2
      go_upto_region 11 with (fail)
      refine wp_region_held_drew (S := fun W => Kt w W [ra, rb, rc] [Th.row LM u11 (foldM X (Y.take a)), Th.row LM (.slice (some ⟨bo, oo, none⟩) nY cy) Y]) (by kernel_rfl) (HK.out.later (below_drew wr)) (fun hHeld => ?_)
      clear HK
      generalize wr.drew = wd at hHeld ⊢
      refine wpAnyH_take (i := 0) (oi := ⟨some 51, _, _, _, _, _⟩) (v := ?vp0) rfl (by kernel_rfl) (by kernel_rfl) (by kernel_rfl) (fun _ _ _ h => h) (Or.inl ⟨by rfl, ?yp0⟩) hHeld ?rp0
      case yp0 =>
        intro wx hSx
        go_simp
        try with_reducible rfl
      try simp only [Act.put, List.setIfInBounds_toArray, List.set_cons_zero, List.set_cons_succ]
      refine wpAnyH_take (i := 1) (oi := ⟨some 52, _, _, _, _, _⟩) (v := ?vp1) rfl (by kernel_rfl) (by kernel_rfl) (by kernel_rfl) (fun _ _ _ h => h) (Or.inl ⟨by rfl, ?yp1⟩) hHeld ?rp1
      case yp1 =>
        intro wx hSx
        go_simp
        try with_reducible rfl
      try simp only [Act.put, List.setIfInBounds_toArray, List.set_cons_zero, List.set_cons_succ]
      refine wpAnyH_take (i := 2) (oi := ⟨some 53, _, _, _, _, _⟩) (v := ?vp2) rfl (by kernel_rfl) (by kernel_rfl) (by kernel_rfl) (fun _ _ _ h => h) (Or.inl ⟨by rfl, ?yp2⟩) hHeld ?rp2
      case yp2 =>
        intro wx hSx
        go_simp
        try with_reducible rfl
      try simp only [Act.put, List.setIfInBounds_toArray, List.set_cons_zero, List.set_cons_succ]
      refine wpAnyH_take (i := 3) (oi := ⟨some 54, _, _, _, _, _⟩) (v := ?vp3) rfl (by kernel_rfl) (by kernel_rfl) (by kernel_rfl) (fun _ _ _ h => h) (Or.inl ⟨by rfl, ?yp3⟩) hHeld ?rp3
      case yp3 =>
        intro wx hSx
        go_simp
        try with_reducible rfl
      try simp only [Act.put, List.setIfInBounds_toArray, List.set_cons_zero, List.set_cons_succ]
      refine wpAnyH_take (i := 4) (oi := ⟨some 55, _, _, _, _, _⟩) (v := ?vp4) rfl (by kernel_rfl) (by kernel_rfl) (by kernel_rfl) (fun _ _ _ h => h) (Or.inl ⟨by rfl, ?yp4⟩) hHeld ?rp4
      case yp4 =>
        intro wx hSx
        go_simp
        try with_reducible rfl
      try simp only [Act.put, List.setIfInBounds_toArray, List.set_cons_zero, List.set_cons_succ]
      refine wpAnyH_take (i := 5) (oi := ⟨some 56, _, _, _, _, _⟩) (v := ?vp5) rfl (by kernel_rfl) (by kernel_rfl) (by kernel_rfl) (fun _ _ _ h => h) (Or.inl ⟨by rfl, ?yp5⟩) hHeld ?rp5
      case yp5 =>
        intro wx hSx
        obtain ⟨z0, z1, z2, z3, -, -⟩ := range6 ((hSx.is (t := Th.row LM (.slice (some ⟨bo, oo, none⟩) nY cy) Y) (List.mem_cons_of_mem _ List.mem_cons_self) : LM.Slice wx _ Y).cells HMX.out)
        simp only [LM] at z0 z1 z2 z3
        go_simp
        try with_reducible rfl
      try simp only [Act.put, List.setIfInBounds_toArray, List.set_cons_zero, List.set_cons_succ]
      refine wpAnyH_take (i := 6) (oi := ⟨some 57, _, _, _, _, _⟩) (v := ?vp6) rfl (by kernel_rfl) (by kernel_rfl) (by kernel_rfl) (fun _ _ _ h => h) (Or.inl ⟨by rfl, ?yp6⟩) hHeld ?rp6
      case yp6 =>
        intro wx hSx
        go_simp
        try with_reducible rfl
      try simp only [Act.put, List.setIfInBounds_toArray, List.set_cons_zero, List.set_cons_succ]
      refine wpAnyH_take (i := 7) (oi := ⟨some 58, _, _, _, _, _⟩) (v := ?vp7) rfl (by kernel_rfl) (by kernel_rfl) (by kernel_rfl) (fun _ _ _ h => h) (Or.inl ⟨by rfl, ?yp7⟩) hHeld ?rp7
      case yp7 =>
        intro wx hSx
        go_simp
        try with_reducible rfl
      try simp only [Act.put, List.setIfInBounds_toArray, List.set_cons_zero, List.set_cons_succ]
      refine wpAnyH_take (i := 8) (oi := ⟨some 59, _, _, _, _, _⟩) (v := ?vp8) rfl (by kernel_rfl) (by kernel_rfl) (by kernel_rfl) (fun _ _ _ h => h) (Or.inl ⟨by rfl, ?yp8⟩) hHeld ?rp8
      case yp8 =>
        intro wx hSx
        go_simp
        try with_reducible rfl
      try simp only [Act.put, List.setIfInBounds_toArray, List.set_cons_zero, List.set_cons_succ]
      refine wpAnyH_take (i := 9) (oi := ⟨some 60, _, _, _, _, _⟩) (v := ?vp9) rfl (by kernel_rfl) (by kernel_rfl) (by kernel_rfl) (fun _ _ _ h => h) (Or.inl ⟨by rfl, ?yp9⟩) hHeld ?rp9
      case yp9 =>
        intro wx hSx
        go_simp
        try with_reducible rfl
      try simp only [Act.put, List.setIfInBounds_toArray, List.set_cons_zero, List.set_cons_succ]
      refine wpAnyH_take (i := 10) (oi := ⟨some 61, _, _, _, _, _⟩) (v := ?vp10) rfl (by kernel_rfl) (by kernel_rfl) (by kernel_rfl) (fun _ _ _ h => h) (Or.inl ⟨by rfl, ?yp10⟩) hHeld ?rp10
      case yp10 =>
        intro wx hSx
        obtain ⟨-, -, -, -, z4, z5⟩ := range6 ((hSx.is (t := Th.row LM (.slice (some ⟨bo, oo, none⟩) nY cy) Y) (List.mem_cons_of_mem _ List.mem_cons_self) : LM.Slice wx _ Y).cells HMX.out)
        simp only [LM] at z4 z5
        go_simp
        try with_reducible rfl
      try simp only [Act.put, List.setIfInBounds_toArray, List.set_cons_zero, List.set_cons_succ]
      refine wpAnyH_ready (rs := [11]) (by kernel_rfl) (by simp) ?_
      refine AllReadyH.cons (o := ⟨some 62, _, _, _, _, _⟩) rfl (fun K hK => ?_) AllReadyH.nil
      go_simp
      refine (HQ.out _ (hHeld.is List.mem_cons_self)).mono ?_
      rintro e wp ⟨q6, rfl, hp6, b6⟩
      have HK6 := Lib.hid (Kt.putL hHeld b6 hp6)
      rw [HFS.out] at HK6
      have HK7 : Hid (Kt w wp [ra, rb, rc] [Th.row LM q6 (foldM X (Y.take (a + 1))), Th.row LM (.slice (some ⟨bo, oo, none⟩) nY cy) Y]) := Lib.hid (HK6.out.less (fun t ht => by
        rcases List.mem_cons.1 ht with rfl | ht
        · exact List.mem_cons_self
        · rw [List.mem_singleton] at ht
          subst ht
          exact List.mem_cons_of_mem _ (List.mem_cons_of_mem _ List.mem_cons_self)))
      refine hK.out _ _ (hHeld.later b6) (fun hHeld => ?_)
      clear hK K hp6 b6 HK6
      try simp only [Act.put, List.setIfInBounds_toArray, List.set_cons_zero, List.set_cons_succ]
      refine wpAnyH_take (i := 12) (oi := ⟨some 50, _, _, _, _, _⟩) (v := ?vp12) rfl (by kernel_rfl) (by kernel_rfl) (by kernel_rfl) (fun _ _ _ h => h) (Or.inl ⟨by rfl, ?yp12⟩) hHeld ?rp12
      case yp12 =>
        intro wx hSx
        go_simp
        try with_reducible rfl
      try simp only [Act.put, List.setIfInBounds_toArray, List.set_cons_zero, List.set_cons_succ]
      refine wpAnyH_take (i := 13) (oi := ⟨some 63, _, _, _, _, _⟩) (v := ?vp13) rfl (by kernel_rfl) (by kernel_rfl) (by kernel_rfl) (fun _ _ _ h => h) (Or.inl ⟨by rfl, ?yp13⟩) hHeld ?rp13
      case yp13 =>
        intro wx hSx
        go_simp
        try with_reducible rfl
      try simp only [Act.put, List.setIfInBounds_toArray, List.set_cons_zero, List.set_cons_succ]
      refine wpAnyH_take (i := 14) (oi := ⟨some 64, _, _, _, _, _⟩) (v := ?vp14) rfl (by kernel_rfl) (by kernel_rfl) (by kernel_rfl) (fun _ _ _ h => h) (Or.inl ⟨by rfl, ?yp14⟩) hHeld ?rp14
      case yp14 =>
        intro wx hSx
        go_simp
        try with_reducible rfl
      try simp only [Act.put, List.setIfInBounds_toArray, List.set_cons_zero, List.set_cons_succ]
      refine wpAnyH_take (i := 15) (oi := ⟨some 14, _, _, _, _, _⟩) (v := ?vp15) rfl (by kernel_rfl) (by kernel_rfl) (by kernel_rfl) (fun _ _ _ h => h) (Or.inl ⟨by rfl, ?yp15⟩) hHeld ?rp15
      case yp15 =>
        intro wx hSx
        go_simp
        try with_reducible rfl
      try simp only [Act.put, List.setIfInBounds_toArray, List.set_cons_zero, List.set_cons_succ]
      refine wpAnyH_take (i := 16) (oi := ⟨some 15, _, _, _, _, _⟩) (v := ?vp16) rfl (by kernel_rfl) (by kernel_rfl) (by kernel_rfl) (fun _ _ _ h => h) (Or.inl ⟨by rfl, ?yp16⟩) hHeld ?rp16
      case yp16 =>
        intro wx hSx
        go_simp
        try with_reducible rfl
      try simp only [Act.put, List.setIfInBounds_toArray, List.set_cons_zero, List.set_cons_succ]
      refine wpAnyH_done (by kernel_rfl) ?_ _
      clear hHeld HQ hiy
      cases on
      · have HC2 : Hid (cntM X (Y.take a) = cntM X (Y.take (a + 1))) := Lib.hid (by rw [HCN.out]; rfl)
        clear HCN
        go_wp2_with fail
        refine ⟨⟨a + 1, by go_num, by rw [HC2.out], by omega, HK7⟩, ?_⟩
        simp [intOf]; omega
      · have HC2 : Hid (cntM X (Y.take a) + 1 = cntM X (Y.take (a + 1))) := Lib.hid (by rw [HCN.out]; rfl)
        clear HCN
        go_wp2_with fail
        refine ⟨⟨a + 1, by go_num, ?_, by omega, HK7⟩, ?_⟩
        · rw [← HC2.out]
          go_num
        · simp [intOf]; omega
    · have tq1 : decide ((a : Int) < (nY : Int)) = false := decide_eq_false (by omega)
      obtain rfl : a = nY := by omega
      rw [← hnY, List.take_length] at *
      have HWL : Hid ((foldM X Y).length ≤ 16 ∧ RowM (foldM X Y)) := Lib.hid ⟨by have h3 := fold_leM Y X; have := HXL.out.2; have := HYL.out.2.1; omega, row_foldM HXL.out.1⟩
      have HM1 := Lib.hid (rcMerge_any (HK.out.ct (i := 0) rfl) (HK.out.ct (i := 1) rfl) (by rw [HX.out]; have := HXL.out.2; omega) (by rw [HY.out]; have := HYL.out.2.1; omega))
      rw [HX.out, HY.out] at HM1
      go_wp2_with fail
      go_at_call 26
      refine HM1.out.mono ?_
      rintro e w5 ⟨rfl, hp5⟩
      obtain ⟨ra1, e1, e2, e3, hk5⟩ := HK.out.mergeP (i := 0) rfl hp5
      rw [HX.out] at e3
      have HA1 := Lib.hid e3
      have HK5 : Hid (Kt w w5 [ra1, rb, rc] [Th.row LM u11 (foldM X Y), Th.row LM (.slice Ay Y.length cy) Y]) := Lib.hid hk5
      have HG1 := Lib.hid e1
      clear e1 e2 e3 hp5 hk5 HK HM1
      have HM2 := Lib.hid (rcMerge_any (HK5.out.ct (i := 1) rfl) (HK5.out.ct (i := 0) rfl) (by rw [HY.out]; have := HYL.out.2.1; omega) (by rw [HA1.out]; have := HWL.out.1; omega))
      rw [HA1.out, HY.out, HG1.out] at HM2
      go_wp2_with fail
      go_at_call 26
      refine HM2.out.mono ?_
      rintro e w6 ⟨rfl, hp6⟩
      obtain ⟨rb1, e1, e2, e3, hk6⟩ := HK5.out.mergeP (i := 1) rfl hp6
      rw [HY.out, merge_sameM HXL.out.1 HYL.out.1] at e3
      have HB1 := Lib.hid e3
      have HK6 : Hid (Kt w w6 [ra1, rb1, rc] [Th.row LM u11 (foldM X Y), Th.row LM (.slice Ay Y.length cy) Y]) := Lib.hid hk6
      have HG2 := Lib.hid e1
      clear e1 e2 e3 hp6 hk6 HK5 HM2
      have HM3 := Lib.hid (rcMerge_any (HK6.out.ct (i := 0) rfl) (HK6.out.ct (i := 2) rfl) (by rw [HA1.out]; have := HWL.out.1; omega) (by rw [HZ.out]; have := HYL.out.2.1; omega))
      have hag := again_mergeM (x := X) (y := Y) HXL.out.1
      rw [HA1.out, HZ.out, HG1.out, hag.2] at HM3
      have HAG := Lib.hid hag.1
      clear hag
      go_wp2_with fail
      go_at_call 26
      refine HM3.out.mono ?_
      rintro e w7 ⟨rfl, hp7⟩
      obtain ⟨ra2, e1, e2, e3, hk7⟩ := HK6.out.mergeP (i := 0) rfl hp7
      rw [HA1.out, HAG.out] at e3
      have HA2 := Lib.hid e3
      have HK7 : Hid (Kt w w7 [ra2, rb1, rc] [Th.row LM u11 (foldM X Y), Th.row LM (.slice Ay Y.length cy) Y]) := Lib.hid hk7
      have HG3 := Lib.hid (e1.trans HG1.out)
      clear e1 e2 e3 hp7 hk7 HK6 HM3 HAG HG1 HA1
      have HAL := Lib.hid (rcAll_any (HK7.out.ct (i := 0) rfl) (by rw [HA2.out]; have := HWL.out.1; omega))
      rw [HG3.out, HA2.out] at HAL
      go_wp2_with fail
      go_at_call 11
      refine HAL.out.mono ?_
      rintro e wa1 ⟨va1, rfl, hma1, hba1⟩
      have HKA1 := Lib.hid (HK7.out.later hba1)
      have HLK := Lib.hid (like_same va1 u11 (foldM X Y) wa1 hma1.slice (HKA1.out.is List.mem_cons_self))
      clear hma1 hba1 HAL HK7
      go_wp2_with fail
      go_at_call 10
      refine HLK.out.mono ?_
      rintro e wl1 ⟨rfl, hgl1⟩
      have HKL1 := Lib.hid (HKA1.out.later hgl1.below)
      clear hgl1 HLK HKA1
      have HAL := Lib.hid (rcAll_any (HKL1.out.ct (i := 1) rfl) (by rw [HB1.out]; have := HWL.out.1; omega))
      rw [HG2.out, HB1.out] at HAL
      go_wp2_with fail
      go_at_call 11
      refine HAL.out.mono ?_
      rintro e wa2 ⟨va2, rfl, hma2, hba2⟩
      have HKA2 := Lib.hid (HKL1.out.later hba2)
      have HLK := Lib.hid (like_same va2 u11 (foldM X Y) wa2 hma2.slice (HKA2.out.is List.mem_cons_self))
      clear hma2 hba2 HAL HKL1
      go_wp2_with fail
      go_at_call 10
      refine HLK.out.mono ?_
      rintro e wl2 ⟨rfl, hgl2⟩
      have HKL2 := Lib.hid (HKA2.out.later hgl2.below)
      clear hgl2 HLK HKA2
      have HAL := Lib.hid (rcAll_any (HKL2.out.ct (i := 2) rfl) (by rw [HZ.out]; have := HYL.out.2.1; omega))
      rw [HZ.out] at HAL
      go_wp2_with fail
      go_at_call 11
      refine HAL.out.mono ?_
      rintro e wa3 ⟨va3, rfl, hma3, hba3⟩
      have HKA3 := Lib.hid (HKL2.out.later hba3)
      have HLK := Lib.hid (like_same va3 (.slice Ay Y.length cy) Y wa3 hma3.slice (HKA3.out.is (List.mem_cons_of_mem _ List.mem_cons_self)))
      clear hma3 hba3 HAL HKL2
      go_wp2_with fail
      go_at_call 10
      refine HLK.out.mono ?_
      rintro e wl3 ⟨rfl, hgl3⟩
      have HKL3 := Lib.hid (HKA3.out.later hgl3.below)
      clear hgl3 HLK HKA3
      go_wp2_with fail
      go_at_call 15
      refine (HLV.out _).mono ?_
      rintro e wz ⟨rfl, hbl⟩
      have HBE := Lib.hid (HKL3.out.below.trans (hbl.mono HKL3.out.below.size))
      clear hbl
      go_wp2_with fail
      go_ret
      exact ⟨rfl, HBE.out⟩
end Go.Proofs.Ytmialpaldkpmbaa
