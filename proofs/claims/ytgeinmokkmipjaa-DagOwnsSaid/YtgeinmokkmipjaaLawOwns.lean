/-
  DagOwns: an event that was told, or handed in, may be changed, and the dag stays.
-/
import Derived.Test.YtgeinmokkmipjaaOwnsA
import Derived.Test.YtgeinmokkmipjaaDgM
import Derived.BigQuiet
import Derived.Deep.DeepCutAuto
namespace Go.Proofs.Ytgeinmokkmipjaa
set_option maxRecDepth 20000
open Go.RowKit
set_option linter.unusedVariables false
set_option linter.unusedSimpArgs false

theorem evX_none {l : List Ev} {ts : List ByteArray} (h : Rowed roomR l) : hasE (l ++ [evX ts]) ⟨#[36, 110, 111, 110, 101]⟩ = false := by
  rw [Bool.eq_false_iff]
  intro hh
  obtain ⟨x, hx, he⟩ := has_iff.1 hh
  have h9 := h.le
  rcases List.mem_append.1 hx with hx | hx
  · obtain ⟨i, hi, rfl⟩ := List.getElem_of_mem hx
    rw [h.ids i _ (List.getElem?_eq_getElem hi)] at he
    exact key_none ⟨i, by omega⟩ he
  · rw [List.mem_singleton.1 hx] at he
    exact (show (⟨#[36, 120]⟩ : ByteArray) ≠ ⟨#[36, 110, 111, 110, 101]⟩ by decide) he
theorem DqS.set {C : Dags} {w wr : World} {g B i : Nat} {u : Value} {room : ByteArray} {l : List Ev} {cs : Array Value} {t : TypeId} (h : DqS C w wr g B room l cs t) (hB : w.heap.size ≤ B) : DqS C w (wr.setCell ⟨B, i, none⟩ u) g B room l (cs.setIfInBounds i u) t ∧ ∀ k, C.own (wr.setCell ⟨B, i, none⟩ u) g k → C.own wr g k := by
  obtain ⟨h1, h2⟩ := h.bd.far (sm_grown wr B i [u]) hB h.no
  exact ⟨⟨h1, heap_set h.box i u, fun ho => h.no (h2 _ ho)⟩, h2⟩

set_option maxHeartbeats 6400000 in
theorem dagOwns_walk (C : Dags) (CA : DagAlls C) (v : Value) (gs : List GV) (kk : Int) (s0 : ByteArray) (w : World) (h : GsS w v gs) (hk0 : -9223372036854775808 ≤ kk) (hk1 : kk ≤ 9223372036854775807) (hs0 : s0.size ≤ maxLen) :
    Calls Try.prog 6 #[v, .int .i64 kk, .string s0] w fun e w' => e = .returned (.bool true) ∧ Below w.heap.size w w' := by
  have HMA := Lib.hid (refMade_any roomR v gs w h roomR_room)
  have HVA := Lib.hid (madeTo_row roomR_room (gps gs) (min gs.length 9) (by omega) (by rw [List.length_map]; omega))
  have HZ := Lib.hid (fun W => lives_any C W)
  have HFS := Lib.hid (fun W => few_any s0 3 (by decide) W hs0)
  obtain ⟨A0, c0, rfl, -⟩ := id h.1
  clear h hs0
  unfold roomR at HMA
  generalize fewS s0 3 = s at HFS
  go_enter Try.func6, Try.ntmps6
  go_wp2_with fail
  go_at_call 9
  refine HMA.out.mono ?_
  rintro e w1 ⟨v', xs, rfl, hes, hev, b1, -⟩
  have hxl : xs.length ≤ 9 := by
    rw [← evs_len, hev]
    have := HVA.out.2
    unfold roomR at this
    rw [this]; omega
  have HRW : Hid (Rowed roomR (evs xs)) := Lib.hid (by rw [hev]; exact HVA.out.1)
  obtain ⟨Av, cv, hv, hv1, hv2, -⟩ := id hes.1
  have hv3 : cv ≤ 9223372036854775807 := by unfold maxLen at hv2; omega
  subst hv
  have HE1 := Lib.hid hes
  have HB1 := Lib.hid b1
  have HB2 := Lib.hid (below_new w1 (.cells #[.string roomR, .slice Av xs.length cv] 30))
  have HW2 := Lib.hid (heap_alloc_new w1 (.cells #[.string roomR, .slice Av xs.length cv] 30))
  clear HMA hes hev b1 hv2 HVA
  unfold roomR at HB2 HW2
  go_upto_region 2 with (fail)
  generalize w1.alloc _ = w2 at HB2 HW2 ⊢
  have HE2 := Lib.hid (HE1.out.below HB2.out)
  generalize hB3 : w1.heap.size = B3 at HW2 ⊢
  have d0 : w2.cell? ⟨B3, 0, none⟩ = some (.string roomR) := cell_at HW2.out 0
  have d1 : w2.cell? ⟨B3, 1, none⟩ = some (.slice Av xs.length cv) := cell_at HW2.out 1
  have HBU := Lib.hid (build_any C roomR (.slice Av xs.length cv) xs w2 HE2.out HRW.out.valid roomR_room roomR_size (by omega))
  have HBW : Hid (Below w.heap.size w w2) := Lib.hid (HB1.out.trans (HB2.out.mono HB1.out.size))
  go_wp2_with fail
  go_at_call 15
  refine HBU.out.mono ?_
  rintro e w3 ⟨g, rfl, hbd⟩
  have HD := Lib.hid hbd
  clear hbd HBU d0 d1 HB1 HB2 HE1
  go_wp2_with fail
  go_at_call 18
  refine (HFS.out _).mono ?_
  rintro e w' ⟨rfl, rfl⟩
  have HAL := Lib.hid (CA.all HD.out.code (by rw [evs_len]; omega))
  go_wp2_with fail
  go_at_call 20
  refine HAL.out.mono ?_
  rintro e w4 ⟨va, rfl, ys, hrow, htv, heach, hevy, hcd, htu⟩
  have hylen : ys.length ≤ 9 := by
    have h9 := congrArg List.length hevy
    rw [evs_len, allL_len, evs_len] at h9
    omega
  have HOL : Hid (OwL C w2 w4 g roomR (evs xs) w3.heap.size va ys) := Lib.hid ⟨HD.out.turn hcd htu, HD.out.below.size, hrow, fun y hy => TxS.of (heach y hy).2.1, fun y hy => (heach y hy).2.2⟩
  have HPB : Hid (∀ y ∈ ys, y.ev.parents.length ≤ 4) := Lib.hid (fun y hy => by
    have h8 : y.ev ∈ allL (evs xs) := by rw [← hevy]; exact List.mem_map.2 ⟨y, hy, rfl⟩
    obtain ⟨i, hi, he⟩ := List.getElem_of_mem (((allL_row HRW.out.valid).2 y.ev).1 h8)
    have := (may_short (err_zero (HRW.out.valid i y.ev (by rw [List.getElem?_eq_getElem hi, he]))).1).2.2.2.2.2.2.2
    exact this)
  obtain ⟨Ay, cy, hvy, hy1, hy2, -⟩ := id hrow.shape
  have hy3 : cy ≤ 9223372036854775807 := by unfold maxLen at hy2; omega
  subst hvy
  clear hrow htv heach hevy hcd htu HAL HD hy2
  go_wp2_with fail
  go_loopw [10] (fun i wr => ∃ (a : Nat), i = .int .i64 (a : Int) ∧ a ≤ ys.length ∧ Hid (OwL C w2 wr g roomR (evs xs) w3.heap.size (.slice Ay ys.length cy) ys)) (fun i _ => ys.length - (intOf i).toNat)
  case atStart => exact ⟨0, rfl, Nat.zero_le _, HOL⟩
  case round =>
    obtain ⟨a, rfl, ha, HOR⟩ := hrel
    clear HOL
    by_cases hlt : a < ys.length
    · have q1 : decide ((a : Int) < (ys.length : Int)) = true := decide_eq_true (by omega)
      have hy : ys[a]? = some ys[a] := List.getElem?_eq_getElem hlt
      generalize ys[a] = y at hy
      have HYM := Lib.hid (List.mem_of_getElem? hy)
      have hp4 := HPB.out y HYM.out
      obtain ⟨by', oy, rfl, hbby, -⟩ := HOR.out.row.slice.at hy
      have hiy := index_any (P := Try.prog) knV (by decide) (b := by') (off := oy) (cap := cy) hlt
      simp only [LV] at hiy
      have HYC : Hid (∀ W, OwL C w2 W g roomR (evs xs) w3.heap.size (.slice (some ⟨by', oy, none⟩) ys.length cy) ys → W.cell? ⟨by', oy + a * 6 + 2, none⟩ = some y.pv) := Lib.hid (fun W hW => by
        obtain ⟨b9, o9, e9, _, hr9⟩ := hW.row.slice.at hy
        injection e9 with e9
        injection e9 with e1 e2 _
        subst e1 e2
        exact hr9 2 _ rfl)
      unfold EvV.pv at HYC
      clear hy
      go_wp2_with fail
      go_loopw [11] (fun i wr => ∃ (c : Nat), i = .int .i64 (c : Int) ∧ c ≤ y.ev.parents.length ∧ Hid (OwL C w2 wr g roomR (evs xs) w3.heap.size (.slice (some ⟨by', oy, none⟩) ys.length cy) ys)) (fun i _ => y.ev.parents.length - (intOf i).toNat)
      case atStart => exact ⟨0, rfl, Nat.zero_le _, HOR⟩
      case round =>
        obtain ⟨c, rfl, hc, HOQ⟩ := hrel
        clear HOR
        have x2 := HYC.out wr HOQ.out
        by_cases hcl : c < y.ev.parents.length
        · rcases id (HOQ.out.each y HYM.out) with ⟨_, hz⟩ | ⟨bp, op, cp, cur, hpv, hN, hh, hsz⟩
          · omega
          · have q2 : decide ((c : Int) < (y.ev.parents.length : Int)) = true := decide_eq_true (by omega)
            have hpv' : y.A = some ⟨bp, op, none⟩ ∧ y.cap = cp := by
              unfold EvV.pv at hpv
              injection hpv with e1 _ e3
              exact ⟨e1, e3⟩
            rw [hpv'.1] at x2
            have hip := index_any (P := Try.prog) knT (by decide) (b := bp) (off := op) (cap := y.cap) hcl
            simp only [LT] at hip
            rw [Nat.mul_one] at hip
            have z0 : wr.frozen? ⟨bp, op + c, none⟩ = false := by simp [World.frozen?, hh]
            have hcc : ∃ u, wr.cell? ⟨bp, op + c, none⟩ = some u := ⟨cur[op + c]'(by omega), by rw [cell_of_row wr bp (op + c) cur _ _ hh, Array.getElem?_eq_getElem]⟩
            obtain ⟨u, hcu⟩ := hcc
            have HOS := Lib.hid (HOQ.out.set (j := c) (u := .string s) HYM.out hpv)
            clear hpv hpv' hh hsz hN
            go_wp2_with fail
            refine ⟨⟨c + 1, by go_num, by omega, HOS⟩, ?_⟩
            simp [intOf]; omega
        · have q2 : decide ((c : Int) < (y.ev.parents.length : Int)) = false := decide_eq_false (by omega)
          go_wp2_with fail
          refine ⟨⟨a + 1, by go_num, by omega, HOQ⟩, ?_⟩
          simp [intOf]; omega
    · have q1 : decide ((a : Int) < (ys.length : Int)) = false := decide_eq_false (by omega)
      have HD := Lib.hid HOR.out.bd
      clear HOR
      obtain ⟨w5, hw5⟩ : ∃ w5, w5 = wr := ⟨_, rfl⟩
      subst hw5
      have hsw := HD.out.below.size
      have d0 : w5.cell? ⟨B3, 0, none⟩ = some (.string roomR) := (HD.out.below.cell (p := ⟨B3, 0, none⟩) (smem_lt HW2.out)).trans (cell_at HW2.out 0)
      have HQ := Lib.hid (DqS.made HD.out #[.string ⟨#[36, 120]⟩, .string roomR, .slice none 0 0, .string ⟨#[]⟩, .string ⟨#[64, 97, 58, 115, 49]⟩, .int .i64 0] 24)
      go_upto_region 15 with (fail)
      clear d0 HD
      generalize w5.alloc _ = w6 at HQ ⊢
      generalize w5.heap.size = B12 at HQ hsw ⊢
      have d1 : w6.cell? ⟨B3, 1, none⟩ = some (.slice Av xs.length cv) := (HQ.out.bd.below.cell (p := ⟨B3, 1, none⟩) (smem_lt HW2.out)).trans (cell_at HW2.out 1)
      by_cases hx0 : 0 < xs.length
      · have q3 : decide ((0 : Int) < (xs.length : Int)) = true := decide_eq_true (by omega)
        have q3' : decide (0 < xs.length) = true := decide_eq_true hx0
        have hal := aroundN_lt kk hx0
        have HAK := Lib.hid (fun W => around_any kk (xs.length : Int) W hk0 hk1 (by omega) (by omega))
        rw [around_nat kk hx0] at HAK
        generalize aroundN kk (xs.length : Int) = t at hal HAK
        have hx : xs[t]? = some xs[t] := List.getElem?_eq_getElem hal
        generalize xs[t] = x at hx
        have HID : Hid (x.ev.id = eventK t) := Lib.hid (HRW.out.ids t x.ev (by rw [List.getElem?_map, hx]; rfl))
        obtain ⟨bx, ox, rfl, hbx, hrx⟩ := ev_at HE2.out hx
        have hix := index_any (P := Try.prog) knV (by decide) (b := bx) (off := ox) (cap := cv) hal
        simp only [LV] at hix
        have hx0c : w2.cell? ⟨bx, ox + t * 6, none⟩ = some (.string (eventK t)) := by rw [← HID.out]; exact hrx 0 _ rfl
        clear hx hrx
        go_upto_region 16 with (fail)
        go_cut [13] from 62 to 74 (fun s13 wx => ∃ Bs, Hid (B12 < Bs) ∧ Hid (wx.heap[Bs]? = some (.cells #[.string (eventK t)] 9 (0, 0))) ∧ Hid (DqS C w2 wx g B12 roomR (evs xs) #[.string ⟨#[36, 120]⟩, .string roomR, .slice (some ⟨Bs, 0, none⟩) 1 1, .string ⟨#[]⟩, .string ⟨#[64, 97, 58, 115, 49]⟩, .int .i64 0] 24) ∧ Hid (¬ C.own wx g Bs))
        case first =>
          refine wp_region_held_drew (S := fun w' => Below w2.heap.size w2 w') (by kernel_rfl) HQ.out.bd.below.drew (fun hHeld => ?_)
          replace HQ := Lib.hid (HQ.out.later (w2 := w6.drew) ⟨rfl, rfl, rfl, Nat.le_refl _, fun _ _ => rfl⟩)
          clear d1
          generalize w6.drew = wd at HQ hHeld ⊢
          refine wpAnyH_take (i := 0) (oi := ⟨some 63, _, _, _, _, _⟩) (v := ?va0) rfl (by kernel_rfl) (by kernel_rfl) (by kernel_rfl) (fun _ _ _ h => h) (Or.inl ⟨by rfl, ?ya0⟩) hHeld ?ra0
          case ya0 =>
            intro wx hSx
            go_simp
            try with_reducible rfl
          try simp only [Act.put, List.setIfInBounds_toArray, List.set_cons_zero, List.set_cons_succ]
          refine wpAnyH_take (i := 1) (oi := ⟨some 64, _, _, _, _, _⟩) (v := ?va1) rfl (by kernel_rfl) (by kernel_rfl) (by kernel_rfl) (fun _ _ _ h => h) (Or.inl ⟨by rfl, ?ya1⟩) hHeld ?ra1
          case ya1 =>
            intro wx hSx
            have z := (hSx.cell (p := ⟨B3, 1, none⟩) (smem_lt HW2.out)).trans (cell_at HW2.out 1)
            simp only [List.getElem?_toArray, List.getElem?_cons_succ, List.getElem?_cons_zero] at z
            go_simp
            try with_reducible rfl
          try simp only [Act.put, List.setIfInBounds_toArray, List.set_cons_zero, List.set_cons_succ]
          refine wpAnyH_take (i := 2) (oi := ⟨some 65, _, _, _, _, _⟩) (v := ?va2) rfl (by kernel_rfl) (by kernel_rfl) (by kernel_rfl) (fun _ _ _ h => h) (Or.inl ⟨by rfl, ?ya2⟩) hHeld ?ra2
          case ya2 =>
            intro wx hSx
            go_simp
            try with_reducible rfl
          try simp only [Act.put, List.setIfInBounds_toArray, List.set_cons_zero, List.set_cons_succ]
          refine wpAnyH_take (i := 3) (oi := ⟨some 66, _, _, _, _, _⟩) (v := ?va3) rfl (by kernel_rfl) (by kernel_rfl) (by kernel_rfl) (fun _ _ _ h => h) (Or.inl ⟨by rfl, ?ya3⟩) hHeld ?ra3
          case ya3 =>
            intro wx hSx
            go_simp
            try with_reducible rfl
          try simp only [Act.put, List.setIfInBounds_toArray, List.set_cons_zero, List.set_cons_succ]
          refine wpAnyH_take (i := 4) (oi := ⟨some 67, _, _, _, _, _⟩) (v := ?va4) rfl (by kernel_rfl) (by kernel_rfl) (by kernel_rfl) (fun _ _ _ h => h) (Or.inl ⟨by rfl, ?ya4⟩) hHeld ?ra4
          case ya4 =>
            intro wx hSx
            have z := (hSx.cell (p := ⟨B3, 1, none⟩) (smem_lt HW2.out)).trans (cell_at HW2.out 1)
            simp only [List.getElem?_toArray, List.getElem?_cons_succ, List.getElem?_cons_zero] at z
            go_simp
            try with_reducible rfl
          try simp only [Act.put, List.setIfInBounds_toArray, List.set_cons_zero, List.set_cons_succ]
          refine wpAnyH_take (i := 5) (oi := ⟨some 68, _, _, _, _, _⟩) (v := ?va5) rfl (by kernel_rfl) (by kernel_rfl) (by kernel_rfl) (fun _ _ _ h => h) (Or.inl ⟨by rfl, ?ya5⟩) hHeld ?ra5
          case ya5 =>
            intro wx hSx
            go_simp
            try with_reducible rfl
          try simp only [Act.put, List.setIfInBounds_toArray, List.set_cons_zero, List.set_cons_succ]
          refine anyH_asks (i := 6) (oi := ⟨some 69, _, _, _, _, _⟩) (v := .int .i64 ((t : Nat) : Int)) rfl (by kernel_rfl) (by kernel_rfl) (by kernel_rfl) (fun _ _ _ h => h) ⟨by rfl, fun wx hSx => ⟨_, _, ?ea6, HAK.out _⟩⟩ hHeld ?ra6
          case ea6 => go_simp
          try simp only [Act.put, List.setIfInBounds_toArray, List.set_cons_zero, List.set_cons_succ]
          refine wpAnyH_take (i := 7) (oi := ⟨some 70, _, _, _, _, _⟩) (v := ?va7) rfl (by kernel_rfl) (by kernel_rfl) (by kernel_rfl) (fun _ _ _ h => h) (Or.inl ⟨by rfl, ?ya7⟩) hHeld ?ra7
          case ya7 =>
            intro wx hSx
            go_simp
            try with_reducible rfl
          try simp only [Act.put, List.setIfInBounds_toArray, List.set_cons_zero, List.set_cons_succ]
          refine wpAnyH_take (i := 8) (oi := ⟨some 71, _, _, _, _, _⟩) (v := ?va8) rfl (by kernel_rfl) (by kernel_rfl) (by kernel_rfl) (fun _ _ _ h => h) (Or.inl ⟨by rfl, ?ya8⟩) hHeld ?ra8
          case ya8 =>
            intro wx hSx
            go_simp
            try with_reducible rfl
          try simp only [Act.put, List.setIfInBounds_toArray, List.set_cons_zero, List.set_cons_succ]
          refine wpAnyH_take (i := 9) (oi := ⟨some 72, _, _, _, _, _⟩) (v := ?va9) rfl (by kernel_rfl) (by kernel_rfl) (by kernel_rfl) (fun _ _ _ h => h) (Or.inl ⟨by rfl, ?ya9⟩) hHeld ?ra9
          case ya9 =>
            intro wx hSx
            have z := (hSx.cell (p := ⟨bx, ox + t * 6, none⟩) hbx).trans hx0c
            go_simp
            try with_reducible rfl
          try simp only [Act.put, List.setIfInBounds_toArray, List.set_cons_zero, List.set_cons_succ]
          refine wpAnyH_ready (rs := [10]) (by kernel_rfl) (by simp) ?_
          refine AllReadyH.cons (o := ⟨some 73, _, _, _, _, _⟩) rfl (fun K hK => ?_) AllReadyH.nil
          have hbn := below_new wd (.cells #[.string (eventK t)] 9)
          have hnw := heap_alloc_new wd (.cells #[.string (eventK t)] 9)
          have HQa := Lib.hid (HQ.out.later hbn)
          have hnoB : ¬ C.own (wd.alloc (.cells #[.string (eventK t)] 9)) g wd.heap.size := fun ho => by
            have h1 := (C.keep HQ.out.bd.code hbn.size (fun k hk => hbn.block k (C.old HQ.out.bd.code hk))).2 _ ho
            have := C.old HQ.out.bd.code h1
            omega
          have hB12 : B12 < wd.heap.size := smem_lt HQ.out.box
          have hsB := HQ.out.bd.below.size
          go_simp
          refine hK.out _ _ (hHeld.trans (hbn.mono hHeld.size)) (fun hHeld => ?_)
          clear hK K hbn HQ
          try simp only [Act.put, List.setIfInBounds_toArray, List.set_cons_zero, List.set_cons_succ]
          generalize wd.alloc _ = we at hHeld hnw HQa hnoB ⊢
          generalize wd.heap.size = Bs at hnw hnoB hB12 hsB ⊢
          refine wpAnyH_take (i := 11) (oi := ⟨some 74, _, _, _, _, _⟩) (v := ?va11) rfl (by kernel_rfl) (by kernel_rfl) (by kernel_rfl) (fun _ _ _ h => h) (Or.inl ⟨by rfl, ?ya11⟩) hHeld ?ra11
          case ya11 =>
            intro wx hSx
            go_simp
            try with_reducible rfl
          try simp only [Act.put, List.setIfInBounds_toArray, List.set_cons_zero, List.set_cons_succ]
          refine wpAnyH_ready (rs := [12]) (by kernel_rfl) (by simp) ?_
          refine AllReadyH.cons (o := ⟨none, _, _, _, _, _⟩) rfl (fun K hK => ?_) AllReadyH.nil
          have e2 : we.cell? ⟨B12, 2, none⟩ = some (.slice none 0 0) := cell_at HQa.out.box 2
          have f2 : we.frozen? ⟨B12, 2, none⟩ = false := free_at HQa.out.box 2
          have hlo12 : w2.heap.size ≤ B12 := hsw
          have hst := HQa.out.set (i := 2) (u := .slice (some ⟨Bs, 0, none⟩) 1 1) hlo12
          have HQb := Lib.hid hst.1
          have hnoB2 : ¬ C.own (we.setCell ⟨B12, 2, none⟩ (.slice (some ⟨Bs, 0, none⟩) 1 1)) g Bs := fun ho => hnoB (hst.2 _ ho)
          have hnw2 : (we.setCell ⟨B12, 2, none⟩ (.slice (some ⟨Bs, 0, none⟩) 1 1)).heap[Bs]? = some (.cells #[.string (eventK t)] 9 (0, 0)) := (Below.heap_setCell we _ _ Bs (show Bs ≠ B12 by omega)).trans hnw
          clear hst hnw hnoB HQa
          simp only [List.setIfInBounds_toArray, List.set_cons_succ, List.set_cons_zero] at HQb
          go_simp
          generalize we.setCell _ _ = wf at HQb hnoB2 hnw2 ⊢
          clear e2 f2
          refine hK.out _ _ HQb.out.bd.below (fun hHeld => ?_)
          clear hK K
          try simp only [Act.put, List.setIfInBounds_toArray, List.set_cons_zero, List.set_cons_succ]
          refine wpAnyH_done (by kernel_rfl) ?_ _
          go_wp2_with fail
          go_meet
          exact ⟨Bs, Lib.hid hB12, Lib.hid hnw2, HQb, Lib.hid hnoB2⟩
        case rest =>
          obtain ⟨Bs, HBL, HBS, HQn, HNO⟩ := hcut
          clear HQ d1
          have HQ := HQn
          clear HQn
          have HER : Hid (errA roomR (evs xs) (evX [eventK t]) = 0) := Lib.hid (evX_err HRW.out ((.inr ⟨t, by rw [evs_len]; exact hal, rfl⟩)))
          have HVL : Hid (Valid roomR (evs xs ++ [evX [eventK t]])) := Lib.hid (valid_snoc HRW.out.valid HER.out)
          have HSL : Hid (LT.Slice wc (.slice (some ⟨Bs, 0, none⟩) 1 1) [eventK t]) := Lib.hid (⟨_, 1, rfl, Nat.le_refl _, (by decide : (1 : Nat) ≤ maxLen), (fun e => by cases e), fun _ => ⟨Bs, 0, rfl, smem_lt HBS.out, fun j u hu => by rw [Nat.zero_add, cell_at HBS.out j, ← Array.getElem?_toList]; exact hu⟩⟩)
          have e2 : wc.cell? ⟨B12, 2, none⟩ = some (.slice (some ⟨Bs, 0, none⟩) 1 1) := cell_at HQ.out.box 2
          have hszw : w2.heap.size ≤ wc.heap.size := HQ.out.bd.below.size
          have hBsl : Bs < wc.heap.size := smem_lt HBS.out
          go_upto_region 19 with (at_builtin; refine wpList_puts rfl knT (.tmp 75) (.tmp 77) 22 rfl (v := .slice none 0 0) rfl (Lies.Mine.nil wc wc.heap.size) (Nat.le_refl _) (.slice (some ⟨Bs, 0, none⟩) 1 1) [eventK t] 1 rfl rfl (HSL.out.srcN knT rfl) (by simp) ?_; intro A7 c7 w7 hm7 hg7 hb7)
          have hb7 : Below wc.heap.size wc w7 := (Below.refl _ _).grown hg7 (Nat.le_refl _) (fun k hk => by cases hk)
          have HKM : Hid (LT.Mine w7 wc.heap.size (.slice A7 1 c7) [eventK t]) := Lib.hid hm7
          have HQ7 := Lib.hid (HQ.out.later hb7)
          have HOK := C.keep HQ.out.bd.code hb7.size (fun k hk => hb7.block k (C.old HQ.out.bd.code hk))
          have HKN : Hid (∀ k, (Value.slice A7 1 c7).ownBlock = some k → wc.heap.size ≤ k ∧ k < w7.heap.size ∧ ¬ C.own w7 g k) := Lib.hid (fun k hk => ⟨(HKM.out.lt k hk).1, (HKM.out.lt k hk).2, fun ho => by
            have h1 := C.old HQ.out.bd.code (HOK.2 k ho)
            have h2 := (HKM.out.lt k hk).1
            omega⟩)
          have HSL7 := Lib.hid (HSL.out.below hb7)
          have HBS7 := Lib.hid ((hb7.block Bs hBsl).trans HBS.out)
          have HNO7 : Hid (¬ C.own w7 g Bs) := Lib.hid (fun ho => HNO.out (HOK.2 Bs ho))
          clear hm7 hg7 hb7 HOK HQ HSL e2
          have HOKX : Hid ((evX [eventK t]).ok) := Lib.hid (may_ok (err_zero HER.out).1)
          have HAD := Lib.hid (C.add ⟨evX [eventK t], (some ⟨Bs, 0, none⟩), 1⟩ HQ7.out.bd.code (by rw [evs_len]; omega) ⟨HSL7.out, HOKX.out⟩)
          rw [addA, HER.out, if_pos rfl] at HAD
          unfold EvV.val EvV.pv evX at HAD
          have e0 : w7.cell? ⟨B12, 0, none⟩ = some (.string ⟨#[36, 120]⟩) := cell_at HQ7.out.box 0
          have e1 : w7.cell? ⟨B12, 1, none⟩ = some (.string roomR) := cell_at HQ7.out.box 1
          have e2 : w7.cell? ⟨B12, 2, none⟩ = some (.slice (some ⟨Bs, 0, none⟩) 1 1) := cell_at HQ7.out.box 2
          have e3 : w7.cell? ⟨B12, 3, none⟩ = some (.string ⟨#[]⟩) := cell_at HQ7.out.box 3
          have e4 : w7.cell? ⟨B12, 4, none⟩ = some (.string ⟨#[64, 97, 58, 115, 49]⟩) := cell_at HQ7.out.box 4
          have e5 : w7.cell? ⟨B12, 5, none⟩ = some (.int .i64 0) := cell_at HQ7.out.box 5
          go_wp2_with fail
          go_at_call 22
          refine HAD.out.mono ?_
          rintro e w8 ⟨rfl, hcd, htu⟩
          have HQ8 := Lib.hid (HQ7.out.turn (l' := evs xs ++ [evX [eventK t]]) hcd htu)
          have HKS : Hid (LT.Slice w8 (.slice A7 1 c7) [eventK t]) := Lib.hid (HKM.out.slice.stay htu.size (fun k hk hv => htu.block k hk (HKN.out k hv).2.2))
          have HKN8 : Hid (∀ k, (Value.slice A7 1 c7).ownBlock = some k → wc.heap.size ≤ k ∧ k < w8.heap.size ∧ ¬ C.own w8 g k) := Lib.hid (fun k hk => ⟨(HKN.out k hk).1, Nat.lt_of_lt_of_le (HKN.out k hk).2.1 htu.size, fun ho => by
            rcases htu.owns k ho with h1 | h1
            · exact (HKN.out k hk).2.2 h1
            · have := (HKN.out k hk).2.1
              omega⟩)
          have hBs7 : Bs < w7.heap.size := smem_lt HBS7.out
          have HBS8 := Lib.hid ((htu.block Bs hBs7 HNO7.out).trans HBS7.out)
          have HNO8 : Hid (¬ C.own w8 g Bs) := Lib.hid (fun ho => by
            rcases htu.owns Bs ho with h1 | h1
            · exact HNO7.out h1
            · omega)
          clear hcd htu HAD e0 e1 e2 e3 e4 e5 HKM HKN HSL7 HQ7
          have e2 : w8.cell? ⟨B12, 2, none⟩ = some (.slice (some ⟨Bs, 0, none⟩) 1 1) := cell_at HQ8.out.box 2
          have g0 : w8.cell? ⟨Bs, 0, none⟩ = some (.string (eventK t)) := cell_at HBS8.out 0
          have z0 : w8.frozen? ⟨Bs, 0, none⟩ = false := free_at HBS8.out 0
          have hlo : w2.heap.size ≤ Bs := Nat.le_of_lt (Nat.lt_of_le_of_lt hsw HBL.out)
          have hfr := HQ8.out.bd.far (sm_grown w8 Bs 0 [.string s]) hlo HNO8.out
          have HD9 := Lib.hid hfr.1
          have HKS9 : Hid (LT.Slice (w8.setCells Bs 0 [.string s]) (.slice A7 1 c7) [eventK t]) := Lib.hid (HKS.out.stay (sm_grown w8 Bs 0 [.string s]).size (fun k hk hv => (sm_grown w8 Bs 0 [.string s]).block k hk (fun e => by
            injection e with e
            have := (HKN8.out k hv).1
            omega)))
          have HKN9 : Hid (∀ k, (Value.slice A7 1 c7).ownBlock = some k → k < (w8.setCells Bs 0 [.string s]).heap.size ∧ ¬ C.own (w8.setCells Bs 0 [.string s]) g k) := Lib.hid (fun k hk => ⟨Nat.lt_of_lt_of_le (HKN8.out k hk).2.1 (sm_grown w8 Bs 0 [.string s]).size, fun ho => (HKN8.out k hk).2.2 (hfr.2 k ho)⟩)
          simp only [World.setCells] at HD9 HKS9 HKN9
          clear hfr
          have hi0 : ∀ W : World, (Instr.indexAt 22 (.slice (some ⟨Bs, 0, none⟩) 1 1) (.int .i64 0)).run Try.prog W = .ok (.pointer (some ⟨Bs, 0, none⟩)) W := by
            have := index_any (P := Try.prog) knT (by decide) (b := Bs) (off := 0) (cap := 1) (len := 1) (i := 0) (by decide)
            simpa [LT] using this
          go_upto_region 22 with (fail)
          clear e2 g0 z0 HBS8 HNO8 HQ8 HKS HKN8
          generalize w8.setCell _ _ = w9 at HD9 HKS9 HKN9 ⊢
          have HLN : Hid ((evs xs ++ [evX [eventK t]]).length ≤ 100) := Lib.hid (by rw [List.length_append, evs_len]; simp only [List.length_cons, List.length_nil]; omega)
          have HEV := Lib.hid (C.event ⟨#[36, 120]⟩ HD9.out.code HLN.out (by decide))
          have HHX : Hid (hasE (evs xs ++ [evX [eventK t]]) ⟨#[36, 120]⟩ = true) := Lib.hid (has_iff.2 ⟨evX [eventK t], List.mem_append.2 (.inr List.mem_cons_self), rfl⟩)
          have HHN : Hid (hasE (evs xs ++ [evX [eventK t]]) ⟨#[36, 110, 111, 110, 101]⟩ = false) := Lib.hid (evX_none HRW.out)
          go_wp2_with fail
          go_at_call 23
          refine HEV.out.mono ?_
          rintro e wa ⟨y, rfl, hya, -, -, hyh, hcd, htu⟩
          rw [HHX.out]
          have HYE : Hid (y.ev.parents = [eventK t]) := Lib.hid (by
            obtain ⟨h1, h2⟩ := hyh HHX.out
            rw [valid_ids HVL.out h1 (List.mem_append.2 (.inr List.mem_cons_self)) (show y.ev.id = (evX [eventK t]).id from h2)]
            rfl)
          have HDA := Lib.hid (HD9.out.turn hcd htu)
          have HKSA : Hid (LT.Slice wa (.slice A7 1 c7) [eventK t]) := Lib.hid (HKS9.out.stay htu.size (fun k hk hv => htu.block k hk (HKN9.out k hv).2))
          have HYA := Lib.hid hya
          have HBX := Lib.hid (heap_alloc_new wa (.cells #[.string y.ev.id, .string y.ev.room, .slice y.A y.ev.parents.length y.cap, .string y.ev.thread, .string y.ev.user, .int .i64 y.ev.does] 24))
          have HBN := Lib.hid (below_new wa (.cells #[.string y.ev.id, .string y.ev.room, .slice y.A y.ev.parents.length y.cap, .string y.ev.thread, .string y.ev.user, .int .i64 y.ev.does] 24))
          clear hya hyh hcd htu HEV HD9 HKS9 HKN9
          unfold EvV.val EvV.pv
          go_upto_region 23 with (fail)
          generalize wa.alloc _ = wb at HBX HBN ⊢
          have HDB := Lib.hid (HDA.out.later HBN.out)
          have HST := Lib.hid (sameTexts_any (.slice y.A y.ev.parents.length y.cap) (.slice A7 1 c7) y.ev.parents [eventK t] wb (HYA.out.below HBN.out).1 (HKSA.out.below HBN.out))
          rw [decide_eq_true HYE.out] at HST
          generalize wa.heap.size = B15 at HBX ⊢
          have p2 : wb.cell? ⟨B15, 2, none⟩ = some (.slice y.A y.ev.parents.length y.cap) := cell_at HBX.out 2
          clear HDA HKSA HBN
          go_wp2_with fail
          go_at_call 24
          refine HST.out.mono ?_
          rintro e wcc ⟨rfl, dd, hwcc⟩
          have HDC := Lib.hid (HDB.out.later (w2 := wcc) (by rw [hwcc]; exact ⟨rfl, rfl, rfl, Nat.le_refl _, fun _ _ => rfl⟩))
          clear hwcc HST p2 HDB HYA HYE HBX
          go_wp2_with fail
          go_loopw [17] (fun i wr => ∃ (m : Nat), i = .int .i64 (m : Int) ∧ m ≤ xs.length ∧ Hid (BdS C w2 wr g roomR (evs xs ++ [evX [eventK t]]))) (fun i _ => xs.length - (intOf i).toNat)
          case atStart => exact ⟨0, rfl, Nat.zero_le _, HDC⟩
          case round =>
            obtain ⟨m, rfl, hm, HDR⟩ := hrel
            clear HDC
            have d1 : wr.cell? ⟨B3, 1, none⟩ = some (.slice (some ⟨bx, ox, none⟩) xs.length cv) := (HDR.out.below.cell (p := ⟨B3, 1, none⟩) (smem_lt HW2.out)).trans (cell_at HW2.out 1)
            by_cases hmx : m < xs.length
            · have q5 : decide ((m : Int) < (xs.length : Int)) = true := decide_eq_true (by omega)
              have hz : xs[m]? = some xs[m] := List.getElem?_eq_getElem hmx
              generalize xs[m] = z at hz
              have hze : (evs xs)[m]? = some z.ev := by rw [List.getElem?_map, hz]; rfl
              have HZM := Lib.hid (List.mem_of_getElem? hze)
              have HZA := Lib.hid (HE2.out.2 z (List.mem_of_getElem? hz))
              obtain ⟨bz, oz, hAz, hbz, hrz⟩ := ev_at HE2.out hz
              obtain ⟨rfl, rfl⟩ : bz = bx ∧ oz = ox := by
                injection hAz with e9
                injection e9 with e1 e2 _
                exact ⟨e1.symm, e2.symm⟩
              have HRC := Lib.hid (ev_cells hrz)
              have z0 : wr.cell? ⟨bz, oz + m * 6, none⟩ = some (.string z.ev.id) := (HDR.out.below.cell (p := ⟨bz, oz + m * 6, none⟩) hbz).trans HRC.out.1
              have hizz := index_any (P := Try.prog) knV (by decide) (b := bz) (off := oz) (cap := cv) hmx
              simp only [LV] at hizz
              have HEZ := Lib.hid (C.event z.ev.id HDR.out.code HLN.out HZA.out.2.1)
              have HHZ : Hid (hasE (evs xs ++ [evX [eventK t]]) z.ev.id = true) := Lib.hid (has_iff.2 ⟨z.ev, List.mem_append.2 (.inl HZM.out), rfl⟩)
              clear hz hze hAz hrz
              go_wp2_with fail
              go_at_call 23
              refine HEZ.out.mono ?_
              rintro e wa ⟨y, rfl, hya, -, -, hyh, hcd, htu⟩
              rw [HHZ.out]
              have HYZ : Hid (y.ev = z.ev) := Lib.hid (by
                obtain ⟨h1, h2⟩ := hyh HHZ.out
                exact valid_ids HVL.out h1 (List.mem_append.2 (.inl HZM.out)) h2)
              have HDA := Lib.hid (HDR.out.turn hcd htu)
              have HYA := Lib.hid hya
              have HBX := Lib.hid (heap_alloc_new wa (.cells #[.string y.ev.id, .string y.ev.room, .slice y.A y.ev.parents.length y.cap, .string y.ev.thread, .string y.ev.user, .int .i64 y.ev.does] 24))
              have HBN := Lib.hid (below_new wa (.cells #[.string y.ev.id, .string y.ev.room, .slice y.A y.ev.parents.length y.cap, .string y.ev.thread, .string y.ev.user, .int .i64 y.ev.does] 24))
              clear hya hyh hcd htu HEZ HDR z0 d1
              unfold EvV.val EvV.pv
              go_upto_region 29 with (fail)
              generalize wa.alloc _ = wb at HBX HBN ⊢
              have HDB := Lib.hid (HDA.out.later HBN.out)
              have HYB := Lib.hid (HYA.out.below HBN.out)
              generalize wa.heap.size = B18 at HBX ⊢
              clear HDA HYA HBN
              refine wp_region_held_drew (S := fun w' => BdS C w2 w' g roomR (evs xs ++ [evX [eventK t]]) ∧ w'.heap[B18]? = some (.cells #[.string y.ev.id, .string y.ev.room, .slice y.A y.ev.parents.length y.cap, .string y.ev.thread, .string y.ev.user, .int .i64 y.ev.does] 24 (0, 0)) ∧ y.at w') (by kernel_rfl) ⟨HDB.out.later ⟨rfl, rfl, rfl, Nat.le_refl _, fun _ _ => rfl⟩, HBX.out, HYB.out.below ⟨rfl, rfl, rfl, Nat.le_refl _, fun _ _ => rfl⟩⟩ (fun hHeld => ?_)
              clear HDB HBX HYB
              generalize wb.drew = wd at hHeld ⊢
              have HSM := Lib.hid (fun W (h1 : LT.Slice W y.pv y.ev.parents) (h2 : LT.Slice W z.pv z.ev.parents) => refSame_any y z W h1 h2)
              rw [decide_eq_true HYZ.out] at HSM
              unfold EvV.val EvV.pv at HSM
              refine wpAnyH_take (i := 0) (oi := ⟨some 126, _, _, _, _, _⟩) (v := ?vz0) rfl (by kernel_rfl) (by kernel_rfl) (by kernel_rfl) (fun _ _ _ h => h) (Or.inl ⟨by rfl, ?yz0⟩) hHeld ?rz0
              case yz0 =>
                intro wx hSx
                go_simp
                try with_reducible rfl
              try simp only [Act.put, List.setIfInBounds_toArray, List.set_cons_zero, List.set_cons_succ]
              refine wpAnyH_take (i := 1) (oi := ⟨some 127, _, _, _, _, _⟩) (v := ?vz1) rfl (by kernel_rfl) (by kernel_rfl) (by kernel_rfl) (fun _ _ _ h => h) (Or.inl ⟨by rfl, ?yz1⟩) hHeld ?rz1
              case yz1 =>
                intro wx hSx
                go_simp
                try with_reducible rfl
              try simp only [Act.put, List.setIfInBounds_toArray, List.set_cons_zero, List.set_cons_succ]
              refine wpAnyH_take (i := 2) (oi := ⟨some 128, _, _, _, _, _⟩) (v := ?vz2) rfl (by kernel_rfl) (by kernel_rfl) (by kernel_rfl) (fun _ _ _ h => h) (Or.inl ⟨by rfl, ?yz2⟩) hHeld ?rz2
              case yz2 =>
                intro wx hSx
                go_simp
                try with_reducible rfl
              try simp only [Act.put, List.setIfInBounds_toArray, List.set_cons_zero, List.set_cons_succ]
              refine wpAnyH_take (i := 3) (oi := ⟨some 129, _, _, _, _, _⟩) (v := ?vz3) rfl (by kernel_rfl) (by kernel_rfl) (by kernel_rfl) (fun _ _ _ h => h) (Or.inl ⟨by rfl, ?yz3⟩) hHeld ?rz3
              case yz3 =>
                intro wx hSx
                have p0 := cell_at hSx.2.1 0
                have p1 := cell_at hSx.2.1 1
                have p2 := cell_at hSx.2.1 2
                have p3 := cell_at hSx.2.1 3
                have p4 := cell_at hSx.2.1 4
                have p5 := cell_at hSx.2.1 5
                simp only [List.getElem?_toArray, List.getElem?_cons_succ, List.getElem?_cons_zero] at p0 p1 p2 p3 p4 p5
                go_simp
                try with_reducible rfl
              try simp only [Act.put, List.setIfInBounds_toArray, List.set_cons_zero, List.set_cons_succ]
              refine wpAnyH_take (i := 4) (oi := ⟨some 130, _, _, _, _, _⟩) (v := ?vz4) rfl (by kernel_rfl) (by kernel_rfl) (by kernel_rfl) (fun _ _ _ h => h) (Or.inl ⟨by rfl, ?yz4⟩) hHeld ?rz4
              case yz4 =>
                intro wx hSx
                go_simp
                try with_reducible rfl
              try simp only [Act.put, List.setIfInBounds_toArray, List.set_cons_zero, List.set_cons_succ]
              refine wpAnyH_take (i := 5) (oi := ⟨some 131, _, _, _, _, _⟩) (v := ?vz5) rfl (by kernel_rfl) (by kernel_rfl) (by kernel_rfl) (fun _ _ _ h => h) (Or.inl ⟨by rfl, ?yz5⟩) hHeld ?rz5
              case yz5 =>
                intro wx hSx
                have z := (hSx.1.below.cell (p := ⟨B3, 1, none⟩) (smem_lt HW2.out)).trans (cell_at HW2.out 1)
                simp only [List.getElem?_toArray, List.getElem?_cons_succ, List.getElem?_cons_zero] at z
                go_simp
                try with_reducible rfl
              try simp only [Act.put, List.setIfInBounds_toArray, List.set_cons_zero, List.set_cons_succ]
              refine wpAnyH_take (i := 6) (oi := ⟨some 132, _, _, _, _, _⟩) (v := ?vz6) rfl (by kernel_rfl) (by kernel_rfl) (by kernel_rfl) (fun _ _ _ h => h) (Or.inl ⟨by rfl, ?yz6⟩) hHeld ?rz6
              case yz6 =>
                intro wx hSx
                go_simp
                try with_reducible rfl
              try simp only [Act.put, List.setIfInBounds_toArray, List.set_cons_zero, List.set_cons_succ]
              refine wpAnyH_take (i := 7) (oi := ⟨some 133, _, _, _, _, _⟩) (v := ?vz7) rfl (by kernel_rfl) (by kernel_rfl) (by kernel_rfl) (fun _ _ _ h => h) (Or.inl ⟨by rfl, ?yz7⟩) hHeld ?rz7
              case yz7 =>
                intro wx hSx
                go_simp
                try with_reducible rfl
              try simp only [Act.put, List.setIfInBounds_toArray, List.set_cons_zero, List.set_cons_succ]
              refine wpAnyH_take (i := 8) (oi := ⟨some 134, _, _, _, _, _⟩) (v := ?vz8) rfl (by kernel_rfl) (by kernel_rfl) (by kernel_rfl) (fun _ _ _ h => h) (Or.inl ⟨by rfl, ?yz8⟩) hHeld ?rz8
              case yz8 =>
                intro wx hSx
                obtain ⟨h0, h1, h2, h3, h4, h5⟩ := HRC.out
                have p0 := (hSx.1.below.cell (p := ⟨bz, oz + m * 6, none⟩) hbz).trans h0
                have p1 := (hSx.1.below.cell (p := ⟨bz, oz + m * 6 + 1, none⟩) hbz).trans h1
                have p2 := (hSx.1.below.cell (p := ⟨bz, oz + m * 6 + 2, none⟩) hbz).trans h2
                have p3 := (hSx.1.below.cell (p := ⟨bz, oz + m * 6 + 3, none⟩) hbz).trans h3
                have p4 := (hSx.1.below.cell (p := ⟨bz, oz + m * 6 + 4, none⟩) hbz).trans h4
                have p5 := (hSx.1.below.cell (p := ⟨bz, oz + m * 6 + 5, none⟩) hbz).trans h5
                unfold EvV.pv at p2
                go_simp
                try with_reducible rfl
              try simp only [Act.put, List.setIfInBounds_toArray, List.set_cons_zero, List.set_cons_succ]
              refine wpAnyH_ready (rs := [9]) (by kernel_rfl) (by simp) ?_
              refine AllReadyH.cons (o := ⟨some 135, _, _, _, _, _⟩) rfl (fun K hK => ?_) AllReadyH.nil
              go_simp
              refine (HSM.out _ hHeld.2.2.1 ((HZA.out.below hHeld.1.below).1)).mono ?_
              rintro e wn ⟨rfl, hgn⟩
              have hbn := Gr.below hgn
              refine hK.out _ _ ⟨hHeld.1.later hbn, (hbn.block B18 (smem_lt hHeld.2.1)).trans hHeld.2.1, hHeld.2.2.below hbn⟩ (fun hHeld => ?_)
              clear hK K hbn hgn
              try simp only [Act.put, List.setIfInBounds_toArray, List.set_cons_zero, List.set_cons_succ]
              refine wpAnyH_take (i := 10) (oi := ⟨some 136, _, _, _, _, _⟩) (v := ?vz10) rfl (by kernel_rfl) (by kernel_rfl) (by kernel_rfl) (fun _ _ _ h => h) (Or.inl ⟨by rfl, ?yz10⟩) hHeld ?rz10
              case yz10 =>
                intro wx hSx
                go_simp
                try with_reducible rfl
              try simp only [Act.put, List.setIfInBounds_toArray, List.set_cons_zero, List.set_cons_succ]
              refine wpAnyH_take (i := 11) (oi := ⟨some 137, _, _, _, _, _⟩) (v := ?vz11) rfl (by kernel_rfl) (by kernel_rfl) (by kernel_rfl) (fun _ _ _ h => h) (Or.inl ⟨by rfl, ?yz11⟩) hHeld ?rz11
              case yz11 =>
                intro wx hSx
                go_simp
                try with_reducible rfl
              try simp only [Act.put, List.setIfInBounds_toArray, List.set_cons_zero, List.set_cons_succ]
              refine wpAnyH_done (by kernel_rfl) ?_ _
              go_wp2_with fail
              refine ⟨⟨m + 1, by go_num, by omega, Lib.hid hHeld.1⟩, ?_⟩
              simp [intOf]; omega
            · have q5 : decide ((m : Int) < (xs.length : Int)) = false := decide_eq_false (by omega)
              have HEN := Lib.hid (C.event ⟨#[36, 110, 111, 110, 101]⟩ HDR.out.code HLN.out (by decide))
              go_wp2_with fail
              go_at_call 23
              refine HEN.out.mono ?_
              rintro e wa ⟨y, rfl, hya, -, -, hyh, hcd, htu⟩
              rw [HHN.out]
              have HDA := Lib.hid ((HDR.out.turn hcd htu).later (below_new wa (.cells #[.string y.ev.id, .string y.ev.room, .slice y.A y.ev.parents.length y.cap, .string y.ev.thread, .string y.ev.user, .int .i64 y.ev.does] 24)))
              clear hya hyh hcd htu HEN HDR d1
              unfold EvV.val EvV.pv
              go_upto_region 32 with (fail)
              generalize wa.alloc _ = wb at HDA ⊢
              have HHA := Lib.hid (C.has ⟨#[36, 110, 111, 110, 101]⟩ HDA.out.code HLN.out (by decide))
              go_wp2_with fail
              go_at_call 25
              refine HHA.out.mono ?_
              rintro e wd ⟨rfl, hcd, htu⟩
              rw [HHN.out]
              have HDD := Lib.hid (HDA.out.turn hcd htu)
              clear hcd htu HHA HDA
              go_wp2_with fail
              go_at_call 14
              refine (HZ.out _).mono ?_
              rintro e we ⟨rfl, b9⟩
              go_wp2_with fail
              go_ret
              have hb9 := HBW.out.trans (HDD.out.below.mono HBW.out.size)
              exact ⟨rfl, hb9.trans (b9.mono hb9.size)⟩
      · have q3 : decide ((0 : Int) < (xs.length : Int)) = false := decide_eq_false (by omega)
        have q3' : decide (0 < xs.length) = false := decide_eq_false hx0
        have HER : Hid (errA roomR (evs xs) (evX []) = 0) := Lib.hid (evX_err HRW.out ((.inl rfl)))
        have HVL : Hid (Valid roomR (evs xs ++ [evX []])) := Lib.hid (valid_snoc HRW.out.valid HER.out)
        have HSL : Hid (LT.Slice w6 (.slice none 0 0) []) := Lib.hid (Lies.Slice.nil _)
        have e2 : w6.cell? ⟨B12, 2, none⟩ = some (.slice none 0 0) := cell_at HQ.out.box 2
        have hszw : w2.heap.size ≤ w6.heap.size := HQ.out.bd.below.size
        go_upto_region 19 with (at_builtin; refine wpList_puts rfl knT (.tmp 75) (.tmp 77) 22 rfl (v := .slice none 0 0) rfl (Lies.Mine.nil w6 w6.heap.size) (Nat.le_refl _) (.slice none 0 0) [] 0 rfl rfl (HSL.out.srcN knT rfl) (by simp) ?_; intro A7 c7 w7 hm7 hg7 hb7)
        have hb7 : Below w6.heap.size w6 w7 := (Below.refl _ _).grown hg7 (Nat.le_refl _) (fun k hk => by cases hk)
        have HKM : Hid (LT.Mine w7 w6.heap.size (.slice A7 0 c7) []) := Lib.hid hm7
        have HQ7 := Lib.hid (HQ.out.later hb7)
        have HOK := C.keep HQ.out.bd.code hb7.size (fun k hk => hb7.block k (C.old HQ.out.bd.code hk))
        have HKN : Hid (∀ k, (Value.slice A7 0 c7).ownBlock = some k → w6.heap.size ≤ k ∧ k < w7.heap.size ∧ ¬ C.own w7 g k) := Lib.hid (fun k hk => ⟨(HKM.out.lt k hk).1, (HKM.out.lt k hk).2, fun ho => by
          have h1 := C.old HQ.out.bd.code (HOK.2 k ho)
          have h2 := (HKM.out.lt k hk).1
          omega⟩)
        have HSL7 := Lib.hid (HSL.out.below hb7)
        clear hm7 hg7 hb7 HOK HQ HSL e2
        have HOKX : Hid ((evX []).ok) := Lib.hid (may_ok (err_zero HER.out).1)
        have HAD := Lib.hid (C.add ⟨evX [], none, 0⟩ HQ7.out.bd.code (by rw [evs_len]; omega) ⟨HSL7.out, HOKX.out⟩)
        rw [addA, HER.out, if_pos rfl] at HAD
        unfold EvV.val EvV.pv evX at HAD
        have e0 : w7.cell? ⟨B12, 0, none⟩ = some (.string ⟨#[36, 120]⟩) := cell_at HQ7.out.box 0
        have e1 : w7.cell? ⟨B12, 1, none⟩ = some (.string roomR) := cell_at HQ7.out.box 1
        have e2 : w7.cell? ⟨B12, 2, none⟩ = some (.slice none 0 0) := cell_at HQ7.out.box 2
        have e3 : w7.cell? ⟨B12, 3, none⟩ = some (.string ⟨#[]⟩) := cell_at HQ7.out.box 3
        have e4 : w7.cell? ⟨B12, 4, none⟩ = some (.string ⟨#[64, 97, 58, 115, 49]⟩) := cell_at HQ7.out.box 4
        have e5 : w7.cell? ⟨B12, 5, none⟩ = some (.int .i64 0) := cell_at HQ7.out.box 5
        go_wp2_with fail
        go_at_call 22
        refine HAD.out.mono ?_
        rintro e w8 ⟨rfl, hcd, htu⟩
        have HQ8 := Lib.hid (HQ7.out.turn (l' := evs xs ++ [evX []]) hcd htu)
        have HKS : Hid (LT.Slice w8 (.slice A7 0 c7) []) := Lib.hid (HKM.out.slice.stay htu.size (fun k hk hv => htu.block k hk (HKN.out k hv).2.2))
        have HKN8 : Hid (∀ k, (Value.slice A7 0 c7).ownBlock = some k → w6.heap.size ≤ k ∧ k < w8.heap.size ∧ ¬ C.own w8 g k) := Lib.hid (fun k hk => ⟨(HKN.out k hk).1, Nat.lt_of_lt_of_le (HKN.out k hk).2.1 htu.size, fun ho => by
          rcases htu.owns k ho with h1 | h1
          · exact (HKN.out k hk).2.2 h1
          · have := (HKN.out k hk).2.1
            omega⟩)
        clear hcd htu HAD e0 e1 e2 e3 e4 e5 HKM HKN HSL7 HQ7
        have e2 : w8.cell? ⟨B12, 2, none⟩ = some (.slice none 0 0) := cell_at HQ8.out.box 2
        have HD9 := Lib.hid HQ8.out.bd
        have HKS9 := HKS
        have HKN9 : Hid (∀ k, (Value.slice A7 0 c7).ownBlock = some k → k < w8.heap.size ∧ ¬ C.own w8 g k) := Lib.hid (fun k hk => (HKN8.out k hk).2)
        go_upto_region 22 with (fail)
        clear e2 HQ8 HKS HKN8
        generalize w8 = w9 at HD9 HKS9 HKN9 ⊢
        have HLN : Hid ((evs xs ++ [evX []]).length ≤ 100) := Lib.hid (by rw [List.length_append, evs_len]; simp only [List.length_cons, List.length_nil]; omega)
        have HEV := Lib.hid (C.event ⟨#[36, 120]⟩ HD9.out.code HLN.out (by decide))
        have HHX : Hid (hasE (evs xs ++ [evX []]) ⟨#[36, 120]⟩ = true) := Lib.hid (has_iff.2 ⟨evX [], List.mem_append.2 (.inr List.mem_cons_self), rfl⟩)
        have HHN : Hid (hasE (evs xs ++ [evX []]) ⟨#[36, 110, 111, 110, 101]⟩ = false) := Lib.hid (evX_none HRW.out)
        go_wp2_with fail
        go_at_call 23
        refine HEV.out.mono ?_
        rintro e wa ⟨y, rfl, hya, -, -, hyh, hcd, htu⟩
        rw [HHX.out]
        have HYE : Hid (y.ev.parents = []) := Lib.hid (by
          obtain ⟨h1, h2⟩ := hyh HHX.out
          rw [valid_ids HVL.out h1 (List.mem_append.2 (.inr List.mem_cons_self)) (show y.ev.id = (evX []).id from h2)]
          rfl)
        have HDA := Lib.hid (HD9.out.turn hcd htu)
        have HKSA : Hid (LT.Slice wa (.slice A7 0 c7) []) := Lib.hid (HKS9.out.stay htu.size (fun k hk hv => htu.block k hk (HKN9.out k hv).2))
        have HYA := Lib.hid hya
        have HBX := Lib.hid (heap_alloc_new wa (.cells #[.string y.ev.id, .string y.ev.room, .slice y.A y.ev.parents.length y.cap, .string y.ev.thread, .string y.ev.user, .int .i64 y.ev.does] 24))
        have HBN := Lib.hid (below_new wa (.cells #[.string y.ev.id, .string y.ev.room, .slice y.A y.ev.parents.length y.cap, .string y.ev.thread, .string y.ev.user, .int .i64 y.ev.does] 24))
        clear hya hyh hcd htu HEV HD9 HKS9 HKN9
        unfold EvV.val EvV.pv
        go_upto_region 23 with (fail)
        generalize wa.alloc _ = wb at HBX HBN ⊢
        have HDB := Lib.hid (HDA.out.later HBN.out)
        have HST := Lib.hid (sameTexts_any (.slice y.A y.ev.parents.length y.cap) (.slice A7 0 c7) y.ev.parents [] wb (HYA.out.below HBN.out).1 (HKSA.out.below HBN.out))
        rw [decide_eq_true HYE.out] at HST
        generalize wa.heap.size = B15 at HBX ⊢
        have p2 : wb.cell? ⟨B15, 2, none⟩ = some (.slice y.A y.ev.parents.length y.cap) := cell_at HBX.out 2
        clear HDA HKSA HBN
        go_wp2_with fail
        go_at_call 24
        refine HST.out.mono ?_
        rintro e wcc ⟨rfl, dd, hwcc⟩
        have HDC := Lib.hid (HDB.out.later (w2 := wcc) (by rw [hwcc]; exact ⟨rfl, rfl, rfl, Nat.le_refl _, fun _ _ => rfl⟩))
        clear hwcc HST p2 HDB HYA HYE HBX
        go_wp2_with fail
        go_loopw [17] (fun i wr => ∃ (m : Nat), i = .int .i64 (m : Int) ∧ m ≤ xs.length ∧ Hid (BdS C w2 wr g roomR (evs xs ++ [evX []]))) (fun i _ => xs.length - (intOf i).toNat)
        case atStart => exact ⟨0, rfl, Nat.zero_le _, HDC⟩
        case round =>
          obtain ⟨m, rfl, hm, HDR⟩ := hrel
          clear HDC
          have d1 : wr.cell? ⟨B3, 1, none⟩ = some (.slice Av xs.length cv) := (HDR.out.below.cell (p := ⟨B3, 1, none⟩) (smem_lt HW2.out)).trans (cell_at HW2.out 1)
          by_cases hmx : m < xs.length
          · exact absurd hmx (by omega)
          · have q5 : decide ((m : Int) < (xs.length : Int)) = false := decide_eq_false (by omega)
            have HEN := Lib.hid (C.event ⟨#[36, 110, 111, 110, 101]⟩ HDR.out.code HLN.out (by decide))
            go_wp2_with fail
            go_at_call 23
            refine HEN.out.mono ?_
            rintro e wa ⟨y, rfl, hya, -, -, hyh, hcd, htu⟩
            rw [HHN.out]
            have HDA := Lib.hid ((HDR.out.turn hcd htu).later (below_new wa (.cells #[.string y.ev.id, .string y.ev.room, .slice y.A y.ev.parents.length y.cap, .string y.ev.thread, .string y.ev.user, .int .i64 y.ev.does] 24)))
            clear hya hyh hcd htu HEN HDR d1
            unfold EvV.val EvV.pv
            go_upto_region 32 with (fail)
            generalize wa.alloc _ = wb at HDA ⊢
            have HHA := Lib.hid (C.has ⟨#[36, 110, 111, 110, 101]⟩ HDA.out.code HLN.out (by decide))
            go_wp2_with fail
            go_at_call 25
            refine HHA.out.mono ?_
            rintro e wd ⟨rfl, hcd, htu⟩
            rw [HHN.out]
            have HDD := Lib.hid (HDA.out.turn hcd htu)
            clear hcd htu HHA HDA
            go_wp2_with fail
            go_at_call 14
            refine (HZ.out _).mono ?_
            rintro e we ⟨rfl, b9⟩
            go_wp2_with fail
            go_ret
            have hb9 := HBW.out.trans (HDD.out.below.mono HBW.out.size)
            exact ⟨rfl, hb9.trans (b9.mono hb9.size)⟩
end Go.Proofs.Ytgeinmokkmipjaa
