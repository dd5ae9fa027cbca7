/-
  Whether an event is of a thread is told as the document says (stage 10's statements).
-/
import Derived.Test.YtjiecjpepiknmaaVwX
namespace Go.Proofs.Ytjiecjpepiknmaa
set_option maxRecDepth 20000
open Go.RowKit
set_option linter.unusedVariables false
set_option linter.unusedSimpArgs false
section
variable {C : Dags}

set_option maxHeartbeats 3200000 in
theorem viewFits_walk (C : Dags) (CR : DagRms C) (va vb : Value) (gs hs : List GV) (s : ByteArray) (w : World) (ha : GsS w va gs) (hb : GsS w vb hs) (hsz : s.size ≤ maxLen) :
    Calls Try.prog 3 #[va, vb, .string s] w fun e w' => e = .returned (.bool true) ∧ Below w.heap.size w w' := by
  have HBU := Lib.hid (build10_any CR va vb gs hs (Kv.start (C := C) w) ha hb)
  obtain ⟨Aa, ca, rfl, -⟩ := id ha.1
  obtain ⟨Ab, cb, rfl, -⟩ := id hb.1
  have HML := Lib.hid (madeL_len gs hs)
  have HFW := Lib.hid (fun W => few_any s 6 (by decide) W hsz)
  have HS6 : Hid ((fewS s 6).size ≤ 6) := Lib.hid (fewS_size s 6)
  clear ha hb hsz
  generalize fewS s 6 = s6 at HFW HS6
  generalize madeL gs hs = ml at HML HBU ⊢
  go_enter Try.func3, Try.ntmps3
  go_wp2_with fail
  go_at_call 4
  refine HBU.out.mono ?_
  rintro e w1 ⟨v, u, ds, rfl, hvV, hds, hk⟩
  have HVO : Hid (VOk 100 (vws ds)) := Lib.hid (by rw [hds]; exact (foldV_ok ml).mono (Nat.le_trans HML.out (by decide)))
  obtain ⟨Au, cu, rfl, -⟩ := id (show DsS w1 u ds from hk.is List.mem_cons_self).1
  have HK2 : Hid (Kv C w (w1.alloc (.cells #[.slice Au ds.length cu] 26)) [v] (Th.box w1.heap.size (.cells #[.slice Au ds.length cu] 26 (0, 0)) :: Th.vw (.slice Au ds.length cu) ds :: [])) := Lib.hid ((show Kv C w w1 [v] (Th.vw (.slice Au ds.length cu) ds :: []) from hk).add (t := Th.box w1.heap.size (.cells #[.slice Au ds.length cu] 26 (0, 0))) (below_new w1 _) (heap_alloc_new w1 _) (fun k hk => .inl (Nat.le_of_eq hk.symm)))
  have HVV := Lib.hid hvV
  clear hvV hds hk HBU HML
  go_upto_region 2 with (fail)
  generalize World.alloc _ _ = w2 at HK2 ⊢
  generalize w1.heap.size = B8 at HK2 ⊢
  obtain ⟨fit, hfc, hfr⟩ : ∃ fit : ByteArray → ByteArray → ByteArray → Int, (∀ W, Kv C w W [v] (Th.box B8 (.cells #[.slice Au ds.length cu] 26 (0, 0)) :: Th.vw (.slice Au ds.length cu) ds :: []) → ∀ rm id th : ByteArray, rm.size ≤ 40 → id.size ≤ maxLen → Calls Try.prog 9 #[.pointer (some ⟨v.g, 0, none⟩), .string rm, .string id, .string th] W fun e w' => e = .returned (.int .i64 (fit rm id th)) ∧ Kv C w w' [v] (Th.box B8 (.cells #[.slice Au ds.length cu] 26 (0, 0)) :: Th.vw (.slice Au ds.length cu) ds :: [])) ∧ (∀ W, Kv C w W [v] (Th.box B8 (.cells #[.slice Au ds.length cu] 26 (0, 0)) :: Th.vw (.slice Au ds.length cu) ds :: []) → ∀ rm id th : ByteArray, Calls Try.prog 10 #[.agg #[.slice Au ds.length cu], .string rm, .string id, .string th] W fun e w' => e = .returned (.int .i64 (fit rm id th)) ∧ Kv C w w' [v] (Th.box B8 (.cells #[.slice Au ds.length cu] 26 (0, 0)) :: Th.vw (.slice Au ds.length cu) ds :: [])) :=
    ⟨fun rm id th => fitsL (ofL (vws ds) rm) id th, fun W hw rm id th hr hi => by
      have := viewFits_any hw (i := 0) rfl rm id th hr hi
      rw [HVV.out] at this
      exact this, fun W hw rm id th => refFits10_any hw (List.mem_cons_of_mem _ List.mem_cons_self) HVO.out rm id th⟩
  have HFC := Lib.hid hfc
  have HFR := Lib.hid hfr
  clear hfc hfr HVO HVV
  have HLV := Lib.hid (fun W (hw : Kv C w W [v] (Th.box B8 (.cells #[.slice Au ds.length cu] 26 (0, 0)) :: Th.vw (.slice Au ds.length cu) ds :: [])) => lives10_any CR hw)
  have HE0 : Hid (∀ W, Kv C w W [v] (Th.box B8 (.cells #[.slice Au ds.length cu] 26 (0, 0)) :: Th.vw (.slice Au ds.length cu) ds :: []) → Calls Try.prog 7 #[.int .i64 0] W fun e w' => e = .returned (.string (eventS 0)) ∧ Kv C w w' [v] (Th.box B8 (.cells #[.slice Au ds.length cu] 26 (0, 0)) :: Th.vw (.slice Au ds.length cu) ds :: [])) := Lib.hid (fun W hw => (eventOf_any 0 W (by decide) (by decide)).mono (fun e w' he => ⟨he.1, hw.later he.2⟩))
  have HEZ := Lib.hid (eventS_size 0)
  go_wp2_with fail
  go_at_call 5
  refine (HFW.out _).mono ?_
  rintro e w3 ⟨rfl, rfl⟩
  clear HFW
  go_wp2_with fail
  go_loopw [9] (fun i wr => ∃ a : Nat, i = .int .i64 (a : Int) ∧ a ≤ 2 ∧ Hid (Kv C w wr [v] (Th.box B8 (.cells #[.slice Au ds.length cu] 26 (0, 0)) :: Th.vw (.slice Au ds.length cu) ds :: []))) (fun i _ => 2 - (intOf i).toNat)
  case atStart => exact ⟨0, rfl, Nat.zero_le _, HK2⟩
  case round =>
    obtain ⟨a, rfl, ha, HK⟩ := hrel
    clear HK2
    by_cases h1 : a < 2
    · have q1 : decide ((a : Int) < 2) = true := decide_eq_true (by omega)
      have HRO := Lib.hid (fun W => roomOf_any (a : Int) W (by omega) (by omega))
      have HRM : Hid ((roomS (a : Int)).size ≤ 40) := Lib.hid (named_size (roomS_room (a : Int)))
      generalize roomS (a : Int) = rm at HRO HRM
      go_wp2_with fail
      go_at_call 6
      refine (HRO.out _).mono ?_
      rintro e w4 ⟨rfl, b4⟩
      have HK4 := Lib.hid (HK.out.later b4)
      clear b4 HK HRO
      go_wp2_with fail
      go_loopw [11] (fun i wr => ∃ b : Nat, i = .int .i64 (b : Int) ∧ b ≤ 10 ∧ Hid (Kv C w wr [v] (Th.box B8 (.cells #[.slice Au ds.length cu] 26 (0, 0)) :: Th.vw (.slice Au ds.length cu) ds :: []))) (fun i _ => 10 - (intOf i).toNat)
      case atStart => exact ⟨0, rfl, Nat.zero_le _, HK4⟩
      case round =>
        obtain ⟨b, rfl, hb, HK⟩ := hrel
        clear HK4
        by_cases h2 : b < 10
        · have q2 : decide ((b : Int) < 10) = true := decide_eq_true (by omega)
          obtain ⟨ri, hri, hri1⟩ : ∃ ri : Int, (b : Int).tmod 9 = ri ∧ 0 ≤ ri ∧ ri < 9 := ⟨_, rfl, by rw [Int.tmod_eq_emod_of_nonneg (by omega)]; omega⟩
          have HEO := Lib.hid (fun W => eventOf_any ri W (by omega) (by omega))
          have HES := Lib.hid (eventS_size ri)
          generalize eventS ri = ev at HEO HES
          go_wp2_with fail
          go_at_call 7
          refine (HEO.out _).mono ?_
          rintro e w5 ⟨rfl, b5⟩
          have HK5 := Lib.hid (HK.out.later b5)
          clear b5 HK HEO
          by_cases h9 : b = 9
          · have q5 : ((b : Int) == 9) = true := by rw [beq_iff_eq]; omega
            have hid : s6.size ≤ maxLen := Nat.le_trans HS6.out (by decide)
            go_wp2_with fail
            go_loopw [13] (fun i wr => ∃ c : Nat, i = .int .i64 (c : Int) ∧ c ≤ 12 ∧ Hid (Kv C w wr [v] (Th.box B8 (.cells #[.slice Au ds.length cu] 26 (0, 0)) :: Th.vw (.slice Au ds.length cu) ds :: []))) (fun i _ => 12 - (intOf i).toNat)
            case atStart => exact ⟨0, rfl, Nat.zero_le _, HK5⟩
            case round =>
              obtain ⟨c, rfl, hc, HK⟩ := hrel
              clear HK5
              by_cases h3 : c < 12
              · have q3 : decide ((c : Int) < 12) = true := decide_eq_true (by omega)
                obtain ⟨rj, hrj, hrj1⟩ : ∃ rj : Int, (c : Int).tmod 11 = rj ∧ 0 ≤ rj ∧ rj < 11 := ⟨_, rfl, by rw [Int.tmod_eq_emod_of_nonneg (by omega)]; omega⟩
                have HTO := Lib.hid (fun W => threadOf_any rj W (by omega) (by omega))
                generalize threadS rj = tn at HTO
                go_wp2_with fail
                go_at_call 8
                refine (HTO.out _).mono ?_
                rintro e w7 ⟨rfl, b7⟩
                have HK7 := Lib.hid (HK.out.later b7)
                clear b7 HK HTO
                by_cases h8 : c = 11
                · have q4 : ((c : Int) == 11) = true := by rw [beq_iff_eq]; omega
                  go_upto_region 21 with (fail)
                  refine wp_region_held_drew (S := fun W => Kv C w W [v] (Th.box B8 (.cells #[.slice Au ds.length cu] 26 (0, 0)) :: Th.vw (.slice Au ds.length cu) ds :: [])) (by kernel_rfl) (HK7.out.later (below_drew _)) (fun hHeld => ?_)
                  clear HK7
                  generalize World.drew _ = wd at hHeld ⊢
                  refine wpAnyH_take (i := 0) (oi := ⟨some 51, _, _, _, _, _⟩) (v := ?vaps0_0) rfl (by kernel_rfl) (by kernel_rfl) (by kernel_rfl) (fun _ _ _ h => h) (Or.inl ⟨by rfl, ?yaps0_0⟩) hHeld ?raps0_0
                  case yaps0_0 =>
                    intro wx hSx
                    go_simp
                    try with_reducible rfl
                  try simp only [Act.put, List.setIfInBounds_toArray, List.set_cons_zero, List.set_cons_succ]
                  refine wpAnyH_take (i := 1) (oi := ⟨some 52, _, _, _, _, _⟩) (v := ?vaps0_1) rfl (by kernel_rfl) (by kernel_rfl) (by kernel_rfl) (fun _ _ _ h => h) (Or.inl ⟨by rfl, ?yaps0_1⟩) hHeld ?raps0_1
                  case yaps0_1 =>
                    intro wx hSx
                    go_simp
                    try with_reducible rfl
                  try simp only [Act.put, List.setIfInBounds_toArray, List.set_cons_zero, List.set_cons_succ]
                  refine wpAnyH_take (i := 2) (oi := ⟨some 53, _, _, _, _, _⟩) (v := ?vaps0_2) rfl (by kernel_rfl) (by kernel_rfl) (by kernel_rfl) (fun _ _ _ h => h) (Or.inl ⟨by rfl, ?yaps0_2⟩) hHeld ?raps0_2
                  case yaps0_2 =>
                    intro wx hSx
                    go_simp
                    try with_reducible rfl
                  try simp only [Act.put, List.setIfInBounds_toArray, List.set_cons_zero, List.set_cons_succ]
                  refine wpAnyH_take (i := 3) (oi := ⟨some 54, _, _, _, _, _⟩) (v := ?vaps0_3) rfl (by kernel_rfl) (by kernel_rfl) (by kernel_rfl) (fun _ _ _ h => h) (Or.inl ⟨by rfl, ?yaps0_3⟩) hHeld ?raps0_3
                  case yaps0_3 =>
                    intro wx hSx
                    go_simp
                    try with_reducible rfl
                  try simp only [Act.put, List.setIfInBounds_toArray, List.set_cons_zero, List.set_cons_succ]
                  refine wpAnyH_take (i := 5) (oi := ⟨some 56, _, _, _, _, _⟩) (v := ?vaps0_5) rfl (by kernel_rfl) (by kernel_rfl) (by kernel_rfl) (fun _ _ _ h => h) (Or.inl ⟨by rfl, ?yaps0_5⟩) hHeld ?raps0_5
                  case yaps0_5 =>
                    intro wx hSx
                    have z : wx.cell? ⟨B8, 0, none⟩ = some (.slice Au ds.length cu) := cell_at (hSx.is List.mem_cons_self) 0
                    go_simp
                    try with_reducible rfl
                  try simp only [Act.put, List.setIfInBounds_toArray, List.set_cons_zero, List.set_cons_succ]
                  refine wpAnyH_take (i := 6) (oi := ⟨some 57, _, _, _, _, _⟩) (v := ?vaps0_6) rfl (by kernel_rfl) (by kernel_rfl) (by kernel_rfl) (fun _ _ _ h => h) (Or.inl ⟨by rfl, ?yaps0_6⟩) hHeld ?raps0_6
                  case yaps0_6 =>
                    intro wx hSx
                    go_simp
                    try with_reducible rfl
                  try simp only [Act.put, List.setIfInBounds_toArray, List.set_cons_zero, List.set_cons_succ]
                  refine wpAnyH_take (i := 7) (oi := ⟨some 58, _, _, _, _, _⟩) (v := ?vaps0_7) rfl (by kernel_rfl) (by kernel_rfl) (by kernel_rfl) (fun _ _ _ h => h) (Or.inl ⟨by rfl, ?yaps0_7⟩) hHeld ?raps0_7
                  case yaps0_7 =>
                    intro wx hSx
                    go_simp
                    try with_reducible rfl
                  try simp only [Act.put, List.setIfInBounds_toArray, List.set_cons_zero, List.set_cons_succ]
                  refine wpAnyH_take (i := 8) (oi := ⟨some 59, _, _, _, _, _⟩) (v := ?vaps0_8) rfl (by kernel_rfl) (by kernel_rfl) (by kernel_rfl) (fun _ _ _ h => h) (Or.inl ⟨by rfl, ?yaps0_8⟩) hHeld ?raps0_8
                  case yaps0_8 =>
                    intro wx hSx
                    go_simp
                    try with_reducible rfl
                  try simp only [Act.put, List.setIfInBounds_toArray, List.set_cons_zero, List.set_cons_succ]
                  refine wpAnyH_ready (rs := [4]) (by kernel_rfl) (by simp) ?_
                  refine AllReadyH.cons (o := ⟨some 55, _, _, _, _, _⟩) rfl (fun K hK => ?wap4) AllReadyH.nil
                  case wap4 =>
                    have HQc := Lib.hid (HFC.out wd hHeld rm s6 s6 HRM.out hid)
                    go_simp
                    refine HQc.out.mono ?_
                    rintro e Wap4 ⟨rfl, hk⟩
                    refine hK.out _ _ hk (fun hHeld => ?_)
                    clear hK K hk HQc
                    try simp only [Act.put, List.setIfInBounds_toArray, List.set_cons_zero, List.set_cons_succ]
                    refine wpAnyH_ready (rs := [9]) (by kernel_rfl) (by simp) ?_
                    refine AllReadyH.cons (o := ⟨some 60, _, _, _, _, _⟩) rfl (fun K hK => ?wap4x9) AllReadyH.nil
                    case wap4x9 =>
                      have HQc := Lib.hid (HFR.out Wap4 hHeld rm s6 s6)
                      go_simp
                      refine HQc.out.mono ?_
                      rintro e Wap4x9 ⟨rfl, hk⟩
                      refine hK.out _ _ hk (fun hHeld => ?_)
                      clear hK K hk HQc
                      try simp only [Act.put, List.setIfInBounds_toArray, List.set_cons_zero, List.set_cons_succ]
                      refine wpAnyH_take (i := 10) (oi := ⟨some 61, _, _, _, _, _⟩) (v := ?vap4x9xs2_10) rfl (by kernel_rfl) (by kernel_rfl) (by kernel_rfl) (fun _ _ _ h => h) (Or.inl ⟨by rfl, ?yap4x9xs2_10⟩) hHeld ?rap4x9xs2_10
                      case yap4x9xs2_10 =>
                        intro wx hSx
                        go_simp
                        try with_reducible rfl
                      try simp only [Act.put, List.setIfInBounds_toArray, List.set_cons_zero, List.set_cons_succ]
                      refine wpAnyH_done (by kernel_rfl) ?_ _
                      have HKF : Hid (Kv C w Wap4x9 [v] (Th.box B8 (.cells #[.slice Au ds.length cu] 26 (0, 0)) :: Th.vw (.slice Au ds.length cu) ds :: [])) := Lib.hid hHeld
                      clear hHeld
                      go_wp2_with fail
                      refine ⟨⟨c + 1, by go_num, by omega, HKF⟩, ?_⟩
                      simp [intOf]; omega
                · have q4 : ((c : Int) == 11) = false := by rw [beq_eq_false_iff_ne]; omega
                  go_upto_region 21 with (fail)
                  refine wp_region_held_drew (S := fun W => Kv C w W [v] (Th.box B8 (.cells #[.slice Au ds.length cu] 26 (0, 0)) :: Th.vw (.slice Au ds.length cu) ds :: [])) (by kernel_rfl) (HK7.out.later (below_drew _)) (fun hHeld => ?_)
                  clear HK7
                  generalize World.drew _ = wd at hHeld ⊢
                  refine wpAnyH_take (i := 0) (oi := ⟨some 51, _, _, _, _, _⟩) (v := ?vaqs0_0) rfl (by kernel_rfl) (by kernel_rfl) (by kernel_rfl) (fun _ _ _ h => h) (Or.inl ⟨by rfl, ?yaqs0_0⟩) hHeld ?raqs0_0
                  case yaqs0_0 =>
                    intro wx hSx
                    go_simp
                    try with_reducible rfl
                  try simp only [Act.put, List.setIfInBounds_toArray, List.set_cons_zero, List.set_cons_succ]
                  refine wpAnyH_take (i := 1) (oi := ⟨some 52, _, _, _, _, _⟩) (v := ?vaqs0_1) rfl (by kernel_rfl) (by kernel_rfl) (by kernel_rfl) (fun _ _ _ h => h) (Or.inl ⟨by rfl, ?yaqs0_1⟩) hHeld ?raqs0_1
                  case yaqs0_1 =>
                    intro wx hSx
                    go_simp
                    try with_reducible rfl
                  try simp only [Act.put, List.setIfInBounds_toArray, List.set_cons_zero, List.set_cons_succ]
                  refine wpAnyH_take (i := 2) (oi := ⟨some 53, _, _, _, _, _⟩) (v := ?vaqs0_2) rfl (by kernel_rfl) (by kernel_rfl) (by kernel_rfl) (fun _ _ _ h => h) (Or.inl ⟨by rfl, ?yaqs0_2⟩) hHeld ?raqs0_2
                  case yaqs0_2 =>
                    intro wx hSx
                    go_simp
                    try with_reducible rfl
                  try simp only [Act.put, List.setIfInBounds_toArray, List.set_cons_zero, List.set_cons_succ]
                  refine wpAnyH_take (i := 3) (oi := ⟨some 54, _, _, _, _, _⟩) (v := ?vaqs0_3) rfl (by kernel_rfl) (by kernel_rfl) (by kernel_rfl) (fun _ _ _ h => h) (Or.inl ⟨by rfl, ?yaqs0_3⟩) hHeld ?raqs0_3
                  case yaqs0_3 =>
                    intro wx hSx
                    go_simp
                    try with_reducible rfl
                  try simp only [Act.put, List.setIfInBounds_toArray, List.set_cons_zero, List.set_cons_succ]
                  refine wpAnyH_take (i := 5) (oi := ⟨some 56, _, _, _, _, _⟩) (v := ?vaqs0_5) rfl (by kernel_rfl) (by kernel_rfl) (by kernel_rfl) (fun _ _ _ h => h) (Or.inl ⟨by rfl, ?yaqs0_5⟩) hHeld ?raqs0_5
                  case yaqs0_5 =>
                    intro wx hSx
                    have z : wx.cell? ⟨B8, 0, none⟩ = some (.slice Au ds.length cu) := cell_at (hSx.is List.mem_cons_self) 0
                    go_simp
                    try with_reducible rfl
                  try simp only [Act.put, List.setIfInBounds_toArray, List.set_cons_zero, List.set_cons_succ]
                  refine wpAnyH_take (i := 6) (oi := ⟨some 57, _, _, _, _, _⟩) (v := ?vaqs0_6) rfl (by kernel_rfl) (by kernel_rfl) (by kernel_rfl) (fun _ _ _ h => h) (Or.inl ⟨by rfl, ?yaqs0_6⟩) hHeld ?raqs0_6
                  case yaqs0_6 =>
                    intro wx hSx
                    go_simp
                    try with_reducible rfl
                  try simp only [Act.put, List.setIfInBounds_toArray, List.set_cons_zero, List.set_cons_succ]
                  refine wpAnyH_take (i := 7) (oi := ⟨some 58, _, _, _, _, _⟩) (v := ?vaqs0_7) rfl (by kernel_rfl) (by kernel_rfl) (by kernel_rfl) (fun _ _ _ h => h) (Or.inl ⟨by rfl, ?yaqs0_7⟩) hHeld ?raqs0_7
                  case yaqs0_7 =>
                    intro wx hSx
                    go_simp
                    try with_reducible rfl
                  try simp only [Act.put, List.setIfInBounds_toArray, List.set_cons_zero, List.set_cons_succ]
                  refine wpAnyH_take (i := 8) (oi := ⟨some 59, _, _, _, _, _⟩) (v := ?vaqs0_8) rfl (by kernel_rfl) (by kernel_rfl) (by kernel_rfl) (fun _ _ _ h => h) (Or.inl ⟨by rfl, ?yaqs0_8⟩) hHeld ?raqs0_8
                  case yaqs0_8 =>
                    intro wx hSx
                    go_simp
                    try with_reducible rfl
                  try simp only [Act.put, List.setIfInBounds_toArray, List.set_cons_zero, List.set_cons_succ]
                  refine wpAnyH_ready (rs := [4]) (by kernel_rfl) (by simp) ?_
                  refine AllReadyH.cons (o := ⟨some 55, _, _, _, _, _⟩) rfl (fun K hK => ?waq4) AllReadyH.nil
                  case waq4 =>
                    have HQc := Lib.hid (HFC.out wd hHeld rm s6 tn HRM.out hid)
                    go_simp
                    refine HQc.out.mono ?_
                    rintro e Waq4 ⟨rfl, hk⟩
                    refine hK.out _ _ hk (fun hHeld => ?_)
                    clear hK K hk HQc
                    try simp only [Act.put, List.setIfInBounds_toArray, List.set_cons_zero, List.set_cons_succ]
                    refine wpAnyH_ready (rs := [9]) (by kernel_rfl) (by simp) ?_
                    refine AllReadyH.cons (o := ⟨some 60, _, _, _, _, _⟩) rfl (fun K hK => ?waq4x9) AllReadyH.nil
                    case waq4x9 =>
                      have HQc := Lib.hid (HFR.out Waq4 hHeld rm s6 tn)
                      go_simp
                      refine HQc.out.mono ?_
                      rintro e Waq4x9 ⟨rfl, hk⟩
                      refine hK.out _ _ hk (fun hHeld => ?_)
                      clear hK K hk HQc
                      try simp only [Act.put, List.setIfInBounds_toArray, List.set_cons_zero, List.set_cons_succ]
                      refine wpAnyH_take (i := 10) (oi := ⟨some 61, _, _, _, _, _⟩) (v := ?vaq4x9xs2_10) rfl (by kernel_rfl) (by kernel_rfl) (by kernel_rfl) (fun _ _ _ h => h) (Or.inl ⟨by rfl, ?yaq4x9xs2_10⟩) hHeld ?raq4x9xs2_10
                      case yaq4x9xs2_10 =>
                        intro wx hSx
                        go_simp
                        try with_reducible rfl
                      try simp only [Act.put, List.setIfInBounds_toArray, List.set_cons_zero, List.set_cons_succ]
                      refine wpAnyH_done (by kernel_rfl) ?_ _
                      have HKF : Hid (Kv C w Waq4x9 [v] (Th.box B8 (.cells #[.slice Au ds.length cu] 26 (0, 0)) :: Th.vw (.slice Au ds.length cu) ds :: [])) := Lib.hid hHeld
                      clear hHeld
                      go_wp2_with fail
                      refine ⟨⟨c + 1, by go_num, by omega, HKF⟩, ?_⟩
                      simp [intOf]; omega
              · have q3 : decide ((c : Int) < 12) = false := decide_eq_false (by omega)
                go_wp2_with fail
                refine ⟨⟨b + 1, by go_num, by omega, HK⟩, ?_⟩
                simp [intOf]; omega
          · have q5 : ((b : Int) == 9) = false := by rw [beq_eq_false_iff_ne]; omega
            have hid := HES.out
            go_wp2_with fail
            go_loopw [13] (fun i wr => ∃ c : Nat, i = .int .i64 (c : Int) ∧ c ≤ 12 ∧ Hid (Kv C w wr [v] (Th.box B8 (.cells #[.slice Au ds.length cu] 26 (0, 0)) :: Th.vw (.slice Au ds.length cu) ds :: []))) (fun i _ => 12 - (intOf i).toNat)
            case atStart => exact ⟨0, rfl, Nat.zero_le _, HK5⟩
            case round =>
              obtain ⟨c, rfl, hc, HK⟩ := hrel
              clear HK5
              by_cases h3 : c < 12
              · have q3 : decide ((c : Int) < 12) = true := decide_eq_true (by omega)
                obtain ⟨rj, hrj, hrj1⟩ : ∃ rj : Int, (c : Int).tmod 11 = rj ∧ 0 ≤ rj ∧ rj < 11 := ⟨_, rfl, by rw [Int.tmod_eq_emod_of_nonneg (by omega)]; omega⟩
                have HTO := Lib.hid (fun W => threadOf_any rj W (by omega) (by omega))
                generalize threadS rj = tn at HTO
                go_wp2_with fail
                go_at_call 8
                refine (HTO.out _).mono ?_
                rintro e w7 ⟨rfl, b7⟩
                have HK7 := Lib.hid (HK.out.later b7)
                clear b7 HK HTO
                by_cases h8 : c = 11
                · have q4 : ((c : Int) == 11) = true := by rw [beq_iff_eq]; omega
                  go_upto_region 21 with (fail)
                  refine wp_region_held_drew (S := fun W => Kv C w W [v] (Th.box B8 (.cells #[.slice Au ds.length cu] 26 (0, 0)) :: Th.vw (.slice Au ds.length cu) ds :: [])) (by kernel_rfl) (HK7.out.later (below_drew _)) (fun hHeld => ?_)
                  clear HK7
                  generalize World.drew _ = wd at hHeld ⊢
                  refine wpAnyH_take (i := 0) (oi := ⟨some 51, _, _, _, _, _⟩) (v := ?vbps0_0) rfl (by kernel_rfl) (by kernel_rfl) (by kernel_rfl) (fun _ _ _ h => h) (Or.inl ⟨by rfl, ?ybps0_0⟩) hHeld ?rbps0_0
                  case ybps0_0 =>
                    intro wx hSx
                    go_simp
                    try with_reducible rfl
                  try simp only [Act.put, List.setIfInBounds_toArray, List.set_cons_zero, List.set_cons_succ]
                  refine wpAnyH_take (i := 1) (oi := ⟨some 52, _, _, _, _, _⟩) (v := ?vbps0_1) rfl (by kernel_rfl) (by kernel_rfl) (by kernel_rfl) (fun _ _ _ h => h) (Or.inl ⟨by rfl, ?ybps0_1⟩) hHeld ?rbps0_1
                  case ybps0_1 =>
                    intro wx hSx
                    go_simp
                    try with_reducible rfl
                  try simp only [Act.put, List.setIfInBounds_toArray, List.set_cons_zero, List.set_cons_succ]
                  refine wpAnyH_take (i := 2) (oi := ⟨some 53, _, _, _, _, _⟩) (v := ?vbps0_2) rfl (by kernel_rfl) (by kernel_rfl) (by kernel_rfl) (fun _ _ _ h => h) (Or.inl ⟨by rfl, ?ybps0_2⟩) hHeld ?rbps0_2
                  case ybps0_2 =>
                    intro wx hSx
                    go_simp
                    try with_reducible rfl
                  try simp only [Act.put, List.setIfInBounds_toArray, List.set_cons_zero, List.set_cons_succ]
                  refine wpAnyH_take (i := 3) (oi := ⟨some 54, _, _, _, _, _⟩) (v := ?vbps0_3) rfl (by kernel_rfl) (by kernel_rfl) (by kernel_rfl) (fun _ _ _ h => h) (Or.inl ⟨by rfl, ?ybps0_3⟩) hHeld ?rbps0_3
                  case ybps0_3 =>
                    intro wx hSx
                    go_simp
                    try with_reducible rfl
                  try simp only [Act.put, List.setIfInBounds_toArray, List.set_cons_zero, List.set_cons_succ]
                  refine wpAnyH_take (i := 5) (oi := ⟨some 56, _, _, _, _, _⟩) (v := ?vbps0_5) rfl (by kernel_rfl) (by kernel_rfl) (by kernel_rfl) (fun _ _ _ h => h) (Or.inl ⟨by rfl, ?ybps0_5⟩) hHeld ?rbps0_5
                  case ybps0_5 =>
                    intro wx hSx
                    have z : wx.cell? ⟨B8, 0, none⟩ = some (.slice Au ds.length cu) := cell_at (hSx.is List.mem_cons_self) 0
                    go_simp
                    try with_reducible rfl
                  try simp only [Act.put, List.setIfInBounds_toArray, List.set_cons_zero, List.set_cons_succ]
                  refine wpAnyH_take (i := 6) (oi := ⟨some 57, _, _, _, _, _⟩) (v := ?vbps0_6) rfl (by kernel_rfl) (by kernel_rfl) (by kernel_rfl) (fun _ _ _ h => h) (Or.inl ⟨by rfl, ?ybps0_6⟩) hHeld ?rbps0_6
                  case ybps0_6 =>
                    intro wx hSx
                    go_simp
                    try with_reducible rfl
                  try simp only [Act.put, List.setIfInBounds_toArray, List.set_cons_zero, List.set_cons_succ]
                  refine wpAnyH_take (i := 7) (oi := ⟨some 58, _, _, _, _, _⟩) (v := ?vbps0_7) rfl (by kernel_rfl) (by kernel_rfl) (by kernel_rfl) (fun _ _ _ h => h) (Or.inl ⟨by rfl, ?ybps0_7⟩) hHeld ?rbps0_7
                  case ybps0_7 =>
                    intro wx hSx
                    go_simp
                    try with_reducible rfl
                  try simp only [Act.put, List.setIfInBounds_toArray, List.set_cons_zero, List.set_cons_succ]
                  refine wpAnyH_take (i := 8) (oi := ⟨some 59, _, _, _, _, _⟩) (v := ?vbps0_8) rfl (by kernel_rfl) (by kernel_rfl) (by kernel_rfl) (fun _ _ _ h => h) (Or.inl ⟨by rfl, ?ybps0_8⟩) hHeld ?rbps0_8
                  case ybps0_8 =>
                    intro wx hSx
                    go_simp
                    try with_reducible rfl
                  try simp only [Act.put, List.setIfInBounds_toArray, List.set_cons_zero, List.set_cons_succ]
                  refine wpAnyH_ready (rs := [4]) (by kernel_rfl) (by simp) ?_
                  refine AllReadyH.cons (o := ⟨some 55, _, _, _, _, _⟩) rfl (fun K hK => ?wbp4) AllReadyH.nil
                  case wbp4 =>
                    have HQc := Lib.hid (HFC.out wd hHeld rm ev s6 HRM.out hid)
                    go_simp
                    refine HQc.out.mono ?_
                    rintro e Wbp4 ⟨rfl, hk⟩
                    refine hK.out _ _ hk (fun hHeld => ?_)
                    clear hK K hk HQc
                    try simp only [Act.put, List.setIfInBounds_toArray, List.set_cons_zero, List.set_cons_succ]
                    refine wpAnyH_ready (rs := [9]) (by kernel_rfl) (by simp) ?_
                    refine AllReadyH.cons (o := ⟨some 60, _, _, _, _, _⟩) rfl (fun K hK => ?wbp4x9) AllReadyH.nil
                    case wbp4x9 =>
                      have HQc := Lib.hid (HFR.out Wbp4 hHeld rm ev s6)
                      go_simp
                      refine HQc.out.mono ?_
                      rintro e Wbp4x9 ⟨rfl, hk⟩
                      refine hK.out _ _ hk (fun hHeld => ?_)
                      clear hK K hk HQc
                      try simp only [Act.put, List.setIfInBounds_toArray, List.set_cons_zero, List.set_cons_succ]
                      refine wpAnyH_take (i := 10) (oi := ⟨some 61, _, _, _, _, _⟩) (v := ?vbp4x9xs2_10) rfl (by kernel_rfl) (by kernel_rfl) (by kernel_rfl) (fun _ _ _ h => h) (Or.inl ⟨by rfl, ?ybp4x9xs2_10⟩) hHeld ?rbp4x9xs2_10
                      case ybp4x9xs2_10 =>
                        intro wx hSx
                        go_simp
                        try with_reducible rfl
                      try simp only [Act.put, List.setIfInBounds_toArray, List.set_cons_zero, List.set_cons_succ]
                      refine wpAnyH_done (by kernel_rfl) ?_ _
                      have HKF : Hid (Kv C w Wbp4x9 [v] (Th.box B8 (.cells #[.slice Au ds.length cu] 26 (0, 0)) :: Th.vw (.slice Au ds.length cu) ds :: [])) := Lib.hid hHeld
                      clear hHeld
                      go_wp2_with fail
                      refine ⟨⟨c + 1, by go_num, by omega, HKF⟩, ?_⟩
                      simp [intOf]; omega
                · have q4 : ((c : Int) == 11) = false := by rw [beq_eq_false_iff_ne]; omega
                  go_upto_region 21 with (fail)
                  refine wp_region_held_drew (S := fun W => Kv C w W [v] (Th.box B8 (.cells #[.slice Au ds.length cu] 26 (0, 0)) :: Th.vw (.slice Au ds.length cu) ds :: [])) (by kernel_rfl) (HK7.out.later (below_drew _)) (fun hHeld => ?_)
                  clear HK7
                  generalize World.drew _ = wd at hHeld ⊢
                  refine wpAnyH_take (i := 0) (oi := ⟨some 51, _, _, _, _, _⟩) (v := ?vbqs0_0) rfl (by kernel_rfl) (by kernel_rfl) (by kernel_rfl) (fun _ _ _ h => h) (Or.inl ⟨by rfl, ?ybqs0_0⟩) hHeld ?rbqs0_0
                  case ybqs0_0 =>
                    intro wx hSx
                    go_simp
                    try with_reducible rfl
                  try simp only [Act.put, List.setIfInBounds_toArray, List.set_cons_zero, List.set_cons_succ]
                  refine wpAnyH_take (i := 1) (oi := ⟨some 52, _, _, _, _, _⟩) (v := ?vbqs0_1) rfl (by kernel_rfl) (by kernel_rfl) (by kernel_rfl) (fun _ _ _ h => h) (Or.inl ⟨by rfl, ?ybqs0_1⟩) hHeld ?rbqs0_1
                  case ybqs0_1 =>
                    intro wx hSx
                    go_simp
                    try with_reducible rfl
                  try simp only [Act.put, List.setIfInBounds_toArray, List.set_cons_zero, List.set_cons_succ]
                  refine wpAnyH_take (i := 2) (oi := ⟨some 53, _, _, _, _, _⟩) (v := ?vbqs0_2) rfl (by kernel_rfl) (by kernel_rfl) (by kernel_rfl) (fun _ _ _ h => h) (Or.inl ⟨by rfl, ?ybqs0_2⟩) hHeld ?rbqs0_2
                  case ybqs0_2 =>
                    intro wx hSx
                    go_simp
                    try with_reducible rfl
                  try simp only [Act.put, List.setIfInBounds_toArray, List.set_cons_zero, List.set_cons_succ]
                  refine wpAnyH_take (i := 3) (oi := ⟨some 54, _, _, _, _, _⟩) (v := ?vbqs0_3) rfl (by kernel_rfl) (by kernel_rfl) (by kernel_rfl) (fun _ _ _ h => h) (Or.inl ⟨by rfl, ?ybqs0_3⟩) hHeld ?rbqs0_3
                  case ybqs0_3 =>
                    intro wx hSx
                    go_simp
                    try with_reducible rfl
                  try simp only [Act.put, List.setIfInBounds_toArray, List.set_cons_zero, List.set_cons_succ]
                  refine wpAnyH_take (i := 5) (oi := ⟨some 56, _, _, _, _, _⟩) (v := ?vbqs0_5) rfl (by kernel_rfl) (by kernel_rfl) (by kernel_rfl) (fun _ _ _ h => h) (Or.inl ⟨by rfl, ?ybqs0_5⟩) hHeld ?rbqs0_5
                  case ybqs0_5 =>
                    intro wx hSx
                    have z : wx.cell? ⟨B8, 0, none⟩ = some (.slice Au ds.length cu) := cell_at (hSx.is List.mem_cons_self) 0
                    go_simp
                    try with_reducible rfl
                  try simp only [Act.put, List.setIfInBounds_toArray, List.set_cons_zero, List.set_cons_succ]
                  refine wpAnyH_take (i := 6) (oi := ⟨some 57, _, _, _, _, _⟩) (v := ?vbqs0_6) rfl (by kernel_rfl) (by kernel_rfl) (by kernel_rfl) (fun _ _ _ h => h) (Or.inl ⟨by rfl, ?ybqs0_6⟩) hHeld ?rbqs0_6
                  case ybqs0_6 =>
                    intro wx hSx
                    go_simp
                    try with_reducible rfl
                  try simp only [Act.put, List.setIfInBounds_toArray, List.set_cons_zero, List.set_cons_succ]
                  refine wpAnyH_take (i := 7) (oi := ⟨some 58, _, _, _, _, _⟩) (v := ?vbqs0_7) rfl (by kernel_rfl) (by kernel_rfl) (by kernel_rfl) (fun _ _ _ h => h) (Or.inl ⟨by rfl, ?ybqs0_7⟩) hHeld ?rbqs0_7
                  case ybqs0_7 =>
                    intro wx hSx
                    go_simp
                    try with_reducible rfl
                  try simp only [Act.put, List.setIfInBounds_toArray, List.set_cons_zero, List.set_cons_succ]
                  refine wpAnyH_take (i := 8) (oi := ⟨some 59, _, _, _, _, _⟩) (v := ?vbqs0_8) rfl (by kernel_rfl) (by kernel_rfl) (by kernel_rfl) (fun _ _ _ h => h) (Or.inl ⟨by rfl, ?ybqs0_8⟩) hHeld ?rbqs0_8
                  case ybqs0_8 =>
                    intro wx hSx
                    go_simp
                    try with_reducible rfl
                  try simp only [Act.put, List.setIfInBounds_toArray, List.set_cons_zero, List.set_cons_succ]
                  refine wpAnyH_ready (rs := [4]) (by kernel_rfl) (by simp) ?_
                  refine AllReadyH.cons (o := ⟨some 55, _, _, _, _, _⟩) rfl (fun K hK => ?wbq4) AllReadyH.nil
                  case wbq4 =>
                    have HQc := Lib.hid (HFC.out wd hHeld rm ev tn HRM.out hid)
                    go_simp
                    refine HQc.out.mono ?_
                    rintro e Wbq4 ⟨rfl, hk⟩
                    refine hK.out _ _ hk (fun hHeld => ?_)
                    clear hK K hk HQc
                    try simp only [Act.put, List.setIfInBounds_toArray, List.set_cons_zero, List.set_cons_succ]
                    refine wpAnyH_ready (rs := [9]) (by kernel_rfl) (by simp) ?_
                    refine AllReadyH.cons (o := ⟨some 60, _, _, _, _, _⟩) rfl (fun K hK => ?wbq4x9) AllReadyH.nil
                    case wbq4x9 =>
                      have HQc := Lib.hid (HFR.out Wbq4 hHeld rm ev tn)
                      go_simp
                      refine HQc.out.mono ?_
                      rintro e Wbq4x9 ⟨rfl, hk⟩
                      refine hK.out _ _ hk (fun hHeld => ?_)
                      clear hK K hk HQc
                      try simp only [Act.put, List.setIfInBounds_toArray, List.set_cons_zero, List.set_cons_succ]
                      refine wpAnyH_take (i := 10) (oi := ⟨some 61, _, _, _, _, _⟩) (v := ?vbq4x9xs2_10) rfl (by kernel_rfl) (by kernel_rfl) (by kernel_rfl) (fun _ _ _ h => h) (Or.inl ⟨by rfl, ?ybq4x9xs2_10⟩) hHeld ?rbq4x9xs2_10
                      case ybq4x9xs2_10 =>
                        intro wx hSx
                        go_simp
                        try with_reducible rfl
                      try simp only [Act.put, List.setIfInBounds_toArray, List.set_cons_zero, List.set_cons_succ]
                      refine wpAnyH_done (by kernel_rfl) ?_ _
                      have HKF : Hid (Kv C w Wbq4x9 [v] (Th.box B8 (.cells #[.slice Au ds.length cu] 26 (0, 0)) :: Th.vw (.slice Au ds.length cu) ds :: [])) := Lib.hid hHeld
                      clear hHeld
                      go_wp2_with fail
                      refine ⟨⟨c + 1, by go_num, by omega, HKF⟩, ?_⟩
                      simp [intOf]; omega
              · have q3 : decide ((c : Int) < 12) = false := decide_eq_false (by omega)
                go_wp2_with fail
                refine ⟨⟨b + 1, by go_num, by omega, HK⟩, ?_⟩
                simp [intOf]; omega
        · have q2 : decide ((b : Int) < 10) = false := decide_eq_false (by omega)
          go_wp2_with fail
          refine ⟨⟨a + 1, by go_num, by omega, HK⟩, ?_⟩
          simp [intOf]; omega
    · have q1 : decide ((a : Int) < 2) = false := decide_eq_false (by omega)
      go_upto_region 23 with (fail)
      refine wp_region_held_drew (S := fun W => Kv C w W [v] (Th.box B8 (.cells #[.slice Au ds.length cu] 26 (0, 0)) :: Th.vw (.slice Au ds.length cu) ds :: [])) (by kernel_rfl) (HK.out.later (below_drew _)) (fun hHeld => ?_)
      clear HK
      generalize World.drew _ = wd at hHeld ⊢
      refine wpAnyH_take (i := 0) (oi := ⟨some 62, _, _, _, _, _⟩) (v := ?vbs0_0) rfl (by kernel_rfl) (by kernel_rfl) (by kernel_rfl) (fun _ _ _ h => h) (Or.inl ⟨by rfl, ?ybs0_0⟩) hHeld ?rbs0_0
      case ybs0_0 =>
        intro wx hSx
        go_simp
        try with_reducible rfl
      try simp only [Act.put, List.setIfInBounds_toArray, List.set_cons_zero, List.set_cons_succ]
      refine wpAnyH_take (i := 1) (oi := ⟨some 63, _, _, _, _, _⟩) (v := ?vbs0_1) rfl (by kernel_rfl) (by kernel_rfl) (by kernel_rfl) (fun _ _ _ h => h) (Or.inl ⟨by rfl, ?ybs0_1⟩) hHeld ?rbs0_1
      case ybs0_1 =>
        intro wx hSx
        go_simp
        try with_reducible rfl
      try simp only [Act.put, List.setIfInBounds_toArray, List.set_cons_zero, List.set_cons_succ]
      refine wpAnyH_take (i := 4) (oi := ⟨some 66, _, _, _, _, _⟩) (v := ?vbs0_4) rfl (by kernel_rfl) (by kernel_rfl) (by kernel_rfl) (fun _ _ _ h => h) (Or.inl ⟨by rfl, ?ybs0_4⟩) hHeld ?rbs0_4
      case ybs0_4 =>
        intro wx hSx
        have z : wx.cell? ⟨B8, 0, none⟩ = some (.slice Au ds.length cu) := cell_at (hSx.is List.mem_cons_self) 0
        go_simp
        try with_reducible rfl
      try simp only [Act.put, List.setIfInBounds_toArray, List.set_cons_zero, List.set_cons_succ]
      refine wpAnyH_take (i := 5) (oi := ⟨some 67, _, _, _, _, _⟩) (v := ?vbs0_5) rfl (by kernel_rfl) (by kernel_rfl) (by kernel_rfl) (fun _ _ _ h => h) (Or.inl ⟨by rfl, ?ybs0_5⟩) hHeld ?rbs0_5
      case ybs0_5 =>
        intro wx hSx
        go_simp
        try with_reducible rfl
      try simp only [Act.put, List.setIfInBounds_toArray, List.set_cons_zero, List.set_cons_succ]
      refine wpAnyH_ready (rs := [2]) (by kernel_rfl) (by simp) ?_
      refine AllReadyH.cons (o := ⟨some 64, _, _, _, _, _⟩) rfl (fun K hK => ?wb2) AllReadyH.nil
      case wb2 =>
        have HQc := Lib.hid (HE0.out wd hHeld)
        go_simp
        refine HQc.out.mono ?_
        rintro e Wb2 ⟨rfl, hk⟩
        refine hK.out _ _ hk (fun hHeld => ?_)
        clear hK K hk HQc
        try simp only [Act.put, List.setIfInBounds_toArray, List.set_cons_zero, List.set_cons_succ]
        refine wpAnyH_ready (rs := [3]) (by kernel_rfl) (by simp) ?_
        refine AllReadyH.cons (o := ⟨some 65, _, _, _, _, _⟩) rfl (fun K hK => ?wb2x3) AllReadyH.nil
        case wb2x3 =>
          have HQc := Lib.hid (HFC.out Wb2 hHeld s6 (eventS 0) ⟨#[]⟩ (Nat.le_trans HS6.out (by decide)) HEZ.out)
          go_simp
          refine HQc.out.mono ?_
          rintro e Wb2x3 ⟨rfl, hk⟩
          refine hK.out _ _ hk (fun hHeld => ?_)
          clear hK K hk HQc
          try simp only [Act.put, List.setIfInBounds_toArray, List.set_cons_zero, List.set_cons_succ]
          refine wpAnyH_ready (rs := [6]) (by kernel_rfl) (by simp) ?_
          refine AllReadyH.cons (o := ⟨some 68, _, _, _, _, _⟩) rfl (fun K hK => ?wb2x3x6) AllReadyH.nil
          case wb2x3x6 =>
            have HQc := Lib.hid (HE0.out Wb2x3 hHeld)
            go_simp
            refine HQc.out.mono ?_
            rintro e Wb2x3x6 ⟨rfl, hk⟩
            refine hK.out _ _ hk (fun hHeld => ?_)
            clear hK K hk HQc
            try simp only [Act.put, List.setIfInBounds_toArray, List.set_cons_zero, List.set_cons_succ]
            refine wpAnyH_ready (rs := [7]) (by kernel_rfl) (by simp) ?_
            refine AllReadyH.cons (o := ⟨some 69, _, _, _, _, _⟩) rfl (fun K hK => ?wb2x3x6x7) AllReadyH.nil
            case wb2x3x6x7 =>
              have HQc := Lib.hid (HFR.out Wb2x3x6 hHeld s6 (eventS 0) ⟨#[]⟩)
              go_simp
              refine HQc.out.mono ?_
              rintro e Wb2x3x6x7 ⟨rfl, hk⟩
              refine hK.out _ _ hk (fun hHeld => ?_)
              clear hK K hk HQc
              try simp only [Act.put, List.setIfInBounds_toArray, List.set_cons_zero, List.set_cons_succ]
              refine wpAnyH_take (i := 8) (oi := ⟨some 70, _, _, _, _, _⟩) (v := ?vb2x3x6x7xs4_8) rfl (by kernel_rfl) (by kernel_rfl) (by kernel_rfl) (fun _ _ _ h => h) (Or.inl ⟨by rfl, ?yb2x3x6x7xs4_8⟩) hHeld ?rb2x3x6x7xs4_8
              case yb2x3x6x7xs4_8 =>
                intro wx hSx
                go_simp
                try with_reducible rfl
              try simp only [Act.put, List.setIfInBounds_toArray, List.set_cons_zero, List.set_cons_succ]
              refine wpAnyH_take (i := 9) (oi := ⟨some 71, _, _, _, _, _⟩) (v := ?vb2x3x6x7xs4_9) rfl (by kernel_rfl) (by kernel_rfl) (by kernel_rfl) (fun _ _ _ h => h) (Or.inl ⟨by rfl, ?yb2x3x6x7xs4_9⟩) hHeld ?rb2x3x6x7xs4_9
              case yb2x3x6x7xs4_9 =>
                intro wx hSx
                go_simp
                try with_reducible rfl
              try simp only [Act.put, List.setIfInBounds_toArray, List.set_cons_zero, List.set_cons_succ]
              refine wpAnyH_ready (rs := [10]) (by kernel_rfl) (by simp) ?_
              refine AllReadyH.cons (o := ⟨some 72, _, _, _, _, _⟩) rfl (fun K hK => ?wb2x3x6x7x10) AllReadyH.nil
              case wb2x3x6x7x10 =>
                have HQc := Lib.hid (HLV.out Wb2x3x6x7 hHeld)
                go_simp
                refine HQc.out.mono ?_
                rintro e Wb2x3x6x7x10 ⟨rfl, hk⟩
                refine hK.out _ _ hk (fun hHeld => ?_)
                clear hK K hk HQc
                try simp only [Act.put, List.setIfInBounds_toArray, List.set_cons_zero, List.set_cons_succ]
                refine wpAnyH_take (i := 11) (oi := ⟨some 73, _, _, _, _, _⟩) (v := ?vb2x3x6x7x10xs5_11) rfl (by kernel_rfl) (by kernel_rfl) (by kernel_rfl) (fun _ _ _ h => h) (Or.inl ⟨by rfl, ?yb2x3x6x7x10xs5_11⟩) hHeld ?rb2x3x6x7x10xs5_11
                case yb2x3x6x7x10xs5_11 =>
                  intro wx hSx
                  go_simp
                  try with_reducible rfl
                try simp only [Act.put, List.setIfInBounds_toArray, List.set_cons_zero, List.set_cons_succ]
                refine wpAnyH_take (i := 12) (oi := ⟨some 6, _, _, _, _, _⟩) (v := ?vb2x3x6x7x10xs5_12) rfl (by kernel_rfl) (by kernel_rfl) (by kernel_rfl) (fun _ _ _ h => h) (Or.inl ⟨by rfl, ?yb2x3x6x7x10xs5_12⟩) hHeld ?rb2x3x6x7x10xs5_12
                case yb2x3x6x7x10xs5_12 =>
                  intro wx hSx
                  go_simp
                  try with_reducible rfl
                try simp only [Act.put, List.setIfInBounds_toArray, List.set_cons_zero, List.set_cons_succ]
                refine wpAnyH_done (by kernel_rfl) ?_ _
                have HKF := Lib.hid hHeld
                clear hHeld
                go_wp2_with fail
                go_ret
                exact ⟨rfl, HKF.out.below⟩
end
end Go.Proofs.Ytjiecjpepiknmaa
