/-
  The document's questions.
-/
import Derived.Test.YtjiecjpepiknmaaGreatV3
import Derived.Test.YtjiecjpepiknmaaGreatV4
namespace Go.Proofs.YtjiecjpepiknmaaGreat
set_option maxRecDepth 20000
open Go.RowKit
set_option linter.unusedVariables false
set_option linter.unusedSimpArgs false
section
variable {w : World} {ds : List DV}
set_option maxHeartbeats 800000 in
theorem refJoined10_any {u : Value} (h : DsS w u ds) (hV : VOk 100 (vws ds)) (room user : ByteArray) :
    Calls Tryz.prog 33 #[.agg #[u], .string room, .string user] w fun e w' => e = .returned (.bool (joinL (ofL (vws ds) room) user)) ∧ Below w.heap.size w w' := by
  obtain ⟨A, cap, rfl, h1, h2, -⟩ := h.1
  have HD := Lib.hid h
  have HX := Lib.hid (heap_alloc_new w (.cells #[.slice A ds.length cap] 28))
  have HB := Lib.hid (below_new w (.cells #[.slice A ds.length cap] 28))
  have HLD := Lib.hid (vws_len hV)
  have HV := Lib.hid hV
  unfold maxLen at h2
  clear h hV
  go_enter Tryz.func33, Tryz.ntmps33
  go_upto_region 1 with (fail)
  generalize w.alloc _ = w1 at HX HB ⊢
  generalize hB2 : w.heap.size = B2 at HX ⊢
  have HB2 := Lib.hid hB2
  clear hB2
  have c2 : w1.cell? ⟨B2, 0, none⟩ = some (.slice A ds.length cap) := cell_at HX.out 0
  have HQ := Lib.hid (refOf_any (.slice A ds.length cap) ds room w1 (HD.out.below HB.out) (Nat.le_trans HLD.out.1 (by decide)))
  go_wp2_with fail
  go_at_call 10
  refine HQ.out.mono ?_
  rintro e w2 ⟨d, rfl, hes, rfl, hdm, hdo, hb2⟩
  have HES := Lib.hid hes
  have HDO := Lib.hid hdo
  have HBB := Lib.hid (HB.out.trans (hb2.mono HB.out.size))
  have HVL : Hid (Valid d.room (evs d.xs) ∧ d.xs.length ≤ 1000) := Lib.hid (by
    have := HV.out.of_ d.room
    rw [← hdo, evs_len] at this
    exact ⟨this.1, Nat.le_trans this.2 (by decide)⟩)
  clear hes hdm hdo hb2 HQ c2
  have HQ := Lib.hid (refJoined_any d.room user d.lv d.xs w2 HES.out HVL.out.1 HVL.out.2)
  rw [HDO.out] at HQ
  unfold DV.val
  go_wp2_with fail
  go_at_call 66
  refine HQ.out.mono ?_
  rintro e w3 ⟨rfl, g3⟩
  have HB3 := Lib.hid (HBB.out.trans (g3.below.mono HBB.out.size))
  clear g3 HQ
  go_wp2_with fail
  go_ret
  exact ⟨rfl, HB3.out⟩
set_option maxHeartbeats 800000 in
theorem refServers10_any {u : Value} (h : DsS w u ds) (hV : VOk 100 (vws ds)) (room : ByteArray) :
    Calls Tryz.prog 72 #[.agg #[u], .string room] w fun e w' => ∃ v', e = .returned v' ∧ LT.Mine w' w.heap.size v' (serversL (ofL (vws ds) room)) ∧ Below w.heap.size w w' := by
  obtain ⟨A, cap, rfl, h1, h2, -⟩ := h.1
  have HD := Lib.hid h
  have HX := Lib.hid (heap_alloc_new w (.cells #[.slice A ds.length cap] 28))
  have HB := Lib.hid (below_new w (.cells #[.slice A ds.length cap] 28))
  have HLD := Lib.hid (vws_len hV)
  have HV := Lib.hid hV
  unfold maxLen at h2
  clear h hV
  go_enter Tryz.func72, Tryz.ntmps72
  go_upto_region 1 with (fail)
  generalize w.alloc _ = w1 at HX HB ⊢
  generalize hB2 : w.heap.size = B2 at HX ⊢
  have HB2 := Lib.hid hB2
  clear hB2
  have c2 : w1.cell? ⟨B2, 0, none⟩ = some (.slice A ds.length cap) := cell_at HX.out 0
  have HQ := Lib.hid (refOf_any (.slice A ds.length cap) ds room w1 (HD.out.below HB.out) (Nat.le_trans HLD.out.1 (by decide)))
  go_wp2_with fail
  go_at_call 10
  refine HQ.out.mono ?_
  rintro e w2 ⟨d, rfl, hes, rfl, hdm, hdo, hb2⟩
  have HES := Lib.hid hes
  have HDO := Lib.hid hdo
  have HBB := Lib.hid (HB.out.trans (hb2.mono HB.out.size))
  have HVL : Hid (Valid d.room (evs d.xs) ∧ d.xs.length ≤ 1000) := Lib.hid (by
    have := HV.out.of_ d.room
    rw [← hdo, evs_len] at this
    exact ⟨this.1, Nat.le_trans this.2 (by decide)⟩)
  clear hes hdm hdo hb2 HQ c2
  have HQ := Lib.hid (refServers_any d.room d.lv d.xs w2 HES.out HVL.out.1 HVL.out.2)
  rw [HDO.out] at HQ
  unfold DV.val
  go_wp2_with fail
  go_at_call 30
  refine HQ.out.mono ?_
  rintro e w3 ⟨v', rfl, hm, b3⟩
  have HB3 := Lib.hid (HBB.out.trans (b3.mono HBB.out.size))
  have HM := Lib.hid (hm.mono HBB.out.size)
  clear b3 hm HQ
  go_wp2_with fail
  go_ret
  exact ⟨_, rfl, HM.out, HB3.out⟩
theorem roomsV_snoc (V : Vw) (p : ByteArray × List Ev) (u : ByteArray) : roomsV (V ++ [p]) u = roomsV V u ++ (if joinL p.2 u = true then [p.1] else []) := by
  unfold roomsV
  rw [List.filter_append, List.map_append]
  by_cases h : joinL p.2 u = true
  · rw [if_pos h, List.filter_cons, if_pos h]
    rfl
  · rw [if_neg h, List.filter_cons, if_neg h]
    rfl
theorem roomsV_next {ds : List DV} {a : Nat} {x : DV} (hx : ds[a]? = some x) (u : ByteArray) : roomsV (vws (ds.take (a + 1))) u = roomsV (vws (ds.take a)) u ++ (if joinL (evs x.xs) u = true then [x.room] else []) := by
  rw [List.take_add_one, hx]
  show roomsV (List.map DV.rl (ds.take a ++ [x])) u = _
  rw [List.map_append]
  exact roomsV_snoc _ _ _
set_option maxHeartbeats 1600000 in
theorem refRoomsOf10_any {u : Value} (h : DsS w u ds) (hV : VOk 100 (vws ds)) (user : ByteArray) :
    Calls Tryz.prog 39 #[.agg #[u], .string user] w fun e w' => ∃ v', e = .returned v' ∧ LT.Mine w' w.heap.size v' (roomsV (vws ds) user) ∧ Below w.heap.size w w' := by
  obtain ⟨A, cap, rfl, h1, h2, -⟩ := h.1
  have HD := Lib.hid h
  have HX := Lib.hid (heap_alloc_new w (.cells #[.slice A ds.length cap] 28))
  have HB := Lib.hid (below_new w (.cells #[.slice A ds.length cap] 28))
  have HLD := Lib.hid (vws_len hV)
  have HV := Lib.hid hV
  unfold maxLen at h2
  clear h hV
  go_enter Tryz.func39, Tryz.ntmps39
  go_upto_region 1 with (fail)
  generalize w.alloc _ = w1 at HX HB ⊢
  generalize hB2 : w.heap.size = B2 at HX ⊢
  have HB2 := Lib.hid hB2
  clear hB2
  have c2 : w1.cell? ⟨B2, 0, none⟩ = some (.slice A ds.length cap) := cell_at HX.out 0
  go_wp2_with fail
  clear c2
  go_loopw [5, 6] (fun r i wr => ∃ (a : Nat) (us : List ByteArray) (Ao : Option Addr) (co : Nat), r = .slice Ao us.length co ∧ i = .int .i64 (a : Int) ∧ a ≤ ds.length ∧ us.length ≤ a ∧ Hid (Below w1.heap.size w1 wr) ∧ Hid (OuS LT w1 wr r us) ∧ Hid (us = roomsV (vws (ds.take a)) user)) (fun _ i _ => ds.length - (intOf i).toNat)
  case atStart => exact ⟨0, [], none, 0, rfl, rfl, Nat.zero_le _, Nat.le_refl _, Lib.hid (Below.refl _ _), Lib.hid ⟨Below.refl _ _, .nil _ _⟩, Lib.hid rfl⟩
  case round =>
    obtain ⟨a, us, Ao, co, rfl, rfl, ha, hua, HW, HO, HU⟩ := hrel
    have HX2 := Lib.hid ((HW.out.block B2 (smem_lt HX.out)).trans HX.out)
    have c2 : wr.cell? ⟨B2, 0, none⟩ = some (.slice A ds.length cap) := cell_at HX2.out 0
    have hla := HLD.out.1
    by_cases hax : a < ds.length
    · have q1 : decide ((a : Int) < (ds.length : Int)) = true := decide_eq_true (by omega)
      have hx : ds[a]? = some ds[a] := List.getElem?_eq_getElem hax
      generalize ds[a] = x at hx
      have HXM : Hid (x ∈ ds) := Lib.hid (List.mem_of_getElem? hx)
      have HDW := Lib.hid ((HD.out.below HB.out).below HW.out)
      obtain ⟨b, o, hA, hb, e0, e1⟩ := dv_at HDW.out.1 hx
      have hix := index_any (P := Tryz.prog) knD (by decide) (b := b) (off := o) (cap := cap) hax
      simp only [LD] at hix
      rw [← hA] at hix
      have HNX := Lib.hid (roomsV_next hx user)
      have HQ := Lib.hid (refJoined_any x.room user x.lv x.xs wr (HDW.out.2 x HXM.out) (HV.out.each x.rl (List.mem_map.2 ⟨x, HXM.out, rfl⟩)).1 (Nat.le_trans (HLD.out.2 x HXM.out) (by decide)))
      have HCS : Hid (∀ W, Below wr.heap.size wr W → W.cell? ⟨b, o + a * 2, none⟩ = some (.string x.room) ∧ W.cell? ⟨B2, 0, none⟩ = some (.slice A ds.length cap)) := Lib.hid (fun W hw => ⟨(hw.cell (p := ⟨b, o + a * 2, none⟩) hb).trans e0, cell_at ((hw.block B2 (smem_lt HX2.out)).trans HX2.out) 0⟩)
      unfold DV.lv at e1 HQ
      rw [← HU.out] at HNX
      clear hx hA hb
      generalize joinL (evs x.xs) user = j at HQ HNX
      go_wp2_with fail
      go_at_call 66
      refine HQ.out.mono ?_
      rintro e w3 ⟨rfl, g3⟩
      have HW3 := Lib.hid (HW.out.trans (g3.below.mono HW.out.size))
      have HO3 := Lib.hid (HO.out.on g3.below)
      obtain ⟨e0', c2'⟩ := HCS.out w3 g3.below
      clear g3 HQ e0 e1 c2 HCS
      cases j with
      | false =>
        have HU3 : Hid (us = roomsV (vws (ds.take (a + 1))) user) := Lib.hid (by rw [HNX.out]; simp)
        go_wp2_with fail
        refine ⟨⟨a + 1, us, Ao, co, rfl, by go_num, by omega, by omega, HW3, HO3, HU3⟩, ?_⟩
        simp [intOf]; omega
      | true =>
        have HU3 : Hid (us ++ [x.room] = roomsV (vws (ds.take (a + 1))) user) := Lib.hid (by rw [HNX.out]; simp)
        have hlit1 := Lib.hid (lit_text w3 x.room)
        have hb1 := below_new w3 (.cells #[.string x.room] 9)
        have HA1 := Lib.hid (HO3.out.on hb1)
        have HW4 := Lib.hid (HW3.out.trans (hb1.mono HW3.out.size))
        have hs1 : w1.heap.size ≤ (w3.alloc (.cells #[.string x.room] 9)).heap.size := HA1.out.below.size
        clear hb1
        go_wp2_with (at_builtin; refine wpList_puts rfl knT (.tmp 23) (.tmp 30) 31 rfl (v := .slice Ao us.length co) rfl HA1.out.row hs1 (.slice (some ⟨w3.heap.size, 0, none⟩) 1 1) [x.room] 1 rfl rfl (hlit1.out.srcN knT rfl) (by omega) ?_; intro A1 c1 w5 m1 g1 o1; have H1 : Hid (OuS LT w1 w5 (.slice A1 (us.length + 1) c1) (us ++ [x.room])) := Lib.hid (HA1.out.put g1 m1); have HW5 : Hid (Below w1.heap.size w1 w5) := Lib.hid H1.out.below; clear m1 g1 o1)
        refine ⟨⟨a + 1, us ++ [x.room], A1, c1, by rw [List.length_append]; rfl, by go_num, by omega, by rw [List.length_append]; simp only [List.length_cons, List.length_nil]; omega, HW5, H1, HU3⟩, ?_⟩
        simp [intOf]; omega
    · have q1 : decide ((a : Int) < (ds.length : Int)) = false := decide_eq_false (by omega)
      have HE : Hid (us = roomsV (vws ds) user) := Lib.hid (by rw [HU.out, List.take_of_length_le (by omega)])
      go_wp2_with fail
      go_ret
      exact ⟨_, rfl, by rw [← HE.out]; exact HO.out.row.mono HB.out.size, HB.out.trans (HO.out.below.mono HB.out.size)⟩
end
end Go.Proofs.YtjiecjpepiknmaaGreat

namespace Go.Proofs.YtjiecjpepiknmaaGreat
set_option maxRecDepth 20000
open Go.RowKit
set_option linter.unusedVariables false
set_option linter.unusedSimpArgs false
section
variable {w : World} {ds : List DV}
set_option maxHeartbeats 1600000 in
theorem refFriends10_any {u : Value} (h : DsS w u ds) (hV : VOk 100 (vws ds)) (user other : ByteArray) :
    Calls Tryz.prog 42 #[.agg #[u], .string user, .string other] w fun e w' => e = .returned (.bool ((roomsV (vws ds) user).any (fun r => joinL (ofL (vws ds) r) other))) ∧ Below w.heap.size w w' := by
  obtain ⟨A, cap, rfl, h1, h2, -⟩ := h.1
  have HD := Lib.hid h
  have HX := Lib.hid (heap_alloc_new w (.cells #[.slice A ds.length cap] 28))
  have HB := Lib.hid (below_new w (.cells #[.slice A ds.length cap] 28))
  have HLD := Lib.hid (vws_len hV)
  have HV := Lib.hid hV
  unfold maxLen at h2
  clear h hV
  go_enter Tryz.func42, Tryz.ntmps42
  go_upto_region 1 with (fail)
  generalize w.alloc _ = w1 at HX HB ⊢
  generalize hB2 : w.heap.size = B2 at HX ⊢
  have HBE := Lib.hid hB2
  clear hB2
  have c2 : w1.cell? ⟨B2, 0, none⟩ = some (.slice A ds.length cap) := cell_at HX.out 0
  have HQ := Lib.hid (refRoomsOf10_any (HD.out.below HB.out) HV.out user)
  go_wp2_with fail
  go_at_call 39
  refine HQ.out.mono ?_
  rintro e w2 ⟨v', rfl, hm, b2⟩
  obtain ⟨Ar, cr, rfl, hr1, hr2, -⟩ := id hm.slice
  have HM := Lib.hid hm
  have HX2 := Lib.hid ((b2.block B2 (smem_lt HX.out)).trans HX.out)
  have HBX := Lib.hid (HB.out.trans (b2.mono HB.out.size))
  clear hm b2 HQ c2 HX
  unfold maxLen at hr2
  have HRR : Hid (roomsV (vws ds) user = roomsV (vws ds) user) := Lib.hid rfl
  generalize hrs : roomsV (vws ds) user = rs at HM hr1 hr2 ⊢
  have HRS := Lib.hid hrs
  clear hrs HRR
  go_wp2_with fail
  go_loopw [8] (fun i wr => ∃ a : Nat, i = .int .i64 (a : Int) ∧ a ≤ rs.length ∧ Hid (Below w2.heap.size w2 wr) ∧ Hid ((rs.take a).any (fun r => joinL (ofL (vws ds) r) other) = false)) (fun i _ => rs.length - (intOf i).toNat)
  case atStart => exact ⟨0, rfl, Nat.zero_le _, Lib.hid (Below.refl _ _), Lib.hid rfl⟩
  case round =>
    obtain ⟨a, rfl, ha, HW, HT⟩ := hrel
    have HB2 := HBX
    by_cases hax : a < rs.length
    · have q1 : decide ((a : Int) < (rs.length : Int)) = true := decide_eq_true (by omega)
      have hr : rs[a]? = some rs[a] := List.getElem?_eq_getElem hax
      generalize rs[a] = r at hr
      have HRA := Lib.hid hr
      have HRM : Hid (r ∈ roomsV (vws ds) user) := Lib.hid (by rw [HRS.out]; exact List.mem_of_getElem? hr)
      obtain ⟨b, o, hA, hb, e0⟩ := text_at HM.out.slice hr
      have hix := index_any (P := Tryz.prog) knT (by decide) (b := b) (off := o) (cap := cr) hax
      simp only [LT] at hix
      rw [Nat.mul_one, ← hA] at hix
      have HCS : Hid (∀ W, Below w2.heap.size w2 W → W.cell? ⟨B2, 0, none⟩ = some (.slice A ds.length cap) ∧ W.cell? ⟨b, o + a, none⟩ = some (.string r)) := Lib.hid (fun W hw => ⟨cell_at ((hw.block B2 (smem_lt HX2.out)).trans HX2.out) 0, (hw.cell (p := ⟨b, o + a, none⟩) hb).trans e0⟩)
      have HJ : Hid (∀ W, Below w2.heap.size w2 W → Calls Tryz.prog 33 #[.agg #[.slice A ds.length cap], .string r, .string other] W fun e w' => e = .returned (.bool (joinL (ofL (vws ds) r) other)) ∧ Below w2.heap.size w2 w') := Lib.hid (fun W hw => (refJoined10_any (HD.out.below (HBX.out.trans (hw.mono HBX.out.size))) HV.out r other).mono (fun e w' he => ⟨he.1, hw.trans (he.2.mono hw.size)⟩))
      generalize hj : joinL (ofL (vws ds) r) other = j at HJ
      have HJJ := Lib.hid hj
      clear hr hA hb e0 hj
      go_upto_region 5 with (fail)
      refine wp_region_held_drew (S := fun W => Below w2.heap.size w2 W) (by kernel_rfl) (HW.out.drew) (fun hHeld => ?_)
      clear HW
      generalize World.drew _ = wd at hHeld ⊢
      refine wpAnyH_take (i := 0) (oi := ⟨some 19, _, _, _, _, _⟩) (v := ?vfs0_0) rfl (by kernel_rfl) (by kernel_rfl) (by kernel_rfl) (fun _ _ _ h => h) (Or.inl ⟨by rfl, ?yfs0_0⟩) hHeld ?rfs0_0
      case yfs0_0 =>
        intro wx hSx
        have z3 := (HCS.out _ hSx).1
        go_simp
        try with_reducible rfl
      try simp only [Act.put, List.setIfInBounds_toArray, List.set_cons_zero, List.set_cons_succ]
      refine wpAnyH_take (i := 1) (oi := ⟨some 20, _, _, _, _, _⟩) (v := ?vfs0_1) rfl (by kernel_rfl) (by kernel_rfl) (by kernel_rfl) (fun _ _ _ h => h) (Or.inl ⟨by rfl, ?yfs0_1⟩) hHeld ?rfs0_1
      case yfs0_1 =>
        intro wx hSx
        go_simp
        try with_reducible rfl
      try simp only [Act.put, List.setIfInBounds_toArray, List.set_cons_zero, List.set_cons_succ]
      refine wpAnyH_take (i := 2) (oi := ⟨some 21, _, _, _, _, _⟩) (v := ?vfs0_2) rfl (by kernel_rfl) (by kernel_rfl) (by kernel_rfl) (fun _ _ _ h => h) (Or.inl ⟨by rfl, ?yfs0_2⟩) hHeld ?rfs0_2
      case yfs0_2 =>
        intro wx hSx
        go_simp
        try with_reducible rfl
      try simp only [Act.put, List.setIfInBounds_toArray, List.set_cons_zero, List.set_cons_succ]
      refine wpAnyH_take (i := 3) (oi := ⟨some 22, _, _, _, _, _⟩) (v := ?vfs0_3) rfl (by kernel_rfl) (by kernel_rfl) (by kernel_rfl) (fun _ _ _ h => h) (Or.inl ⟨by rfl, ?yfs0_3⟩) hHeld ?rfs0_3
      case yfs0_3 =>
        intro wx hSx
        go_simp
        try with_reducible rfl
      try simp only [Act.put, List.setIfInBounds_toArray, List.set_cons_zero, List.set_cons_succ]
      refine wpAnyH_take (i := 4) (oi := ⟨some 23, _, _, _, _, _⟩) (v := ?vfs0_4) rfl (by kernel_rfl) (by kernel_rfl) (by kernel_rfl) (fun _ _ _ h => h) (Or.inl ⟨by rfl, ?yfs0_4⟩) hHeld ?rfs0_4
      case yfs0_4 =>
        intro wx hSx
        have zr := (HCS.out _ hSx).2
        go_simp
        try with_reducible rfl
      try simp only [Act.put, List.setIfInBounds_toArray, List.set_cons_zero, List.set_cons_succ]
      refine wpAnyH_take (i := 5) (oi := ⟨some 24, _, _, _, _, _⟩) (v := ?vfs0_5) rfl (by kernel_rfl) (by kernel_rfl) (by kernel_rfl) (fun _ _ _ h => h) (Or.inl ⟨by rfl, ?yfs0_5⟩) hHeld ?rfs0_5
      case yfs0_5 =>
        intro wx hSx
        go_simp
        try with_reducible rfl
      try simp only [Act.put, List.setIfInBounds_toArray, List.set_cons_zero, List.set_cons_succ]
      refine wpAnyH_ready (rs := [6]) (by kernel_rfl) (by simp) ?_
      refine AllReadyH.cons (o := ⟨some 25, _, _, _, _, _⟩) rfl (fun K hK => ?wf6) AllReadyH.nil
      case wf6 =>
        have HQc := Lib.hid (HJ.out wd hHeld)
        go_simp
        refine HQc.out.mono ?_
        rintro e Wf6 ⟨rfl, hk⟩
        refine hK.out _ _ hk (fun hHeld => ?_)
        clear hK K hk HQc
        try simp only [Act.put, List.setIfInBounds_toArray, List.set_cons_zero, List.set_cons_succ]
        refine wpAnyH_take (i := 7) (oi := ⟨some 9, _, _, _, _, _⟩) (v := ?vf6xs1_7) rfl (by kernel_rfl) (by kernel_rfl) (by kernel_rfl) (fun _ _ _ h => h) (Or.inl ⟨by rfl, ?yf6xs1_7⟩) hHeld ?rf6xs1_7
        case yf6xs1_7 =>
          intro wx hSx
          go_simp
          try with_reducible rfl
        try simp only [Act.put, List.setIfInBounds_toArray, List.set_cons_zero, List.set_cons_succ]
        refine wpAnyH_done (by kernel_rfl) ?_ _
        have HKW := Lib.hid hHeld
        clear hHeld
        cases j with
        | true =>
          have HF : Hid ((roomsV (vws ds) user).any (fun r => joinL (ofL (vws ds) r) other) = true) := Lib.hid (List.any_eq_true.2 ⟨r, HRM.out, HJJ.out⟩)
          go_wp2_with fail
          go_ret
          exact ⟨by rw [HF.out]; rfl, HB2.out.trans (HKW.out.mono HB2.out.size)⟩
        | false =>
          have HT3 : Hid ((rs.take (a + 1)).any (fun r => joinL (ofL (vws ds) r) other) = false) := Lib.hid (by
            rw [List.take_add_one, HRA.out, List.any_append, HT.out]
            simp [HJJ.out])
          go_wp2_with fail
          refine ⟨⟨a + 1, by go_num, by omega, HKW, HT3⟩, ?_⟩
          simp [intOf]; omega
    · have q1 : decide ((a : Int) < (rs.length : Int)) = false := decide_eq_false (by omega)
      have HF : Hid ((roomsV (vws ds) user).any (fun r => joinL (ofL (vws ds) r) other) = false) := Lib.hid (by
        have := HT.out
        rw [List.take_of_length_le (by omega), ← HRS.out] at this
        exact this)
      go_wp2_with fail
      go_ret
      exact ⟨by rw [HF.out]; rfl, HB2.out.trans (HW.out.mono HB2.out.size)⟩
theorem putAll_is : ∀ (l out : List ByteArray), Up out → Up (l.foldl (fun o s => putL s o) out) ∧ ∀ z, z ∈ l.foldl (fun o s => putL s o) out ↔ z ∈ l ∨ z ∈ out
  | [], out, h => ⟨h, fun z => by simp⟩
  | s :: l, out, h => by
    obtain ⟨h1, h2⟩ := putAll_is l (putL s out) (putL_up s out h)
    refine ⟨h1, fun z => ?_⟩
    show z ∈ l.foldl (fun o s => putL s o) (putL s out) ↔ _
    rw [h2, putL_mem, List.mem_cons]
    constructor
    · rintro (h | h | h)
      · exact .inl (.inr h)
      · exact .inl (.inl h)
      · exact .inr h
    · rintro ((h | h) | h)
      · exact .inr (.inl h)
      · exact .inl h
      · exact .inr (.inr h)
def peersTo (V : Vw) (rs : List ByteArray) : List ByteArray := (rs.flatMap (fun r => serversL (ofL V r))).foldl (fun o s => putL s o) []
theorem peersTo_is (V : Vw) (rs : List ByteArray) : peersTo V rs = homesL (nearL V rs) := by
  obtain ⟨h1, h2⟩ := putAll_is (rs.flatMap (fun r => serversL (ofL V r))) [] List.Pairwise.nil
  refine up_unique h1 (homesL_up _) (fun z => ?_)
  unfold peersTo
  rw [h2, homesL_mem]
  unfold nearL
  simp only [List.mem_flatMap, List.not_mem_nil, or_false]
  constructor
  · rintro ⟨r, hr, hz⟩
    obtain ⟨u, hu, hz1, hz2⟩ := (homesL_mem _ z).1 hz
    exact ⟨u, ⟨r, hr, hu⟩, hz1, hz2⟩
  · rintro ⟨u, ⟨r, hr, hu⟩, hz1, hz2⟩
    exact ⟨r, hr, (homesL_mem _ z).2 ⟨u, hu, hz1, hz2⟩⟩
theorem peersTo_next (V : Vw) {rs : List ByteArray} {a : Nat} {r : ByteArray} (hr : rs[a]? = some r) : peersTo V (rs.take (a + 1)) = (serversL (ofL V r)).foldl (fun o s => putL s o) (peersTo V (rs.take a)) := by
  unfold peersTo
  rw [List.take_add_one, hr, List.flatMap_append, List.foldl_append]
  simp
theorem put_next {l : List ByteArray} {k : Nat} {s : ByteArray} (hs : l[k]? = some s) (out : List ByteArray) : (l.take (k + 1)).foldl (fun o s => putL s o) out = putL s ((l.take k).foldl (fun o s => putL s o) out) := by
  rw [List.take_add_one, hs, List.foldl_append]
  rfl
set_option maxHeartbeats 1600000 in
theorem refPeers10_any {u : Value} (h : DsS w u ds) (hV : VOk 100 (vws ds)) (hV2 : VOk 20 (vws ds)) (user : ByteArray) :
    Calls Tryz.prog 37 #[.agg #[u], .string user] w fun e w' => ∃ v', e = .returned v' ∧ LT.Slice w' v' (homesL (nearL (vws ds) (roomsV (vws ds) user))) ∧ (∀ k, 0 < (homesL (nearL (vws ds) (roomsV (vws ds) user))).length → v'.ownBlock = some k → w.heap.size ≤ k) ∧ Below w.heap.size w w' := by
  have HV2 := Lib.hid hV2
  clear hV2
  obtain ⟨A, cap, rfl, h1, h2, -⟩ := h.1
  have HD := Lib.hid h
  have HX := Lib.hid (heap_alloc_new w (.cells #[.slice A ds.length cap] 28))
  have HB := Lib.hid (below_new w (.cells #[.slice A ds.length cap] 28))
  have HLD := Lib.hid (vws_len hV)
  have HV := Lib.hid hV
  unfold maxLen at h2
  clear h hV
  go_enter Tryz.func37, Tryz.ntmps37
  go_upto_region 1 with (fail)
  generalize w.alloc _ = w1 at HX HB ⊢
  generalize hB2 : w.heap.size = B2 at HX ⊢
  have HBE := Lib.hid hB2
  clear hB2
  have c2 : w1.cell? ⟨B2, 0, none⟩ = some (.slice A ds.length cap) := cell_at HX.out 0
  have HQ := Lib.hid (refRoomsOf10_any (HD.out.below HB.out) HV.out user)
  go_wp2_with fail
  go_at_call 39
  refine HQ.out.mono ?_
  rintro e w2 ⟨v', rfl, hm, b2⟩
  obtain ⟨Ar, cr, rfl, hr1, hr2, -⟩ := id hm.slice
  have HM := Lib.hid hm
  have HX2 := Lib.hid ((b2.block B2 (smem_lt HX.out)).trans HX.out)
  have HBX := Lib.hid (HB.out.trans (b2.mono HB.out.size))
  clear hm b2 HQ c2 HX
  unfold maxLen at hr2
  have HRR : Hid (roomsV (vws ds) user = roomsV (vws ds) user) := Lib.hid rfl
  generalize hrs : roomsV (vws ds) user = rs at HM hr1 hr2 ⊢
  have HRS := Lib.hid hrs
  clear hrs HRR
  have hrl : rs.length ≤ 20 := by
    rw [← HRS.out]
    unfold roomsV
    rw [List.length_map]
    exact Nat.le_trans (List.length_filter_le _ _) HV2.out.len
  have HSV : Hid (∀ r, (serversL (ofL (vws ds) r)).length ≤ 20) := Lib.hid (fun r => Nat.le_trans (homesL_len _) (Nat.le_trans (usersL_len _) (HV2.out.of_ r).2))
  go_wp2_with fail
  go_loopw [6, 7] (fun o i wr => ∃ (a : Nat) (ps : List ByteArray) (Ao : Option Addr) (co : Nat), o = .slice Ao ps.length co ∧ i = .int .i64 (a : Int) ∧ a ≤ rs.length ∧ ps.length ≤ 20 * a ∧ Hid (Below w2.heap.size w2 wr) ∧ Hid (LT.Slice wr o ps) ∧ Hid (Ao = none ∧ ps = [] ∧ co = 0 ∨ ∃ B, w.heap.size ≤ B ∧ LT.Mine wr B o ps) ∧ Hid (ps = peersTo (vws ds) (rs.take a))) (fun _ i _ => rs.length - (intOf i).toNat)
  case atStart => exact ⟨0, [], none, 0, rfl, rfl, Nat.zero_le _, Nat.le_refl _, Lib.hid (Below.refl _ _), Lib.hid (Lies.Slice.nil _), Lib.hid (.inl ⟨rfl, rfl, rfl⟩), Lib.hid rfl⟩
  case round =>
    obtain ⟨a, ps, Ao, co, rfl, rfl, ha, hpa, HW, HO, HMI, HP⟩ := hrel
    by_cases hax : a < rs.length
    · have q1 : decide ((a : Int) < (rs.length : Int)) = true := decide_eq_true (by omega)
      have hr : rs[a]? = some rs[a] := List.getElem?_eq_getElem hax
      generalize rs[a] = r at hr
      have HPN := Lib.hid (peersTo_next (vws ds) hr)
      rw [← HP.out] at HPN
      have HSN := Lib.hid (HSV.out r)
      obtain ⟨b, o, hA, hb, e0⟩ := text_at HM.out.slice hr
      have hix := index_any (P := Tryz.prog) knT (by decide) (b := b) (off := o) (cap := cr) hax
      simp only [LT] at hix
      rw [Nat.mul_one, ← hA] at hix
      have HCS : Hid (∀ W, Below w2.heap.size w2 W → W.cell? ⟨B2, 0, none⟩ = some (.slice A ds.length cap) ∧ W.cell? ⟨b, o + a, none⟩ = some (.string r)) := Lib.hid (fun W hw => ⟨cell_at ((hw.block B2 (smem_lt HX2.out)).trans HX2.out) 0, (hw.cell (p := ⟨b, o + a, none⟩) hb).trans e0⟩)
      have hbd := below_drew wr
      have HO := Lib.hid (HO.out.below hbd)
      have HMN : Hid (∀ W, Below wr.drew.heap.size wr.drew W → (Ao = none ∧ ps = [] ∧ co = 0 ∨ ∃ B, w.heap.size ≤ B ∧ LT.Mine W B (.slice Ao ps.length co) ps)) := Lib.hid (fun W hw => by
        rcases HMI.out with hh | ⟨B, hB, hm⟩
        · exact .inl hh
        · exact .inr ⟨B, hB, (hm.below hbd).below hw⟩)
      have HJ : Hid (∀ W, Below w2.heap.size w2 W → Calls Tryz.prog 72 #[.agg #[.slice A ds.length cap], .string r] W fun e w' => ∃ v', e = .returned v' ∧ Below W.heap.size W w' ∧ LT.Mine w' W.heap.size v' (serversL (ofL (vws ds) r)) ∧ Below w2.heap.size w2 w') := Lib.hid (fun W hw => (refServers10_any (HD.out.below (HBX.out.trans (hw.mono HBX.out.size))) HV.out r).mono (fun e w' ⟨v', he, hm, hb⟩ => ⟨v', he, hb, hm, hw.trans (hb.mono hw.size)⟩))
      clear hr hA hb e0 hbd HMI
      go_upto_region 6 with (fail)
      refine wp_region_held_drew (S := fun W => Below w2.heap.size w2 W) (by kernel_rfl) (HW.out.drew) (fun hHeld => ?_)
      clear HW
      generalize World.drew _ = wd at hHeld HO HMN ⊢
      refine wpAnyH_take (i := 0) (oi := ⟨some 19, _, _, _, _, _⟩) (v := ?vps0_0) rfl (by kernel_rfl) (by kernel_rfl) (by kernel_rfl) (fun _ _ _ h => h) (Or.inl ⟨by rfl, ?yps0_0⟩) hHeld ?rps0_0
      case yps0_0 =>
        intro wx hSx
        have z3 := (HCS.out _ hSx).1
        go_simp
        try with_reducible rfl
      try simp only [Act.put, List.setIfInBounds_toArray, List.set_cons_zero, List.set_cons_succ]
      refine wpAnyH_take (i := 1) (oi := ⟨some 20, _, _, _, _, _⟩) (v := ?vps0_1) rfl (by kernel_rfl) (by kernel_rfl) (by kernel_rfl) (fun _ _ _ h => h) (Or.inl ⟨by rfl, ?yps0_1⟩) hHeld ?rps0_1
      case yps0_1 =>
        intro wx hSx
        go_simp
        try with_reducible rfl
      try simp only [Act.put, List.setIfInBounds_toArray, List.set_cons_zero, List.set_cons_succ]
      refine wpAnyH_take (i := 2) (oi := ⟨some 21, _, _, _, _, _⟩) (v := ?vps0_2) rfl (by kernel_rfl) (by kernel_rfl) (by kernel_rfl) (fun _ _ _ h => h) (Or.inl ⟨by rfl, ?yps0_2⟩) hHeld ?rps0_2
      case yps0_2 =>
        intro wx hSx
        go_simp
        try with_reducible rfl
      try simp only [Act.put, List.setIfInBounds_toArray, List.set_cons_zero, List.set_cons_succ]
      refine wpAnyH_take (i := 3) (oi := ⟨some 22, _, _, _, _, _⟩) (v := ?vps0_3) rfl (by kernel_rfl) (by kernel_rfl) (by kernel_rfl) (fun _ _ _ h => h) (Or.inl ⟨by rfl, ?yps0_3⟩) hHeld ?rps0_3
      case yps0_3 =>
        intro wx hSx
        go_simp
        try with_reducible rfl
      try simp only [Act.put, List.setIfInBounds_toArray, List.set_cons_zero, List.set_cons_succ]
      refine wpAnyH_take (i := 4) (oi := ⟨some 23, _, _, _, _, _⟩) (v := ?vps0_4) rfl (by kernel_rfl) (by kernel_rfl) (by kernel_rfl) (fun _ _ _ h => h) (Or.inl ⟨by rfl, ?yps0_4⟩) hHeld ?rps0_4
      case yps0_4 =>
        intro wx hSx
        have zr := (HCS.out _ hSx).2
        go_simp
        try with_reducible rfl
      try simp only [Act.put, List.setIfInBounds_toArray, List.set_cons_zero, List.set_cons_succ]
      refine wpAnyH_ready (rs := [5]) (by kernel_rfl) (by simp) ?_
      refine AllReadyH.cons (o := ⟨some 24, _, _, _, _, _⟩) rfl (fun K hK => ?wp5) AllReadyH.nil
      case wp5 =>
        have HQc := Lib.hid (HJ.out wd hHeld)
        go_simp
        refine HQc.out.mono ?_
        rintro e Wp5 ⟨v5, rfl, hn5, hm5, hk⟩
        refine hK.out _ _ hk (fun hHeld => ?_)
        clear hK K hk HQc
        try simp only [Act.put, List.setIfInBounds_toArray, List.set_cons_zero, List.set_cons_succ]
        refine wpAnyH_take (i := 6) (oi := ⟨some 8, _, _, _, _, _⟩) (v := ?vp5xs1_6) rfl (by kernel_rfl) (by kernel_rfl) (by kernel_rfl) (fun _ _ _ h => h) (Or.inl ⟨by rfl, ?yp5xs1_6⟩) hHeld ?rp5xs1_6
        case yp5xs1_6 =>
          intro wx hSx
          go_simp
          try with_reducible rfl
        try simp only [Act.put, List.setIfInBounds_toArray, List.set_cons_zero, List.set_cons_succ]
        refine wpAnyH_done (by kernel_rfl) ?_ _
        have HKW := Lib.hid hHeld
        have HN := Lib.hid hn5
        have HM5 := Lib.hid hm5
        clear hHeld hn5 hm5
        obtain ⟨As, cs, rfl, hs1, hs2, -⟩ := id HM5.out.slice
        unfold maxLen at hs2
        generalize serversL (ofL (vws ds) r) = ss at HM5 HSN HPN hs1 hs2 ⊢
        have hsn := HSN.out
        go_wp2_with fail
        go_loopw [6, 9] (fun o i wr => ∃ (k : Nat) (us : List ByteArray) (Ao : Option Addr) (co : Nat), o = .slice Ao us.length co ∧ i = .int .i64 (k : Int) ∧ k ≤ ss.length ∧ us.length ≤ 20 * a + k ∧ Hid (Below Wp5.heap.size Wp5 wr) ∧ Hid (LT.Slice wr o us) ∧ Hid (Ao = none ∧ us = [] ∧ co = 0 ∨ ∃ B, w.heap.size ≤ B ∧ LT.Mine wr B o us) ∧ Hid (us = (ss.take k).foldl (fun o s => putL s o) ps)) (fun _ i _ => ss.length - (intOf i).toNat)
        case atStart => exact ⟨0, ps, Ao, co, rfl, rfl, Nat.zero_le _, by omega, Lib.hid (Below.refl _ _), Lib.hid (HO.out.below HN.out), Lib.hid (HMN.out _ HN.out), Lib.hid rfl⟩
        case round =>
          clear HO HMN
          obtain ⟨k, us, Ao, co, rfl, rfl, hk, huk, HW6, HO6, HM6, HU6⟩ := hrel
          by_cases hkx : k < ss.length
          · have q2 : decide ((k : Int) < (ss.length : Int)) = true := decide_eq_true (by omega)
            have hs : ss[k]? = some ss[k] := List.getElem?_eq_getElem hkx
            generalize ss[k] = s at hs
            obtain ⟨b3, o3, hA3, hb3, f0⟩ := text_at (HM5.out.slice.below HW6.out) hs
            have hiy := index_any (P := Tryz.prog) knT (by decide) (b := b3) (off := o3) (cap := cs) hkx
            simp only [LT] at hiy
            rw [Nat.mul_one, ← hA3] at hiy
            have HPU := Lib.hid (put_next hs ps)
            rw [← HU6.out] at HPU
            have HQ := Lib.hid (refPut_any (.slice Ao us.length co) us s wr HO6.out (by omega))
            have hpl := putL_len s us
            clear hs hA3 hb3
            go_wp2_with fail
            go_at_call 67
            refine HQ.out.mono ?_
            rintro e w7 ⟨v7, rfl, hm7, b7⟩
            obtain ⟨A7, c7, rfl, -⟩ := id hm7.slice
            have HW7 := Lib.hid (HW6.out.trans (b7.mono HW6.out.size))
            have HO7 := Lib.hid hm7.slice
            have HM7 : Hid (A7 = none ∧ putL s us = [] ∧ c7 = 0 ∨ ∃ B, w.heap.size ≤ B ∧ LT.Mine w7 B (.slice A7 (putL s us).length c7) (putL s us)) := Lib.hid (.inr ⟨_, Nat.le_trans HBX.out.size (Nat.le_trans HKW.out.size HW6.out.size), hm7⟩)
            have HU7 : Hid (putL s us = (ss.take (k + 1)).foldl (fun o s => putL s o) ps) := Lib.hid HPU.out.symm
            clear hm7 b7 HQ HPU f0
            generalize putL s us = us7 at HO7 HM7 HU7 hpl ⊢
            go_wp2_with fail
            refine ⟨⟨k + 1, us7, A7, c7, rfl, by go_num, by omega, by omega, HW7, HO7, HM7, HU7⟩, ?_⟩
            simp [intOf]; omega
          · have q2 : decide ((k : Int) < (ss.length : Int)) = false := decide_eq_false (by omega)
            have HU7 : Hid (us = peersTo (vws ds) (rs.take (a + 1))) := Lib.hid (by rw [HPN.out, HU6.out, List.take_of_length_le (by omega)])
            have HW7 := Lib.hid (HKW.out.trans (HW6.out.mono HKW.out.size))
            go_wp2_with fail
            refine ⟨⟨a + 1, us, Ao, co, rfl, by go_num, by omega, by omega, HW7, HO6, HM6, HU7⟩, ?_⟩
            simp [intOf]; omega
    · have q1 : decide ((a : Int) < (rs.length : Int)) = false := decide_eq_false (by omega)
      have HF : Hid (ps = homesL (nearL (vws ds) (roomsV (vws ds) user))) := Lib.hid (by rw [HP.out, List.take_of_length_le (by omega), peersTo_is, HRS.out])
      go_wp2_with fail
      go_ret
      refine ⟨_, rfl, by rw [← HF.out]; exact HO.out, fun k h0 hk => ?_, HBX.out.trans (HW.out.mono HBX.out.size)⟩
      rw [← HF.out] at h0
      rcases HMI.out with ⟨rfl, rfl, rfl⟩ | ⟨B, hB, hm⟩
      · exact absurd h0 (Nat.lt_irrefl 0)
      · exact Nat.le_trans hB (hm.lt k hk).1
end
end Go.Proofs.YtjiecjpepiknmaaGreat
