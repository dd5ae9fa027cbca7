/-
  The document, asked.
-/
import Derived.Test.YtjiecjpepiknmaaGreatV3
import Derived.Test.YtjiecjpepiknmaaGreatM9A
import Derived.Test.YtjiecjpepiknmaaGreatA2
namespace Go.Proofs.YtjiecjpepiknmaaGreat
set_option maxRecDepth 20000
open Go.RowKit
set_option linter.unusedVariables false
set_option linter.unusedSimpArgs false
section
variable {w : World} {ds : List DV}
set_option maxHeartbeats 800000 in
theorem refJoined10_any {u : Value} (h : DsS w u ds) (hV : VOk 100 (vws ds)) (room user : ByteArray) :
    Calls Tryz.prog 33 #[.agg #[u], .string room, .string user] w fun e w' => e = .returned (.bool (joinL (ofL (vws ds) room) user)) ∧ Below w.heap.size w w' := by
  obtain ⟨A, cap, rfl, h1, h2, -⟩ := h.1
  have HD := Lib.hid h
  have HX := Lib.hid (heap_alloc_new w (.cells #[.slice A ds.length cap] 28))
  have HB := Lib.hid (below_new w (.cells #[.slice A ds.length cap] 28))
  have HLD := Lib.hid (vws_len hV)
  have HV := Lib.hid hV
  unfold maxLen at h2
  clear h hV
  go_enter Tryz.func33, Tryz.ntmps33
  go_upto_region 1 with (fail)
  generalize w.alloc _ = w1 at HX HB ⊢
  generalize hB2 : w.heap.size = B2 at HX ⊢
  have HB2 := Lib.hid hB2
  clear hB2
  have c2 : w1.cell? ⟨B2, 0, none⟩ = some (.slice A ds.length cap) := cell_at HX.out 0
  have HQ := Lib.hid (refOf_any (.slice A ds.length cap) ds room w1 (HD.out.below HB.out) (Nat.le_trans HLD.out.1 (by decide)))
  go_wp2_with fail
  go_at_call 10
  refine HQ.out.mono ?_
  rintro e w2 ⟨d, rfl, hes, rfl, hdm, hdo, hb2⟩
  have HES := Lib.hid hes
  have HDO := Lib.hid hdo
  have HBB := Lib.hid (HB.out.trans (hb2.mono HB.out.size))
  have HVL : Hid (Valid d.room (evs d.xs) ∧ d.xs.length ≤ 1000) := Lib.hid (by
    have := HV.out.of_ d.room
    rw [← hdo, evs_len] at this
    exact ⟨this.1, Nat.le_trans this.2 (by decide)⟩)
  clear hes hdm hdo hb2 HQ c2
  have HQ := Lib.hid (refJoined_any d.room user d.lv d.xs w2 HES.out HVL.out.1 HVL.out.2)
  rw [HDO.out] at HQ
  unfold DV.val
  go_wp2_with fail
  go_at_call 66
  refine HQ.out.mono ?_
  rintro e w3 ⟨rfl, g3⟩
  have HB3 := Lib.hid (HBB.out.trans (g3.below.mono HBB.out.size))
  clear g3 HQ
  go_wp2_with fail
  go_ret
  exact ⟨rfl, HB3.out⟩
set_option maxHeartbeats 800000 in
theorem refServers10_any {u : Value} (h : DsS w u ds) (hV : VOk 100 (vws ds)) (room : ByteArray) :
    Calls Tryz.prog 72 #[.agg #[u], .string room] w fun e w' => ∃ v', e = .returned v' ∧ LT.Mine w' w.heap.size v' (serversL (ofL (vws ds) room)) ∧ Below w.heap.size w w' := by
  obtain ⟨A, cap, rfl, h1, h2, -⟩ := h.1
  have HD := Lib.hid h
  have HX := Lib.hid (heap_alloc_new w (.cells #[.slice A ds.length cap] 28))
  have HB := Lib.hid (below_new w (.cells #[.slice A ds.length cap] 28))
  have HLD := Lib.hid (vws_len hV)
  have HV := Lib.hid hV
  unfold maxLen at h2
  clear h hV
  go_enter Tryz.func72, Tryz.ntmps72
  go_upto_region 1 with (fail)
  generalize w.alloc _ = w1 at HX HB ⊢
  generalize hB2 : w.heap.size = B2 at HX ⊢
  have HB2 := Lib.hid hB2
  clear hB2
  have c2 : w1.cell? ⟨B2, 0, none⟩ = some (.slice A ds.length cap) := cell_at HX.out 0
  have HQ := Lib.hid (refOf_any (.slice A ds.length cap) ds room w1 (HD.out.below HB.out) (Nat.le_trans HLD.out.1 (by decide)))
  go_wp2_with fail
  go_at_call 10
  refine HQ.out.mono ?_
  rintro e w2 ⟨d, rfl, hes, rfl, hdm, hdo, hb2⟩
  have HES := Lib.hid hes
  have HDO := Lib.hid hdo
  have HBB := Lib.hid (HB.out.trans (hb2.mono HB.out.size))
  have HVL : Hid (Valid d.room (evs d.xs) ∧ d.xs.length ≤ 1000) := Lib.hid (by
    have := HV.out.of_ d.room
    rw [← hdo, evs_len] at this
    exact ⟨this.1, Nat.le_trans this.2 (by decide)⟩)
  clear hes hdm hdo hb2 HQ c2
  have HQ := Lib.hid (refServers_any d.room d.lv d.xs w2 HES.out HVL.out.1 HVL.out.2)
  rw [HDO.out] at HQ
  unfold DV.val
  go_wp2_with fail
  go_at_call 30
  refine HQ.out.mono ?_
  rintro e w3 ⟨v', rfl, hm, b3⟩
  have HB3 := Lib.hid (HBB.out.trans (b3.mono HBB.out.size))
  have HM := Lib.hid (hm.mono HBB.out.size)
  clear b3 hm HQ
  go_wp2_with fail
  go_ret
  exact ⟨_, rfl, HM.out, HB3.out⟩
theorem roomsV_snoc (V : Vw) (p : ByteArray × List Ev) (u : ByteArray) : roomsV (V ++ [p]) u = roomsV V u ++ (if joinL p.2 u = true then [p.1] else []) := by
  unfold roomsV
  rw [List.filter_append, List.map_append]
  by_cases h : joinL p.2 u = true
  · rw [if_pos h, List.filter_cons, if_pos h]
    rfl
  · rw [if_neg h, List.filter_cons, if_neg h]
    rfl
theorem roomsV_next {ds : List DV} {a : Nat} {x : DV} (hx : ds[a]? = some x) (u : ByteArray) : roomsV (vws (ds.take (a + 1))) u = roomsV (vws (ds.take a)) u ++ (if joinL (evs x.xs) u = true then [x.room] else []) := by
  rw [List.take_add_one, hx]
  show roomsV (List.map DV.rl (ds.take a ++ [x])) u = _
  rw [List.map_append]
  exact roomsV_snoc _ _ _
set_option maxHeartbeats 1600000 in
theorem refRoomsOf10_any {u : Value} (h : DsS w u ds) (hV : VOk 100 (vws ds)) (user : ByteArray) :
    Calls Tryz.prog 39 #[.agg #[u], .string user] w fun e w' => ∃ v', e = .returned v' ∧ LT.Mine w' w.heap.size v' (roomsV (vws ds) user) ∧ Below w.heap.size w w' := by
  obtain ⟨A, cap, rfl, h1, h2, -⟩ := h.1
  have HD := Lib.hid h
  have HX := Lib.hid (heap_alloc_new w (.cells #[.slice A ds.length cap] 28))
  have HB := Lib.hid (below_new w (.cells #[.slice A ds.length cap] 28))
  have HLD := Lib.hid (vws_len hV)
  have HV := Lib.hid hV
  unfold maxLen at h2
  clear h hV
  go_enter Tryz.func39, Tryz.ntmps39
  go_upto_region 1 with (fail)
  generalize w.alloc _ = w1 at HX HB ⊢
  generalize hB2 : w.heap.size = B2 at HX ⊢
  have HB2 := Lib.hid hB2
  clear hB2
  have c2 : w1.cell? ⟨B2, 0, none⟩ = some (.slice A ds.length cap) := cell_at HX.out 0
  go_wp2_with fail
  clear c2
  go_loopw [5, 6] (fun r i wr => ∃ (a : Nat) (us : List ByteArray) (Ao : Option Addr) (co : Nat), r = .slice Ao us.length co ∧ i = .int .i64 (a : Int) ∧ a ≤ ds.length ∧ us.length ≤ a ∧ Hid (Below w1.heap.size w1 wr) ∧ Hid (OuS LT w1 wr r us) ∧ Hid (us = roomsV (vws (ds.take a)) user)) (fun _ i _ => ds.length - (intOf i).toNat)
  case atStart => exact ⟨0, [], none, 0, rfl, rfl, Nat.zero_le _, Nat.le_refl _, Lib.hid (Below.refl _ _), Lib.hid ⟨Below.refl _ _, .nil _ _⟩, Lib.hid rfl⟩
  case round =>
    obtain ⟨a, us, Ao, co, rfl, rfl, ha, hua, HW, HO, HU⟩ := hrel
    have HX2 := Lib.hid ((HW.out.block B2 (smem_lt HX.out)).trans HX.out)
    have c2 : wr.cell? ⟨B2, 0, none⟩ = some (.slice A ds.length cap) := cell_at HX2.out 0
    have hla := HLD.out.1
    by_cases hax : a < ds.length
    · have q1 : decide ((a : Int) < (ds.length : Int)) = true := decide_eq_true (by omega)
      have hx : ds[a]? = some ds[a] := List.getElem?_eq_getElem hax
      generalize ds[a] = x at hx
      have HXM : Hid (x ∈ ds) := Lib.hid (List.mem_of_getElem? hx)
      have HDW := Lib.hid ((HD.out.below HB.out).below HW.out)
      obtain ⟨b, o, hA, hb, e0, e1⟩ := dv_at HDW.out.1 hx
      have hix := index_any (P := Tryz.prog) knD (by decide) (b := b) (off := o) (cap := cap) hax
      simp only [LD] at hix
      rw [← hA] at hix
      have HNX := Lib.hid (roomsV_next hx user)
      have HQ := Lib.hid (refJoined_any x.room user x.lv x.xs wr (HDW.out.2 x HXM.out) (HV.out.each x.rl (List.mem_map.2 ⟨x, HXM.out, rfl⟩)).1 (Nat.le_trans (HLD.out.2 x HXM.out) (by decide)))
      have HCS : Hid (∀ W, Below wr.heap.size wr W → W.cell? ⟨b, o + a * 2, none⟩ = some (.string x.room) ∧ W.cell? ⟨B2, 0, none⟩ = some (.slice A ds.length cap)) := Lib.hid (fun W hw => ⟨(hw.cell (p := ⟨b, o + a * 2, none⟩) hb).trans e0, cell_at ((hw.block B2 (smem_lt HX2.out)).trans HX2.out) 0⟩)
      unfold DV.lv at e1 HQ
      rw [← HU.out] at HNX
      clear hx hA hb
      generalize joinL (evs x.xs) user = j at HQ HNX
      go_wp2_with fail
      go_at_call 66
      refine HQ.out.mono ?_
      rintro e w3 ⟨rfl, g3⟩
      have HW3 := Lib.hid (HW.out.trans (g3.below.mono HW.out.size))
      have HO3 := Lib.hid (HO.out.on g3.below)
      obtain ⟨e0', c2'⟩ := HCS.out w3 g3.below
      clear g3 HQ e0 e1 c2 HCS
      cases j with
      | false =>
        have HU3 : Hid (us = roomsV (vws (ds.take (a + 1))) user) := Lib.hid (by rw [HNX.out]; simp)
        go_wp2_with fail
        refine ⟨⟨a + 1, us, Ao, co, rfl, by go_num, by omega, by omega, HW3, HO3, HU3⟩, ?_⟩
        simp [intOf]; omega
      | true =>
        have HU3 : Hid (us ++ [x.room] = roomsV (vws (ds.take (a + 1))) user) := Lib.hid (by rw [HNX.out]; simp)
        have hlit1 := Lib.hid (lit_text w3 x.room)
        have hb1 := below_new w3 (.cells #[.string x.room] 9)
        have HA1 := Lib.hid (HO3.out.on hb1)
        have HW4 := Lib.hid (HW3.out.trans (hb1.mono HW3.out.size))
        have hs1 : w1.heap.size ≤ (w3.alloc (.cells #[.string x.room] 9)).heap.size := HA1.out.below.size
        clear hb1
        go_wp2_with (at_builtin; refine wpList_puts rfl knT (.tmp 23) (.tmp 30) 31 rfl (v := .slice Ao us.length co) rfl HA1.out.row hs1 (.slice (some ⟨w3.heap.size, 0, none⟩) 1 1) [x.room] 1 rfl rfl (hlit1.out.srcN knT rfl) (by omega) ?_; intro A1 c1 w5 m1 g1 o1; have H1 : Hid (OuS LT w1 w5 (.slice A1 (us.length + 1) c1) (us ++ [x.room])) := Lib.hid (HA1.out.put g1 m1); have HW5 : Hid (Below w1.heap.size w1 w5) := Lib.hid H1.out.below; clear m1 g1 o1)
        refine ⟨⟨a + 1, us ++ [x.room], A1, c1, by rw [List.length_append]; rfl, by go_num, by omega, by rw [List.length_append]; simp only [List.length_cons, List.length_nil]; omega, HW5, H1, HU3⟩, ?_⟩
        simp [intOf]; omega
    · have q1 : decide ((a : Int) < (ds.length : Int)) = false := decide_eq_false (by omega)
      have HE : Hid (us = roomsV (vws ds) user) := Lib.hid (by rw [HU.out, List.take_of_length_le (by omega)])
      go_wp2_with fail
      go_ret
      exact ⟨_, rfl, by rw [← HE.out]; exact HO.out.row.mono HB.out.size, HB.out.trans (HO.out.below.mono HB.out.size)⟩
end
end Go.Proofs.YtjiecjpepiknmaaGreat

namespace Go.Proofs.YtjiecjpepiknmaaGreat
set_option maxRecDepth 20000
open Go.RowKit
set_option linter.unusedVariables false
set_option linter.unusedSimpArgs false
section
variable {w : World} {ds : List DV}
theorem two_b (w : World) (c1 c2 : Array Value) (t t' : TypeId) : ((w.alloc (.cells c1 t)).alloc (.cells c2 t')).heap[w.heap.size]? = some (.cells c1 t (0, 0)) ∧ ((w.alloc (.cells c1 t)).alloc (.cells c2 t')).heap[w.heap.size + 1]? = some (.cells c2 t' (0, 0)) := by
  have s1 : ∀ (u : World) (o : Obj), (u.alloc o).heap.size = u.heap.size + 1 := fun u o => by simp
  have h2 := heap_alloc_new w (.cells c1 t)
  have h3 := heap_alloc_new (w.alloc (.cells c1 t)) (.cells c2 t')
  rw [s1] at h3
  refine ⟨?_, h3⟩
  rw [heap_alloc_old _ _ (by rw [s1]; omega)]
  exact h2
set_option maxHeartbeats 1600000 in
theorem refPosition10_any {u : Value} (h : DsS w u ds) (hV : VOk 100 (vws ds)) (room id : ByteArray) :
    Calls Tryz.prog 26 #[.agg #[u], .string room, .string id] w fun e w' => ∃ p : Po, e = .returned (.tuple #[p.val, .bool (hasE (ofL (vws ds) room) id)]) ∧ p = (bif hasE (ofL (vws ds) room) id then posL (ofL (vws ds) room) id else ⟨0, ⟨#[]⟩⟩) ∧ Below w.heap.size w w' := by
  obtain ⟨A, cap, rfl, h1, h2, -⟩ := h.1
  have HD := Lib.hid h
  have HX := Lib.hid (two_b w #[.slice A ds.length cap] #[.int .i64 0, .string ⟨#[]⟩] 28 55)
  have HB : Hid (Below w.heap.size w ((w.alloc (.cells #[.slice A ds.length cap] 28)).alloc (.cells #[.int .i64 0, .string ⟨#[]⟩] 55)) ∧ w.heap.size ≤ w.heap.size + 1) := Lib.hid ⟨(((Gr.refl w).alloc _).alloc _).below, Nat.le_succ _⟩
  have HLD := Lib.hid (vws_len hV)
  have HV := Lib.hid hV
  unfold maxLen at h2
  clear h hV
  go_enter Tryz.func26, Tryz.ntmps26
  go_upto_region 1 with (fail)
  generalize World.alloc _ _ = w1 at HX HB ⊢
  generalize w.heap.size + 1 = B6 at HX HB ⊢
  generalize hB3 : w.heap.size = B3 at HX ⊢
  have HB3 := Lib.hid hB3
  clear hB3
  have c2 : w1.cell? ⟨B3, 0, none⟩ = some (.slice A ds.length cap) := cell_at HX.out.1 0
  have HQ := Lib.hid (refOf_any (.slice A ds.length cap) ds room w1 (HD.out.below HB.out.1) (Nat.le_trans HLD.out.1 (by decide)))
  go_wp2_with fail
  go_at_call 10
  refine HQ.out.mono ?_
  rintro e w2 ⟨d, rfl, hes, rfl, hdm, hdo, hb2⟩
  have HES := Lib.hid (hes.below (below_new w2 (.cells #[.string d.room, .slice d.A d.xs.length d.cap] 36)))
  have HDO := Lib.hid hdo
  have HVL : Hid (Valid d.room (evs d.xs) ∧ d.xs.length ≤ 1000) := Lib.hid (by
    have := HV.out.of_ d.room
    rw [← hdo, evs_len] at this
    exact ⟨this.1, Nat.le_trans this.2 (by decide)⟩)
  have HBD := Lib.hid (hb2.trans ((below_new w2 (.cells #[.string d.room, .slice d.A d.xs.length d.cap] 36)).mono hb2.size))
  have HDX := Lib.hid (heap_alloc_new w2 (.cells #[.string d.room, .slice d.A d.xs.length d.cap] 36))
  unfold DV.val DV.lv
  clear hes hdm hdo hb2 HQ c2
  go_upto_region 2 with (fail)
  generalize World.alloc _ _ = w3 at HES HBD HDX ⊢
  generalize w2.heap.size = B8 at HDX ⊢
  have HAT := Lib.hid (refAt_any d.room id d.lv d.xs w3 HES.out)
  unfold DV.lv at HAT
  have d0 : w3.cell? ⟨B8, 0, none⟩ = some (.string d.room) := cell_at HDX.out 0
  have d1 : w3.cell? ⟨B8, 1, none⟩ = some (.slice d.A d.xs.length d.cap) := cell_at HDX.out 1
  go_wp2_with fail
  go_at_call 64
  refine HAT.out.mono ?_
  rintro e w4 ⟨rfl, q, os, hw4⟩
  have HG4 := Lib.hid (show Gr w3 w4 from ⟨q, os, hw4⟩)
  have HB4 := Lib.hid (HBD.out.trans (HG4.out.below.mono HBD.out.size))
  clear hw4 HAT d0 d1
  cases hix : idx (evs d.xs) id with
  | none =>
    have HH : Hid (hasE (ofL (vws ds) d.room) id = false) := Lib.hid (by
      rw [← HDO.out]
      unfold hasE
      rw [hix]
      rfl)
    have hI : idxI (evs d.xs) id = -1 := by unfold idxI; rw [hix]
    rw [hI]
    clear hI hix
    obtain ⟨p0, hp0⟩ : ∃ p0 : Po, p0 = ⟨0, ⟨#[]⟩⟩ := ⟨_, rfl⟩
    have HB6 := Lib.hid ((HB4.out.block B6 (smem_lt HX.out.2)).trans HX.out.2)
    have r0 : w4.cell? ⟨B6, 0, none⟩ = some (.int .i64 0) := cell_at HB6.out 0
    have r1 : w4.cell? ⟨B6, 1, none⟩ = some (.string ⟨#[]⟩) := cell_at HB6.out 1
    have z0 : w4.frozen? ⟨B6, 0, none⟩ = false := free_at HB6.out 0
    have z1 : w4.frozen? ⟨B6, 1, none⟩ = false := free_at HB6.out 1
    have HAN := Lib.hid (po_at HB6.out (.int .i64 (⟨0, ⟨#[]⟩⟩ : Po).depth) (.string (⟨0, ⟨#[]⟩⟩ : Po).id) rfl _ rfl)
    simp only [World.setCells] at HAN
    go_wp2_with fail
    clear r0 r1 z0 z1
    generalize World.setCell _ _ _ = w9 at HAN ⊢
    have HB9 := Lib.hid ((HB.out.1.trans (HB4.out.mono HB.out.1.size)).grown HAN.out.2 (Nat.le_trans HB.out.1.size HB4.out.size) (fun k hk => by injection hk with hk; have := HB.out.2; omega))
    have s0 : w9.cell? ⟨B6, 0, none⟩ = some (.int .i64 (⟨0, ⟨#[]⟩⟩ : Po).depth) := cell_at HAN.out.1 0
    have s1 : w9.cell? ⟨B6, 1, none⟩ = some (.string (⟨0, ⟨#[]⟩⟩ : Po).id) := cell_at HAN.out.1 1
    refine bodyPost_ret (v := .tuple #[.agg #[.int .i64 (⟨0, ⟨#[]⟩⟩ : Po).depth, .string (⟨0, ⟨#[]⟩⟩ : Po).id], .bool false]) ?_ rfl ?_
    · simp [results, Tryz.results26, go_sem, s0, s1]
    · exact ⟨(⟨0, ⟨#[]⟩⟩ : Po), by rw [HH.out]; rfl, by rw [HH.out]; rfl, HB9.out⟩
  | some k =>
    have HH : Hid (hasE (ofL (vws ds) d.room) id = true) := Lib.hid (by
      rw [← HDO.out]
      unfold hasE
      rw [hix]
      rfl)
    have hI : idxI (evs d.xs) id = (k : Int) := by unfold idxI; rw [hix]
    rw [hI]
    have q0 : decide ((k : Int) < 0) = false := decide_eq_false (by omega)
    have HDX4 := Lib.hid ((HG4.out.below.block B8 (smem_lt HDX.out)).trans HDX.out)
    have d0 : w4.cell? ⟨B8, 0, none⟩ = some (.string d.room) := cell_at HDX4.out 0
    have d1 : w4.cell? ⟨B8, 1, none⟩ = some (.slice d.A d.xs.length d.cap) := cell_at HDX4.out 1
    have HPS := Lib.hid (refPosition_any d.room id d.lv d.xs w4 (HES.out.below HG4.out.below) HVL.out.1 HVL.out.2)
    rw [HDO.out] at HPS
    unfold DV.lv at HPS
    clear hI hix
    go_wp2_with fail
    go_at_call 58
    refine HPS.out.mono ?_
    rintro e w5 ⟨rfl, g5⟩
    have HB5 := Lib.hid (HB4.out.trans (g5.below.mono HB4.out.size))
    clear g5 HPS d0 d1
    generalize hpp : posL (ofL (vws ds) d.room) id = pp
    have HPP := Lib.hid hpp
    clear hpp
    have HB6 := Lib.hid ((HB5.out.block B6 (smem_lt HX.out.2)).trans HX.out.2)
    have r0 : w5.cell? ⟨B6, 0, none⟩ = some (.int .i64 0) := cell_at HB6.out 0
    have r1 : w5.cell? ⟨B6, 1, none⟩ = some (.string ⟨#[]⟩) := cell_at HB6.out 1
    have z0 : w5.frozen? ⟨B6, 0, none⟩ = false := free_at HB6.out 0
    have z1 : w5.frozen? ⟨B6, 1, none⟩ = false := free_at HB6.out 1
    have HAN := Lib.hid (po_at HB6.out (.int .i64 pp.depth) (.string pp.id) rfl _ rfl)
    simp only [World.setCells] at HAN
    go_wp2_with fail
    clear r0 r1 z0 z1
    generalize World.setCell _ _ _ = w9 at HAN ⊢
    have HB9 := Lib.hid ((HB.out.1.trans (HB5.out.mono HB.out.1.size)).grown HAN.out.2 (Nat.le_trans HB.out.1.size HB5.out.size) (fun k hk => by injection hk with hk; have := HB.out.2; omega))
    have s0 : w9.cell? ⟨B6, 0, none⟩ = some (.int .i64 pp.depth) := cell_at HAN.out.1 0
    have s1 : w9.cell? ⟨B6, 1, none⟩ = some (.string pp.id) := cell_at HAN.out.1 1
    refine bodyPost_ret (v := .tuple #[.agg #[.int .i64 pp.depth, .string pp.id], .bool true]) ?_ rfl ?_
    · simp [results, Tryz.results26, go_sem, s0, s1]
    · exact ⟨pp, by rw [HH.out]; rfl, by rw [HH.out, ← HPP.out]; rfl, HB9.out⟩
end
end Go.Proofs.YtjiecjpepiknmaaGreat
