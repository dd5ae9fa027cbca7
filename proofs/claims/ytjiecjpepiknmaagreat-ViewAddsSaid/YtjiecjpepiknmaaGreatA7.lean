/-
  The document, its rooms.
-/
import Derived.Test.YtjiecjpepiknmaaGreatV3
import Derived.Test.YtjiecjpepiknmaaGreatM9A
namespace Go.Proofs.YtjiecjpepiknmaaGreat
set_option maxRecDepth 20000
open Go.RowKit
set_option linter.unusedVariables false
set_option linter.unusedSimpArgs false
section
variable {w : World} {ds : List DV}
set_option maxHeartbeats 800000 in
theorem refJoined10_any {u : Value} (h : DsS w u ds) (hV : VOk 100 (vws ds)) (room user : ByteArray) :
    Calls Tryz.prog 33 #[.agg #[u], .string room, .string user] w fun e w' => e = .returned (.bool (joinL (ofL (vws ds) room) user)) ∧ Below w.heap.size w w' := by
  obtain ⟨A, cap, rfl, h1, h2, -⟩ := h.1
  have HD := Lib.hid h
  have HX := Lib.hid (heap_alloc_new w (.cells #[.slice A ds.length cap] 28))
  have HB := Lib.hid (below_new w (.cells #[.slice A ds.length cap] 28))
  have HLD := Lib.hid (vws_len hV)
  have HV := Lib.hid hV
  unfold maxLen at h2
  clear h hV
  go_enter Tryz.func33, Tryz.ntmps33
  go_upto_region 1 with (fail)
  generalize w.alloc _ = w1 at HX HB ⊢
  generalize hB2 : w.heap.size = B2 at HX ⊢
  have HB2 := Lib.hid hB2
  clear hB2
  have c2 : w1.cell? ⟨B2, 0, none⟩ = some (.slice A ds.length cap) := cell_at HX.out 0
  have HQ := Lib.hid (refOf_any (.slice A ds.length cap) ds room w1 (HD.out.below HB.out) (Nat.le_trans HLD.out.1 (by decide)))
  go_wp2_with fail
  go_at_call 10
  refine HQ.out.mono ?_
  rintro e w2 ⟨d, rfl, hes, rfl, hdm, hdo, hb2⟩
  have HES := Lib.hid hes
  have HDO := Lib.hid hdo
  have HBB := Lib.hid (HB.out.trans (hb2.mono HB.out.size))
  have HVL : Hid (Valid d.room (evs d.xs) ∧ d.xs.length ≤ 1000) := Lib.hid (by
    have := HV.out.of_ d.room
    rw [← hdo, evs_len] at this
    exact ⟨this.1, Nat.le_trans this.2 (by decide)⟩)
  clear hes hdm hdo hb2 HQ c2
  have HQ := Lib.hid (refJoined_any d.room user d.lv d.xs w2 HES.out HVL.out.1 HVL.out.2)
  rw [HDO.out] at HQ
  unfold DV.val
  go_wp2_with fail
  go_at_call 66
  refine HQ.out.mono ?_
  rintro e w3 ⟨rfl, g3⟩
  have HB3 := Lib.hid (HBB.out.trans (g3.below.mono HBB.out.size))
  clear g3 HQ
  go_wp2_with fail
  go_ret
  exact ⟨rfl, HB3.out⟩
set_option maxHeartbeats 800000 in
theorem refServers10_any {u : Value} (h : DsS w u ds) (hV : VOk 100 (vws ds)) (room : ByteArray) :
    Calls Tryz.prog 72 #[.agg #[u], .string room] w fun e w' => ∃ v', e = .returned v' ∧ LT.Mine w' w.heap.size v' (serversL (ofL (vws ds) room)) ∧ Below w.heap.size w w' := by
  obtain ⟨A, cap, rfl, h1, h2, -⟩ := h.1
  have HD := Lib.hid h
  have HX := Lib.hid (heap_alloc_new w (.cells #[.slice A ds.length cap] 28))
  have HB := Lib.hid (below_new w (.cells #[.slice A ds.length cap] 28))
  have HLD := Lib.hid (vws_len hV)
  have HV := Lib.hid hV
  unfold maxLen at h2
  clear h hV
  go_enter Tryz.func72, Tryz.ntmps72
  go_upto_region 1 with (fail)
  generalize w.alloc _ = w1 at HX HB ⊢
  generalize hB2 : w.heap.size = B2 at HX ⊢
  have HB2 := Lib.hid hB2
  clear hB2
  have c2 : w1.cell? ⟨B2, 0, none⟩ = some (.slice A ds.length cap) := cell_at HX.out 0
  have HQ := Lib.hid (refOf_any (.slice A ds.length cap) ds room w1 (HD.out.below HB.out) (Nat.le_trans HLD.out.1 (by decide)))
  go_wp2_with fail
  go_at_call 10
  refine HQ.out.mono ?_
  rintro e w2 ⟨d, rfl, hes, rfl, hdm, hdo, hb2⟩
  have HES := Lib.hid hes
  have HDO := Lib.hid hdo
  have HBB := Lib.hid (HB.out.trans (hb2.mono HB.out.size))
  have HVL : Hid (Valid d.room (evs d.xs) ∧ d.xs.length ≤ 1000) := Lib.hid (by
    have := HV.out.of_ d.room
    rw [← hdo, evs_len] at this
    exact ⟨this.1, Nat.le_trans this.2 (by decide)⟩)
  clear hes hdm hdo hb2 HQ c2
  have HQ := Lib.hid (refServers_any d.room d.lv d.xs w2 HES.out HVL.out.1 HVL.out.2)
  rw [HDO.out] at HQ
  unfold DV.val
  go_wp2_with fail
  go_at_call 30
  refine HQ.out.mono ?_
  rintro e w3 ⟨v', rfl, hm, b3⟩
  have HB3 := Lib.hid (HBB.out.trans (b3.mono HBB.out.size))
  have HM := Lib.hid (hm.mono HBB.out.size)
  clear b3 hm HQ
  go_wp2_with fail
  go_ret
  exact ⟨_, rfl, HM.out, HB3.out⟩
theorem roomsV_snoc (V : Vw) (p : ByteArray × List Ev) (u : ByteArray) : roomsV (V ++ [p]) u = roomsV V u ++ (if joinL p.2 u = true then [p.1] else []) := by
  unfold roomsV
  rw [List.filter_append, List.map_append]
  by_cases h : joinL p.2 u = true
  · rw [if_pos h, List.filter_cons, if_pos h]
    rfl
  · rw [if_neg h, List.filter_cons, if_neg h]
    rfl
theorem roomsV_next {ds : List DV} {a : Nat} {x : DV} (hx : ds[a]? = some x) (u : ByteArray) : roomsV (vws (ds.take (a + 1))) u = roomsV (vws (ds.take a)) u ++ (if joinL (evs x.xs) u = true then [x.room] else []) := by
  rw [List.take_add_one, hx]
  show roomsV (List.map DV.rl (ds.take a ++ [x])) u = _
  rw [List.map_append]
  exact roomsV_snoc _ _ _
set_option maxHeartbeats 1600000 in
theorem refRoomsOf10_any {u : Value} (h : DsS w u ds) (hV : VOk 100 (vws ds)) (user : ByteArray) :
    Calls Tryz.prog 39 #[.agg #[u], .string user] w fun e w' => ∃ v', e = .returned v' ∧ LT.Mine w' w.heap.size v' (roomsV (vws ds) user) ∧ Below w.heap.size w w' := by
  obtain ⟨A, cap, rfl, h1, h2, -⟩ := h.1
  have HD := Lib.hid h
  have HX := Lib.hid (heap_alloc_new w (.cells #[.slice A ds.length cap] 28))
  have HB := Lib.hid (below_new w (.cells #[.slice A ds.length cap] 28))
  have HLD := Lib.hid (vws_len hV)
  have HV := Lib.hid hV
  unfold maxLen at h2
  clear h hV
  go_enter Tryz.func39, Tryz.ntmps39
  go_upto_region 1 with (fail)
  generalize w.alloc _ = w1 at HX HB ⊢
  generalize hB2 : w.heap.size = B2 at HX ⊢
  have HB2 := Lib.hid hB2
  clear hB2
  have c2 : w1.cell? ⟨B2, 0, none⟩ = some (.slice A ds.length cap) := cell_at HX.out 0
  go_wp2_with fail
  clear c2
  go_loopw [5, 6] (fun r i wr => ∃ (a : Nat) (us : List ByteArray) (Ao : Option Addr) (co : Nat), r = .slice Ao us.length co ∧ i = .int .i64 (a : Int) ∧ a ≤ ds.length ∧ us.length ≤ a ∧ Hid (Below w1.heap.size w1 wr) ∧ Hid (OuS LT w1 wr r us) ∧ Hid (us = roomsV (vws (ds.take a)) user)) (fun _ i _ => ds.length - (intOf i).toNat)
  case atStart => exact ⟨0, [], none, 0, rfl, rfl, Nat.zero_le _, Nat.le_refl _, Lib.hid (Below.refl _ _), Lib.hid ⟨Below.refl _ _, .nil _ _⟩, Lib.hid rfl⟩
  case round =>
    obtain ⟨a, us, Ao, co, rfl, rfl, ha, hua, HW, HO, HU⟩ := hrel
    have HX2 := Lib.hid ((HW.out.block B2 (smem_lt HX.out)).trans HX.out)
    have c2 : wr.cell? ⟨B2, 0, none⟩ = some (.slice A ds.length cap) := cell_at HX2.out 0
    have hla := HLD.out.1
    by_cases hax : a < ds.length
    · have q1 : decide ((a : Int) < (ds.length : Int)) = true := decide_eq_true (by omega)
      have hx : ds[a]? = some ds[a] := List.getElem?_eq_getElem hax
      generalize ds[a] = x at hx
      have HXM : Hid (x ∈ ds) := Lib.hid (List.mem_of_getElem? hx)
      have HDW := Lib.hid ((HD.out.below HB.out).below HW.out)
      obtain ⟨b, o, hA, hb, e0, e1⟩ := dv_at HDW.out.1 hx
      have hix := index_any (P := Tryz.prog) knD (by decide) (b := b) (off := o) (cap := cap) hax
      simp only [LD] at hix
      rw [← hA] at hix
      have HNX := Lib.hid (roomsV_next hx user)
      have HQ := Lib.hid (refJoined_any x.room user x.lv x.xs wr (HDW.out.2 x HXM.out) (HV.out.each x.rl (List.mem_map.2 ⟨x, HXM.out, rfl⟩)).1 (Nat.le_trans (HLD.out.2 x HXM.out) (by decide)))
      have HCS : Hid (∀ W, Below wr.heap.size wr W → W.cell? ⟨b, o + a * 2, none⟩ = some (.string x.room) ∧ W.cell? ⟨B2, 0, none⟩ = some (.slice A ds.length cap)) := Lib.hid (fun W hw => ⟨(hw.cell (p := ⟨b, o + a * 2, none⟩) hb).trans e0, cell_at ((hw.block B2 (smem_lt HX2.out)).trans HX2.out) 0⟩)
      unfold DV.lv at e1 HQ
      rw [← HU.out] at HNX
      clear hx hA hb
      generalize joinL (evs x.xs) user = j at HQ HNX
      go_wp2_with fail
      go_at_call 66
      refine HQ.out.mono ?_
      rintro e w3 ⟨rfl, g3⟩
      have HW3 := Lib.hid (HW.out.trans (g3.below.mono HW.out.size))
      have HO3 := Lib.hid (HO.out.on g3.below)
      obtain ⟨e0', c2'⟩ := HCS.out w3 g3.below
      clear g3 HQ e0 e1 c2 HCS
      cases j with
      | false =>
        have HU3 : Hid (us = roomsV (vws (ds.take (a + 1))) user) := Lib.hid (by rw [HNX.out]; simp)
        go_wp2_with fail
        refine ⟨⟨a + 1, us, Ao, co, rfl, by go_num, by omega, by omega, HW3, HO3, HU3⟩, ?_⟩
        simp [intOf]; omega
      | true =>
        have HU3 : Hid (us ++ [x.room] = roomsV (vws (ds.take (a + 1))) user) := Lib.hid (by rw [HNX.out]; simp)
        have hlit1 := Lib.hid (lit_text w3 x.room)
        have hb1 := below_new w3 (.cells #[.string x.room] 9)
        have HA1 := Lib.hid (HO3.out.on hb1)
        have HW4 := Lib.hid (HW3.out.trans (hb1.mono HW3.out.size))
        have hs1 : w1.heap.size ≤ (w3.alloc (.cells #[.string x.room] 9)).heap.size := HA1.out.below.size
        clear hb1
        go_wp2_with (at_builtin; refine wpList_puts rfl knT (.tmp 23) (.tmp 30) 31 rfl (v := .slice Ao us.length co) rfl HA1.out.row hs1 (.slice (some ⟨w3.heap.size, 0, none⟩) 1 1) [x.room] 1 rfl rfl (hlit1.out.srcN knT rfl) (by omega) ?_; intro A1 c1 w5 m1 g1 o1; have H1 : Hid (OuS LT w1 w5 (.slice A1 (us.length + 1) c1) (us ++ [x.room])) := Lib.hid (HA1.out.put g1 m1); have HW5 : Hid (Below w1.heap.size w1 w5) := Lib.hid H1.out.below; clear m1 g1 o1)
        refine ⟨⟨a + 1, us ++ [x.room], A1, c1, by rw [List.length_append]; rfl, by go_num, by omega, by rw [List.length_append]; simp only [List.length_cons, List.length_nil]; omega, HW5, H1, HU3⟩, ?_⟩
        simp [intOf]; omega
    · have q1 : decide ((a : Int) < (ds.length : Int)) = false := decide_eq_false (by omega)
      have HE : Hid (us = roomsV (vws ds) user) := Lib.hid (by rw [HU.out, List.take_of_length_le (by omega)])
      go_wp2_with fail
      go_ret
      exact ⟨_, rfl, by rw [← HE.out]; exact HO.out.row.mono HB.out.size, HB.out.trans (HO.out.below.mono HB.out.size)⟩
end
end Go.Proofs.YtjiecjpepiknmaaGreat

namespace Go.Proofs.YtjiecjpepiknmaaGreat
set_option maxRecDepth 20000
open Go.RowKit
set_option linter.unusedVariables false
set_option linter.unusedSimpArgs false
theorem turn_room (x r : Ev) (j : Nat) : (turnE x r j).room = x.room ∨ (turnE x r j).room = r.room := by
  unfold turnE
  split <;> first | exact .inl rfl | exact .inr rfl
theorem odd_room {room : ByteArray} {l : List Ev} (hv : Valid room l) (hr : room.size ≤ 40) (k which : Int) (raw : Ev) : (oddE room l k which raw).room.size ≤ 40 := by
  unfold oddE
  rcases turn_room (baseE room l k) (fewE raw) (aroundN which 8) with h | h
  · rw [h]
    unfold baseE
    rw [List.getD_eq_getElem?_getD]
    cases hi : l[aroundN k (l.length : Int)]? with
    | none => exact hr
    | some e =>
      have := valid_room hv e (List.mem_of_getElem? hi)
      simp only [Option.getD_some]
      rw [this]
      exact hr
  · rw [h]
    exact Nat.le_trans (fewS_size raw.room 30) (by decide)
section
variable {w : World} {ds : List DV}
theorem rooms_next {ds : List DV} {a : Nat} {x : DV} (hx : ds[a]? = some x) : (vws (ds.take (a + 1))).map Prod.fst = (vws (ds.take a)).map Prod.fst ++ [x.room] := by
  rw [List.take_add_one, hx]
  simp
set_option maxHeartbeats 1600000 in
theorem refRooms10_any {u : Value} (h : DsS w u ds) (hV : VOk 100 (vws ds)) :
    Calls Tryz.prog 21 #[.agg #[u]] w fun e w' => ∃ v', e = .returned v' ∧ LT.Mine w' w.heap.size v' ((vws ds).map Prod.fst) ∧ Below w.heap.size w w' := by
  obtain ⟨A, cap, rfl, h1, h2, -⟩ := h.1
  have HD := Lib.hid h
  have HX := Lib.hid (heap_alloc_new w (.cells #[.slice A ds.length cap] 28))
  have HB := Lib.hid (below_new w (.cells #[.slice A ds.length cap] 28))
  have HLD := Lib.hid (vws_len hV)
  have HV := Lib.hid hV
  unfold maxLen at h2
  clear h hV
  go_enter Tryz.func21, Tryz.ntmps21
  go_upto_region 1 with (fail)
  generalize w.alloc _ = w1 at HX HB ⊢
  generalize hB2 : w.heap.size = B2 at HX ⊢
  have HB2 := Lib.hid hB2
  clear hB2
  have c2 : w1.cell? ⟨B2, 0, none⟩ = some (.slice A ds.length cap) := cell_at HX.out 0
  go_wp2_with fail
  clear c2
  go_loopw [3, 4] (fun r i wr => ∃ (a : Nat) (us : List ByteArray) (Ao : Option Addr) (co : Nat), r = .slice Ao us.length co ∧ i = .int .i64 (a : Int) ∧ a ≤ ds.length ∧ us.length ≤ a ∧ Hid (OuS LT w1 wr r us) ∧ Hid (us = (vws (ds.take a)).map Prod.fst)) (fun _ i _ => ds.length - (intOf i).toNat)
  case atStart => exact ⟨0, [], none, 0, rfl, rfl, Nat.zero_le _, Nat.le_refl _, Lib.hid ⟨Below.refl _ _, .nil _ _⟩, Lib.hid rfl⟩
  case round =>
    obtain ⟨a, us, Ao, co, rfl, rfl, ha, hua, HO, HU⟩ := hrel
    have HX2 := Lib.hid ((HO.out.below.block B2 (smem_lt HX.out)).trans HX.out)
    have c2 : wr.cell? ⟨B2, 0, none⟩ = some (.slice A ds.length cap) := cell_at HX2.out 0
    have hla := HLD.out.1
    by_cases hax : a < ds.length
    · have q1 : decide ((a : Int) < (ds.length : Int)) = true := decide_eq_true (by omega)
      have hx : ds[a]? = some ds[a] := List.getElem?_eq_getElem hax
      generalize ds[a] = x at hx
      have HDW := Lib.hid ((HD.out.below HB.out).below HO.out.below)
      obtain ⟨b, o, hA, hb, e0, e1⟩ := dv_at HDW.out.1 hx
      have hix := index_any (P := Tryz.prog) knD (by decide) (b := b) (off := o) (cap := cap) hax
      simp only [LD] at hix
      rw [← hA] at hix
      have HU3 : Hid (us ++ [x.room] = (vws (ds.take (a + 1))).map Prod.fst) := Lib.hid (by rw [rooms_next hx, ← HU.out])
      clear hx hA hb e1
      have hlit1 := Lib.hid (lit_text wr x.room)
      have hb1 := below_new wr (.cells #[.string x.room] 9)
      have HA1 := Lib.hid (HO.out.on hb1)
      have hs1 : w1.heap.size ≤ (wr.alloc (.cells #[.string x.room] 9)).heap.size := HA1.out.below.size
      clear hb1
      go_wp2_with (at_builtin; refine wpList_puts rfl knT (.tmp 12) (.tmp 19) 31 rfl (v := .slice Ao us.length co) rfl HA1.out.row hs1 (.slice (some ⟨wr.heap.size, 0, none⟩) 1 1) [x.room] 1 rfl rfl (hlit1.out.srcN knT rfl) (by omega) ?_; intro A1 c1 w5 m1 g1 o1; have H1 : Hid (OuS LT w1 w5 (.slice A1 (us.length + 1) c1) (us ++ [x.room])) := Lib.hid (HA1.out.put g1 m1); clear m1 g1 o1)
      refine ⟨⟨a + 1, us ++ [x.room], A1, c1, by rw [List.length_append]; rfl, by go_num, by omega, by rw [List.length_append]; simp only [List.length_cons, List.length_nil]; omega, H1, HU3⟩, ?_⟩
      simp [intOf]; omega
    · have q1 : decide ((a : Int) < (ds.length : Int)) = false := decide_eq_false (by omega)
      have HE : Hid (us = (vws ds).map Prod.fst) := Lib.hid (by rw [HU.out, List.take_of_length_le (by omega)])
      go_wp2_with fail
      go_ret
      exact ⟨_, rfl, by rw [← HE.out]; exact HO.out.row.mono HB.out.size, HB.out.trans (HO.out.below.mono HB.out.size)⟩
end
end Go.Proofs.YtjiecjpepiknmaaGreat
