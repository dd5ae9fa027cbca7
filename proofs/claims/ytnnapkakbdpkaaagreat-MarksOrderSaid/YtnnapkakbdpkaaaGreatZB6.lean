/-
  What the statements stand on, part ZB6.
-/
import Derived.Test.YtnnapkakbdpkaaaGreatZB0
import Derived.Test.YtnnapkakbdpkaaaGreatZB5
set_option linter.unusedVariables false
set_option linter.unusedSimpArgs false
namespace Go.Proofs.YtnnapkakbdpkaaaGreat
set_option maxRecDepth 20000
open Go.RowKit
theorem vws_len {ds : List DV} {n : Nat} (h : VOk n (vws ds)) : ds.length ≤ n ∧ ∀ d ∈ ds, d.xs.length ≤ n := by
 have h1 := h.len
 rw [List.length_map] at h1
 refine ⟨h1, fun d hd => ?_⟩
 have := (h.each d.rl (List.mem_map.2 ⟨d, hd, rfl⟩)).2.1
 rw [evs_len] at this
 exact this
end Go.Proofs.YtnnapkakbdpkaaaGreat

namespace Go.Proofs.YtnnapkakbdpkaaaGreat
set_option maxRecDepth 20000
open Go.RowKit
theorem empty_iff (s : ByteArray) : s.toList.isEmpty = decide (s = ⟨#[]⟩) := by
 rw [Bool.eq_iff_iff, decide_eq_true_eq, List.isEmpty_iff]
 exact ⟨fun h => key_ext (by rw [h, ByteArray.toList_eq]), fun h => by rw [h, ByteArray.toList_eq]⟩
theorem main_iff (s : ByteArray) : (s.toList == [109, 97, 105, 110]) = decide (s = mainS) := by
 have h := keyB s mainS
 have h2 : mainS.toList = [109, 97, 105, 110] := by rw [ByteArray.toList_eq]; rfl
 rw [h2] at h
 exact h
def fitB (b1 b2 b3 b4 b5 : Bool) : Bool := b1 || b2 || (b3 && b4) || (!b4 && b5)
theorem fits_bool {l : List Ev} {id t : ByteArray} {k : Nat} {e : Ev} (hk : idx l id = some k) (he : l[k]? = some e) : fitsL l id t = bif fitB (decide (t = ⟨#[]⟩)) (decide (t = id)) (decide (t = mainS)) (decide (e.thread = ⟨#[]⟩)) (decide (t = e.thread)) then 0 else 7 := by
 rw [fitsL_at hk he]
 unfold fitB
 by_cases h1 : t = ⟨#[]⟩ <;> by_cases h2 : t = id <;> by_cases h3 : t = mainS <;> by_cases h4 : e.thread = ⟨#[]⟩ <;> by_cases h5 : t = e.thread <;> simp only [h1, h2, h3, h4, h5, decide_true, decide_false, true_or, false_or, or_true, or_false, true_and, false_and, and_true, and_false, not_true, not_false_iff, if_true, if_false, ne_eq, Bool.true_or, Bool.false_or, Bool.or_true, Bool.or_false, Bool.true_and, Bool.false_and, Bool.and_true, Bool.and_false, Bool.not_true, Bool.not_false, cond_true, cond_false] <;> first | rfl | (simp_all)
theorem of_foot10 {v : Value} {ds : List DV} {d : DV} {room : ByteArray} (hm : d ∈ ds ∨ d = noDV room) {k : Nat} (hk : footE d.lv d.xs k) : footD v ds k := of_foot hm hk
section
variable {C : Dags} {w wr : World} {vs : List VI} {ts : List Th}
set_option maxHeartbeats 1600000 in
theorem refFits10_any (h : Kv C w wr vs ts) {u : Value} {ds : List DV} (hu : Th.vw u ds ∈ ts) (hV : VOk 100 (vws ds)) (room id t : ByteArray) :
  Calls Tryz.prog 40 #[.agg #[u], .string room, .string id, .string t] wr fun e w' => e = .returned (.int .i64 (fitsL (ofL (vws ds) room) id t)) ∧ Kv C w w' vs ts := by
 obtain ⟨A, cap, rfl, h1, h2, -⟩ := (h.is hu).1
 have HK0 : Hid (Kv C w (wr.alloc (.cells #[.slice A ds.length cap] 39)) vs (Th.box wr.heap.size (.cells #[.slice A ds.length cap] 39 (0, 0)) :: ts)) := Lib.hid (h.add (t := Th.box wr.heap.size (.cells #[.slice A ds.length cap] 39 (0, 0))) (below_new wr _) (heap_alloc_new wr _) (fun k hk => .inl (Nat.le_of_eq hk.symm)))
 have HU : Hid (Th.vw (.slice A ds.length cap) ds ∈ ts) := Lib.hid hu
 have HLD := Lib.hid (vws_len hV)
 have HOF := Lib.hid (fun W (hw : DsS W (.slice A ds.length cap) ds) => refOf_any (.slice A ds.length cap) ds room W hw (Nat.le_trans (vws_len hV).1 (by decide)))
 unfold maxLen at h2
 clear h hu hV
 go_enter Tryz.func40, Tryz.ntmps40
 go_upto_region 1 with (fail)
 generalize World.alloc _ _ = w1 at HK0 ⊢
 generalize wr.heap.size = B4 at HK0 ⊢
 have c4 : w1.cell? ⟨B4, 0, none⟩ = some (.slice A ds.length cap) := cell_at (HK0.out.is List.mem_cons_self) 0
 have HQ := Lib.hid (HOF.out w1 (HK0.out.is (List.mem_cons_of_mem _ HU.out)))
 go_wp2_with fail
 go_at_call 51
 refine HQ.out.mono ?_
 rintro e w2 ⟨d, rfl, hes, hdr, hdm, hdo, hb2⟩
 have HKD : Hid (Kv C w (w2.alloc (.cells #[.string d.room, .slice d.A d.xs.length d.cap] 93)) vs (Th.box w2.heap.size (.cells #[.string d.room, .slice d.A d.xs.length d.cap] 93 (0, 0)) :: Th.evs d.lv d.xs :: Th.box B4 (.cells #[.slice A ds.length cap] 39 (0, 0)) :: ts)) := Lib.hid (by
  have k1 : Kv C w w2 vs (Th.evs d.lv d.xs :: Th.box B4 (.cells #[.slice A ds.length cap] 39 (0, 0)) :: ts) := HK0.out.add (t := Th.evs d.lv d.xs) hb2 hes (fun k hk => .inr ⟨_, List.mem_cons_of_mem _ HU.out, of_foot10 hdm hk⟩)
  exact k1.add (t := Th.box w2.heap.size (.cells #[.string d.room, .slice d.A d.xs.length d.cap] 93 (0, 0))) (below_new w2 _) (heap_alloc_new w2 _) (fun k hk => .inl (Nat.le_of_eq hk.symm)))
 have HDO := Lib.hid hdo
 have HAT := Lib.hid (fun W (hw : EvsS W d.lv d.xs) => refAt_any d.room id d.lv d.xs W hw)
 unfold DV.lv at HAT
 unfold DV.val DV.lv
 clear hes hdr hdm hdo hb2 HQ c4 HOF
 go_upto_region 2 with (fail)
 generalize World.alloc _ _ = w3 at HKD ⊢
 generalize w2.heap.size = B9 at HKD ⊢
 clear HK0
 have d0 : w3.cell? ⟨B9, 0, none⟩ = some (.string d.room) := cell_at (HKD.out.is List.mem_cons_self) 0
 have d1 : w3.cell? ⟨B9, 1, none⟩ = some (.slice d.A d.xs.length d.cap) := cell_at (HKD.out.is List.mem_cons_self) 1
 have HQ := Lib.hid (HAT.out w3 (HKD.out.is (List.mem_cons_of_mem _ List.mem_cons_self)))
 go_wp2_with fail
 go_at_call 64
 refine HQ.out.mono ?_
 rintro e w4 ⟨rfl, q, os, hw4⟩
 replace HKD := Lib.hid (HKD.out.later (show Gr w3 w4 from ⟨q, os, hw4⟩).below)
 clear hw4 HQ d0 d1 HAT
 have d1 : w4.cell? ⟨B9, 1, none⟩ = some (.slice d.A d.xs.length d.cap) := cell_at (HKD.out.is List.mem_cons_self) 1
 cases hix : idx (evs d.xs) id with
 | none =>
  have HF : Hid (fitsL (ofL (vws ds) room) id t = 4) := Lib.hid (by
   rw [← HDO.out]
   unfold fitsL
   rw [hix])
  have hI : idxI (evs d.xs) id = -1 := by unfold idxI; rw [hix]
  rw [hI]
  clear hI hix
  go_wp2_with fail
  go_ret
  exact ⟨by rw [HF.out]; rfl, HKD.out.less (fun _ ht => List.mem_cons_of_mem _ (List.mem_cons_of_mem _ (List.mem_cons_of_mem _ ht)))⟩
 | some k =>
  obtain ⟨y, hy, -⟩ := idx_some hix
  have hkl : k < d.xs.length := by
   have := (List.getElem?_eq_some_iff.1 hy).1
   rw [evs_len] at this
   exact this
  have hI : idxI (evs d.xs) id = (k : Int) := by unfold idxI; rw [hix]
  rw [hI]
  have q0 : decide ((k : Int) < 0) = false := decide_eq_false (by omega)
  have hx : d.xs[k]? = some d.xs[k] := List.getElem?_eq_getElem hkl
  generalize d.xs[k] = x at hx
  have hyx : y = x.ev := by
   have := evs_get hx
   rw [hy] at this
   injection this
  subst hyx
  have HF := Lib.hid (fits_bool (t := t) hix hy)
  rw [HDO.out] at HF
  obtain ⟨b, o, hA, hb, hrg⟩ := ev_at (show EvsS w4 (.slice d.A d.xs.length d.cap) d.xs from HKD.out.is (List.mem_cons_of_mem _ List.mem_cons_self)) hx
  have hin := index_any (P := Tryz.prog) knV (by decide) (b := b) (off := o) (cap := d.cap) hkl
  simp only [LV] at hin
  rw [← hA] at hin
  obtain ⟨e0, e1, e2, e3, e4, e5⟩ := ev_cells hrg
  have g1 := empty_iff t
  have g2 := keyB t id
  have g3 := main_iff t
  have g4 := empty_iff x.ev.thread
  have g5 := keyB t x.ev.thread
  generalize decide (t = ⟨#[]⟩) = b1 at g1 HF
  generalize decide (t = id) = b2 at g2 HF
  generalize decide (t = mainS) = b3 at g3 HF
  generalize decide (x.ev.thread = ⟨#[]⟩) = b4 at g4 HF
  generalize decide (t = x.ev.thread) = b5 at g5 HF
  clear hI hix hy hx hA hb hrg e0 e1 e2 e4 e5
  cases b1 <;> cases b2 <;> cases b3 <;> cases b4 <;> cases b5
  all_goals
   go_wp2_with fail
   go_ret
   exact ⟨by rw [HF.out]; rfl, HKD.out.less (fun _ ht => List.mem_cons_of_mem _ (List.mem_cons_of_mem _ (List.mem_cons_of_mem _ ht)))⟩
end
end Go.Proofs.YtnnapkakbdpkaaaGreat

namespace Go.Proofs.YtnnapkakbdpkaaaGreat
set_option maxRecDepth 20000
open Go.RowKit
section
variable {w : World} {ds : List DV}
theorem two_b (w : World) (c1 c2 : Array Value) (t t' : TypeId) : ((w.alloc (.cells c1 t)).alloc (.cells c2 t')).heap[w.heap.size]? = some (.cells c1 t (0, 0)) ∧ ((w.alloc (.cells c1 t)).alloc (.cells c2 t')).heap[w.heap.size + 1]? = some (.cells c2 t' (0, 0)) := by
 have s1 : ∀ (u : World) (o : Obj), (u.alloc o).heap.size = u.heap.size + 1 := fun u o => by simp
 have h2 := heap_alloc_new w (.cells c1 t)
 have h3 := heap_alloc_new (w.alloc (.cells c1 t)) (.cells c2 t')
 rw [s1] at h3
 refine ⟨?_, h3⟩
 rw [heap_alloc_old _ _ (by rw [s1]; omega)]
 exact h2
set_option maxHeartbeats 1600000 in
theorem refPosition10_any {u : Value} (h : DsS w u ds) (hV : VOk 100 (vws ds)) (room id : ByteArray) :
  Calls Tryz.prog 42 #[.agg #[u], .string room, .string id] w fun e w' => ∃ p : Po, e = .returned (.tuple #[p.val, .bool (hasE (ofL (vws ds) room) id)]) ∧ p = (bif hasE (ofL (vws ds) room) id then posL (ofL (vws ds) room) id else ⟨0, ⟨#[]⟩⟩) ∧ Below w.heap.size w w' := by
 obtain ⟨A, cap, rfl, h1, h2, -⟩ := h.1
 have HD := Lib.hid h
 have HX := Lib.hid (two_b w #[.slice A ds.length cap] #[.int .i64 0, .string ⟨#[]⟩] 39 83)
 have HB : Hid (Below w.heap.size w ((w.alloc (.cells #[.slice A ds.length cap] 39)).alloc (.cells #[.int .i64 0, .string ⟨#[]⟩] 83)) ∧ w.heap.size ≤ w.heap.size + 1) := Lib.hid ⟨(((Gr.refl w).alloc _).alloc _).below, Nat.le_succ _⟩
 have HLD := Lib.hid (vws_len hV)
 have HV := Lib.hid hV
 unfold maxLen at h2
 clear h hV
 go_enter Tryz.func42, Tryz.ntmps42
 go_upto_region 1 with (fail)
 generalize World.alloc _ _ = w1 at HX HB ⊢
 generalize w.heap.size + 1 = B6 at HX HB ⊢
 generalize hB3 : w.heap.size = B3 at HX ⊢
 have HB3 := Lib.hid hB3
 clear hB3
 have c2 : w1.cell? ⟨B3, 0, none⟩ = some (.slice A ds.length cap) := cell_at HX.out.1 0
 have HQ := Lib.hid (refOf_any (.slice A ds.length cap) ds room w1 (HD.out.below HB.out.1) (Nat.le_trans HLD.out.1 (by decide)))
 go_wp2_with fail
 go_at_call 51
 refine HQ.out.mono ?_
 rintro e w2 ⟨d, rfl, hes, rfl, hdm, hdo, hb2⟩
 have HES := Lib.hid (hes.below (below_new w2 (.cells #[.string d.room, .slice d.A d.xs.length d.cap] 93)))
 have HDO := Lib.hid hdo
 have HVL : Hid (Valid d.room (evs d.xs) ∧ d.xs.length ≤ 1000) := Lib.hid (by
  have := HV.out.of_ d.room
  rw [← hdo, evs_len] at this
  exact ⟨this.1, Nat.le_trans this.2 (by decide)⟩)
 have HBD := Lib.hid (hb2.trans ((below_new w2 (.cells #[.string d.room, .slice d.A d.xs.length d.cap] 93)).mono hb2.size))
 have HDX := Lib.hid (heap_alloc_new w2 (.cells #[.string d.room, .slice d.A d.xs.length d.cap] 93))
 unfold DV.val DV.lv
 clear hes hdm hdo hb2 HQ c2
 go_upto_region 2 with (fail)
 generalize World.alloc _ _ = w3 at HES HBD HDX ⊢
 generalize w2.heap.size = B8 at HDX ⊢
 have HAT := Lib.hid (refAt_any d.room id d.lv d.xs w3 HES.out)
 unfold DV.lv at HAT
 have d0 : w3.cell? ⟨B8, 0, none⟩ = some (.string d.room) := cell_at HDX.out 0
 have d1 : w3.cell? ⟨B8, 1, none⟩ = some (.slice d.A d.xs.length d.cap) := cell_at HDX.out 1
 go_wp2_with fail
 go_at_call 64
 refine HAT.out.mono ?_
 rintro e w4 ⟨rfl, q, os, hw4⟩
 have HG4 := Lib.hid (show Gr w3 w4 from ⟨q, os, hw4⟩)
 have HB4 := Lib.hid (HBD.out.trans (HG4.out.below.mono HBD.out.size))
 clear hw4 HAT d0 d1
 cases hix : idx (evs d.xs) id with
 | none =>
  have HH : Hid (hasE (ofL (vws ds) d.room) id = false) := Lib.hid (by
   rw [← HDO.out]
   unfold hasE
   rw [hix]
   rfl)
  have hI : idxI (evs d.xs) id = -1 := by unfold idxI; rw [hix]
  rw [hI]
  clear hI hix
  obtain ⟨p0, hp0⟩ : ∃ p0 : Po, p0 = ⟨0, ⟨#[]⟩⟩ := ⟨_, rfl⟩
  have HB6 := Lib.hid ((HB4.out.block B6 (smem_lt HX.out.2)).trans HX.out.2)
  have r0 : w4.cell? ⟨B6, 0, none⟩ = some (.int .i64 0) := cell_at HB6.out 0
  have r1 : w4.cell? ⟨B6, 1, none⟩ = some (.string ⟨#[]⟩) := cell_at HB6.out 1
  have z0 : w4.frozen? ⟨B6, 0, none⟩ = false := free_at HB6.out 0
  have z1 : w4.frozen? ⟨B6, 1, none⟩ = false := free_at HB6.out 1
  have HAN := Lib.hid (po_at HB6.out (.int .i64 (⟨0, ⟨#[]⟩⟩ : Po).depth) (.string (⟨0, ⟨#[]⟩⟩ : Po).id) rfl _ rfl)
  simp only [World.setCells] at HAN
  go_wp2_with fail
  clear r0 r1 z0 z1
  generalize World.setCell _ _ _ = w9 at HAN ⊢
  have HB9 := Lib.hid ((HB.out.1.trans (HB4.out.mono HB.out.1.size)).grown HAN.out.2 (Nat.le_trans HB.out.1.size HB4.out.size) (fun k hk => by injection hk with hk; have := HB.out.2; omega))
  have s0 : w9.cell? ⟨B6, 0, none⟩ = some (.int .i64 (⟨0, ⟨#[]⟩⟩ : Po).depth) := cell_at HAN.out.1 0
  have s1 : w9.cell? ⟨B6, 1, none⟩ = some (.string (⟨0, ⟨#[]⟩⟩ : Po).id) := cell_at HAN.out.1 1
  refine bodyPost_ret (v := .tuple #[.agg #[.int .i64 (⟨0, ⟨#[]⟩⟩ : Po).depth, .string (⟨0, ⟨#[]⟩⟩ : Po).id], .bool false]) ?_ rfl ?_
  ·simp [results, Tryz.results42, go_sem, s0, s1]
  ·exact ⟨(⟨0, ⟨#[]⟩⟩ : Po), by rw [HH.out]; rfl, by rw [HH.out]; rfl, HB9.out⟩
 | some k =>
  have HH : Hid (hasE (ofL (vws ds) d.room) id = true) := Lib.hid (by
   rw [← HDO.out]
   unfold hasE
   rw [hix]
   rfl)
  have hI : idxI (evs d.xs) id = (k : Int) := by unfold idxI; rw [hix]
  rw [hI]
  have q0 : decide ((k : Int) < 0) = false := decide_eq_false (by omega)
  have HDX4 := Lib.hid ((HG4.out.below.block B8 (smem_lt HDX.out)).trans HDX.out)
  have d0 : w4.cell? ⟨B8, 0, none⟩ = some (.string d.room) := cell_at HDX4.out 0
  have d1 : w4.cell? ⟨B8, 1, none⟩ = some (.slice d.A d.xs.length d.cap) := cell_at HDX4.out 1
  have HPS := Lib.hid (refPosition_any d.room id d.lv d.xs w4 (HES.out.below HG4.out.below) HVL.out.1 HVL.out.2)
  rw [HDO.out] at HPS
  unfold DV.lv at HPS
  clear hI hix
  go_wp2_with fail
  go_at_call 65
  refine HPS.out.mono ?_
  rintro e w5 ⟨rfl, g5⟩
  have HB5 := Lib.hid (HB4.out.trans (g5.below.mono HB4.out.size))
  clear g5 HPS d0 d1
  generalize hpp : posL (ofL (vws ds) d.room) id = pp
  have HPP := Lib.hid hpp
  clear hpp
  have HB6 := Lib.hid ((HB5.out.block B6 (smem_lt HX.out.2)).trans HX.out.2)
  have r0 : w5.cell? ⟨B6, 0, none⟩ = some (.int .i64 0) := cell_at HB6.out 0
  have r1 : w5.cell? ⟨B6, 1, none⟩ = some (.string ⟨#[]⟩) := cell_at HB6.out 1
  have z0 : w5.frozen? ⟨B6, 0, none⟩ = false := free_at HB6.out 0
  have z1 : w5.frozen? ⟨B6, 1, none⟩ = false := free_at HB6.out 1
  have HAN := Lib.hid (po_at HB6.out (.int .i64 pp.depth) (.string pp.id) rfl _ rfl)
  simp only [World.setCells] at HAN
  go_wp2_with fail
  clear r0 r1 z0 z1
  generalize World.setCell _ _ _ = w9 at HAN ⊢
  have HB9 := Lib.hid ((HB.out.1.trans (HB5.out.mono HB.out.1.size)).grown HAN.out.2 (Nat.le_trans HB.out.1.size HB5.out.size) (fun k hk => by injection hk with hk; have := HB.out.2; omega))
  have s0 : w9.cell? ⟨B6, 0, none⟩ = some (.int .i64 pp.depth) := cell_at HAN.out.1 0
  have s1 : w9.cell? ⟨B6, 1, none⟩ = some (.string pp.id) := cell_at HAN.out.1 1
  refine bodyPost_ret (v := .tuple #[.agg #[.int .i64 pp.depth, .string pp.id], .bool true]) ?_ rfl ?_
  ·simp [results, Tryz.results42, go_sem, s0, s1]
  ·exact ⟨pp, by rw [HH.out]; rfl, by rw [HH.out, ← HPP.out]; rfl, HB9.out⟩
end
end Go.Proofs.YtnnapkakbdpkaaaGreat

namespace Go.Proofs.YtnnapkakbdpkaaaGreat
set_option maxRecDepth 20000
open Go.RowKit
theorem fits13_any {w : World} {u : Value} {ds : List DV} (h : DsS w u ds) (hV : VOk 100 (vws ds)) (room id t : ByteArray) :
  Calls Tryz.prog 40 #[.agg #[u], .string room, .string id, .string t] w fun e w' => e = .returned (.int .i64 (fitsL (ofL (vws ds) room) id t)) ∧ Below w.heap.size w w' := by
 have hk : Kv codeDags w w [] [Th.vw u ds] := (Kv.start w).with (t := Th.vw u ds) h (fun k hk j v hv => by simp at hv)
 refine (refFits10_any hk List.mem_cons_self hV room id t).mono ?_
 rintro e w' ⟨he, hk'⟩
 exact ⟨he, hk'.below⟩
end Go.Proofs.YtnnapkakbdpkaaaGreat

namespace Go.Proofs.YtnnapkakbdpkaaaGreat
set_option maxRecDepth 20000
open Go.RowKit
set_option maxHeartbeats 1600000 in
theorem like13_any (v u : Value) (xs ys : List Mk) (w : World) (h : LR.Slice w v xs) (hu : LM.Slice w u ys) :
  Calls Tryz.prog 21 #[v, u] w fun e w' => e = .returned (.bool (decide (xs = ys))) ∧ Gr w w' := by
 obtain ⟨A, cap, rfl, h1, h2, -⟩ := id h
 obtain ⟨A', cap', rfl, h1', h2', -⟩ := id hu
 unfold maxLen at h2 h2'
 have HX := Lib.hid h
 have HY := Lib.hid hu
 clear h hu
 by_cases hl : xs.length = ys.length
 ·have q0 : ((xs.length : Int) != (ys.length : Int)) = false := by rw [hl, bne_self_eq_false]
  have HL := Lib.hid hl
  clear hl
  go_enter Tryz.func21, Tryz.ntmps21
  go_wp2_with fail
  go_loopw [5] (fun i wr => ∃ a : Nat, i = .int .i64 (a : Int) ∧ a ≤ xs.length ∧ Hid (Gr w wr) ∧ Hid (∀ (j : Nat) x y, j < a → xs[j]? = some x → ys[j]? = some y → x = y)) (fun i _ => xs.length - (intOf i).toNat)
  case atStart => exact ⟨0, rfl, Nat.zero_le _, Lib.hid (Gr.refl w), Lib.hid (fun j x y hj => by omega)⟩
  case round =>
   obtain ⟨a, rfl, ha, HA, HN⟩ := hrel
   by_cases hax : a < xs.length
   ·have q1 : decide ((a : Int) < (xs.length : Int)) = true := decide_eq_true (by omega)
    have hay : a < ys.length := HL.out ▸ hax
    have hx : xs[a]? = some xs[a] := List.getElem?_eq_getElem hax
    have hy : ys[a]? = some ys[a] := List.getElem?_eq_getElem hay
    generalize xs[a] = x at hx
    generalize ys[a] = y at hy
    have HXA := Lib.hid hx
    have HYA := Lib.hid hy
    obtain ⟨bo, oo, rfl, hbo, hco⟩ := (HX.out.below HA.out.below).at hx
    obtain ⟨bp, op, rfl, hbp, hcp⟩ := (HY.out.below HA.out.below).at hy
    have hix := index_any (P := Tryz.prog) knR (by decide) (b := bo) (off := oo) (cap := cap) hax
    have hiy := index_any (P := Tryz.prog) knM (by decide) (b := bp) (off := op) (cap := cap') hay
    simp only [LR, LM] at hix hiy hco hcp
    obtain ⟨a0, a1, a2, a3, a4, a5⟩ := range6 hco
    obtain ⟨b0, b1, b2, b3, b4, b5⟩ := range6 hcp
    clear hx hy hco hcp
    have hqk := eqlK x.k y.k
    have hqp := eqlP x.po y.po
    by_cases hxy : x = y
    ·have HN2 : Hid (∀ (j : Nat) x y, j < a + 1 → xs[j]? = some x → ys[j]? = some y → x = y) := Lib.hid (fun j x' y' hj hx hy => by
      by_cases hja : j = a
      ·subst hja
       rw [HXA.out] at hx
       rw [HYA.out] at hy
       injection hx with hx
       injection hy with hy
       rw [← hx, ← hy, hxy]
      ·exact HN.out j x' y' (by omega) hx hy)
     subst hxy
     rw [decide_eq_true rfl] at hqk hqp
     have q3 : (x.k.user.toList != x.k.user.toList) = false := bne_self_eq_false _
     have q4 : (x.k.user.toList == x.k.user.toList) = true := beq_self_eq_true _
     go_upto_region 6 with (fail)
     go_quiet (fail)
     clear hqk hqp a0 a1 a2 a3 a4 a5 b0 b1 b2 b3 b4 b5 hix hiy HXA HYA
     have HA2 : ∀ d, Hid (Gr w (wr.drewN d)) := fun d => Lib.hid (HA.out.drewN d)
     go_wp2_with fail
     refine ⟨⟨a + 1, by go_num, by omega, HA2 _, HN2⟩, ?_⟩
     simp [intOf]; omega
    ·have HF : Hid (decide (xs = ys) = false) := Lib.hid (decide_eq_false (fun e => hxy (by
      have h1 := HXA.out
      rw [e, HYA.out] at h1
      injection h1 with h1
      exact h1.symm)))
     by_cases hk : x.k = y.k
     ·have hp : ¬ x.po = y.po := fun hp => hxy (by cases x; cases y; simp_all)
      rw [decide_eq_true hk] at hqk
      rw [decide_eq_false hp] at hqp
      clear hxy hk hp
      go_upto_region 6 with (fail)
      go_quiet (fail)
      go_wp2_with fail
      go_ret
      exact ⟨by rw [HF.out]; rfl, HA.out.drewN _⟩
     ·rw [decide_eq_false hk] at hqk
      clear hxy hk hqp
      go_upto_region 6 with (fail)
      go_quiet (fail)
      go_wp2_with fail
      go_ret
      exact ⟨by rw [HF.out]; rfl, HA.out.drewN _⟩
   ·have q1 : decide ((a : Int) < (xs.length : Int)) = false := decide_eq_false (by omega)
    have HF : Hid (decide (xs = ys) = true) := Lib.hid (decide_eq_true (List.ext_getElem? (fun j => by
     by_cases hj : j < xs.length
     ·rw [List.getElem?_eq_getElem hj, List.getElem?_eq_getElem (HL.out ▸ hj)]
      rw [HN.out j xs[j] (ys[j]'(HL.out ▸ hj)) (by omega) (List.getElem?_eq_getElem hj) (List.getElem?_eq_getElem (HL.out ▸ hj))]
     ·rw [List.getElem?_eq_none (by omega), List.getElem?_eq_none (by have := HL.out; omega)])))
    go_wp2_with fail
    go_ret
    exact ⟨by rw [HF.out]; rfl, HA.out⟩
 ·have q0 : ((xs.length : Int) != (ys.length : Int)) = true := by
   rw [bne_iff_ne]
   omega
  have HF : Hid (decide (xs = ys) = false) := Lib.hid (decide_eq_false (fun e => hl (by rw [e])))
  clear hl
  go_enter Tryz.func21, Tryz.ntmps21
  go_wp2_with fail
  go_ret
  exact ⟨by rw [HF.out]; rfl, Gr.refl w⟩
end Go.Proofs.YtnnapkakbdpkaaaGreat
