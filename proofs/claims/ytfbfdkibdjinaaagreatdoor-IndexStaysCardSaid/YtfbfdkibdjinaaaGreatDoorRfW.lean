/-
  The document's Which (layer 8).
-/
import Derived.Test.YtfbfdkibdjinaaaGreatDoorRfA
import Derived.Test.YtfbfdkibdjinaaaGreatDoorIxZ
namespace Go.Proofs.YtfbfdkibdjinaaaGreatDoor
set_option maxRecDepth 20000
open Go.RowKit
set_option linter.unusedVariables false
set_option linter.unusedSimpArgs false

theorem anc_fil (l : List Ev) (a : ByteArray) : ancL l a = ((allL l).map Ev.id).filter (fun id => aheadB l id a) := filter_map_id (fun id => aheadB l id a) (allL l)
theorem beh_fil (l : List Ev) (a : ByteArray) : behindL l a = ((allL l).map Ev.id).filter (fun id => aheadB l a id) := filter_map_id (fun id => aheadB l a id) (allL l)
theorem com_fil (l : List Ev) (a b : ByteArray) : commonL l a b = ((allL l).map Ev.id).filter (fun id => aheadB l id a && aheadB l id b) := filter_map_id (fun id => aheadB l id a && aheadB l id b) (allL l)

set_option maxHeartbeats 3200000 in
theorem refWhich0_any (room : ByteArray) (v : Value) (xs : List EvV) (a b : ByteArray) (w : World) (h : EvsS w v xs) (hv : Valid room (evs xs)) (hl : xs.length ≤ 900) (ha : a.size ≤ maxLen) (hb : b.size ≤ maxLen) :
    Calls Tryz.prog 20 #[.agg #[.string room, v], .int .i64 0, .string a, .string b] w fun e w' => ∃ v', e = .returned v' ∧ LT.Mine w' w.heap.size v' (ancL (evs xs) a) ∧ Below w.heap.size w w' := by
  obtain ⟨Av, cv, rfl, h1, h2, h3, _⟩ := id h.1
  unfold maxLen at h2
  have HX := Lib.hid (heap_alloc_new w (.cells #[.string room, .slice Av xs.length cv] 26))
  have HBL := Lib.hid (below_new w (.cells #[.string room, .slice Av xs.length cv] 26))
  have HE := Lib.hid h
  have HV := Lib.hid hv
  have hsz0 : (w.alloc (.cells #[.string room, .slice Av xs.length cv] 26)).heap.size = w.heap.size + 1 := by simp
  clear h h3 hv
  go_enter Tryz.func20, Tryz.ntmps20
  go_upto_region 1 with (fail)
  generalize w.alloc _ = w1 at HX HBL hsz0 ⊢
  generalize hB4 : w.heap.size = B4 at HX ⊢
  have d0 : w1.cell? ⟨B4, 0, none⟩ = some (.string room) := cell_at HX.out 0
  have d1 : w1.cell? ⟨B4, 1, none⟩ = some (.slice Av xs.length cv) := cell_at HX.out 1
  have HQ := Lib.hid (refAll_any room _ xs w1 (HE.out.below HBL.out) HV.out (by omega))
  go_wp2_with fail
  go_at_call 36
  refine HQ.out.mono ?_
  rintro e w2 ⟨vy, ys, rfl, my, hey, hmem, b2⟩
  have HMY := Lib.hid my
  have HEY := Lib.hid hey
  have HX1 := Lib.hid ((b2.block B4 (smem_lt HX.out)).trans HX.out)
  have HB2 := Lib.hid (HBL.out.trans (b2.mono HBL.out.size))
  have HMEM := Lib.hid hmem
  have hyl : ys.length = xs.length := by rw [← evs_len ys, hey, allL_len, evs_len]
  have hyn : ys.length ≤ 900 := by omega
  have HYL := Lib.hid hyl
  obtain ⟨Ay, cy, rfl, hz1, hz2, -⟩ := my.shape
  unfold maxLen at hz2
  have HAH : Hid (∀ (p q : ByteArray) (W : World), p.size ≤ maxLen → Below w2.heap.size w2 W → Calls Tryz.prog 13 #[.agg #[.string room, .slice Av xs.length cv], .string p, .string q] W fun e w' => e = .returned (.bool (aheadB (evs xs) p q)) ∧ Below W.heap.size W w') := Lib.hid (fun p q W hp hb => refAhead_any room _ xs p HV.out (by omega) hp _ q W (Nat.le_refl _) (HE.out.below (HB2.out.trans (hb.mono HB2.out.size))))
  have HIDS : Hid (∀ y ∈ ys, y.ev.id.size ≤ maxLen) := Lib.hid (fun y hy => (HE.out.2 y (hmem y hy)).2.1)
  clear my hey hmem b2 HQ d0 d1 HX HBL hyl
  go_wp2_with fail
  go_loopw [10, 11] (fun u i wr => ∃ (c : Nat) (ts : List ByteArray) (Ao : Option Addr) (co : Nat), u = .slice Ao ts.length co ∧ i = .int .i64 (c : Int) ∧ c ≤ ys.length ∧ ts.length ≤ c ∧ Hid (HdS w2 wr u ts) ∧ Hid (ts = filTo (fun id => aheadB (evs xs) id a) ((evs ys).map Ev.id) c)) (fun _ i _ => ys.length - (intOf i).toNat)
  case atStart => exact ⟨0, [], none, 0, rfl, rfl, Nat.zero_le _, Nat.le_refl _, Lib.hid ⟨Below.refl _ _, .inl ⟨rfl, rfl⟩⟩, Lib.hid rfl⟩
  case round =>
      obtain ⟨c, ts, Ao, co, rfl, rfl, hc, htc, HO, HT⟩ := hrel
      by_cases hcx : c < ys.length
      · have q1 : decide ((c : Int) < (ys.length : Int)) = true := decide_eq_true (by omega)
        have hy : ys[c]? = some ys[c] := List.getElem?_eq_getElem hcx
        generalize ys[c] = y at hy
        have HTS := Lib.hid (filTo_succ (p := fun id => aheadB (evs xs) id a) (R := (evs ys).map Ev.id) (n := c) (x := y.ev.id) (by rw [List.getElem?_map, evs_get hy]; rfl))
        have hyid := HIDS.out y (List.mem_of_getElem? hy)
        obtain ⟨bo, oo, rfl, hbo, hro⟩ := HMY.out.slice.at hy
        have hiy := index_any (P := Tryz.prog) knV (by decide) (b := bo) (off := oo) (cap := cy) hcx
        simp only [LV] at hiy hro
        have e0 : wr.cell? ⟨bo, oo + c * 6, none⟩ = some (.string y.ev.id) := (HO.out.below.cell (p := ⟨bo, oo + c * 6, none⟩) hbo).trans (hro 0 _ rfl)
        clear hy hro
        have HQ1 := Lib.hid (HAH.out y.ev.id a wr hyid HO.out.below)
        generalize hq1 : aheadB (evs xs) y.ev.id a = ab at HQ1
        have d0 : wr.cell? ⟨B4, 0, none⟩ = some (.string room) := cell_at ((HO.out.below.block B4 (smem_lt HX1.out)).trans HX1.out) 0
        have d1 : wr.cell? ⟨B4, 1, none⟩ = some (.slice Av xs.length cv) := cell_at ((HO.out.below.block B4 (smem_lt HX1.out)).trans HX1.out) 1
        go_wp2_with fail
        go_at_call 13
        refine HQ1.out.mono ?_
        rintro e wq ⟨rfl, b1⟩
        have HO1 := Lib.hid (HO.out.on b1)
        clear b1 HQ1 HO d0 d1
        cases ab with
        | false =>
          go_wp2_with fail
          refine ⟨⟨c + 1, ts, Ao, co, rfl, by go_num, by omega, by omega, HO1, Lib.hid (by rw [HTS.out, ← HT.out]; simp [hq1])⟩, ?_⟩
          simp [intOf]; omega
        | true =>
          have hlit1 := Lib.hid (show LT.Slice (wq.alloc (.cells #[.string y.ev.id] 9)) (.slice (some ⟨wq.heap.size, 0, none⟩) 1 1) [y.ev.id] from lit_slice (L := LT) wq y.ev.id wq.heap.size rfl #[.string y.ev.id] rfl)
          have hb1 := below_new wq (.cells #[.string y.ev.id] 9)
          have HA1 := Lib.hid (HO1.out.on hb1)
          have hs1 : w2.heap.size ≤ (wq.alloc (.cells #[.string y.ev.id] 9)).heap.size := HA1.out.below.size
          clear hb1
          go_wp2_with (at_builtin; refine wpList_puts rfl knT (.tmp 55) (.tmp 57) 39 rfl (v := .slice Ao ts.length co) rfl HA1.out.row hs1 (.slice (some ⟨wq.heap.size, 0, none⟩) 1 1) [y.ev.id] 1 rfl rfl (hlit1.out.srcN knT rfl) (by omega) ?_; intro A1 c1 w5 m1 g1 o1; have H1 : Hid (HdS w2 w5 (.slice A1 (ts.length + 1) c1) (ts ++ [y.ev.id])) := Lib.hid ⟨HA1.out.below.grown g1 hs1 (fun k hk => (HA1.out.row.lt k hk).1), m1⟩; clear m1 g1 o1)
          refine ⟨⟨c + 1, ts ++ [y.ev.id], A1, c1, by rw [List.length_append]; rfl, by go_num, by omega, by rw [List.length_append]; simp only [List.length_cons, List.length_nil]; omega, H1, Lib.hid (by rw [HTS.out, ← HT.out]; simp [hq1])⟩, ?_⟩
          simp [intOf]; omega
      · have q1 : decide ((c : Int) < (ys.length : Int)) = false := decide_eq_false (by omega)
        obtain rfl : c = ys.length := by omega
        have HF : Hid (ts = ancL (evs xs) a) := Lib.hid (by rw [HT.out, filTo, List.take_of_length_le (by rw [List.length_map, evs_len]; exact Nat.le_refl _), HEY.out, anc_fil])
        go_wp2_with fail
        go_ret
        exact ⟨_, rfl, by rw [← HF.out]; exact HO.out.row.mono HB2.out.size, HB2.out.trans (HO.out.below.mono HB2.out.size)⟩

set_option maxHeartbeats 3200000 in
theorem refWhich1_any (room : ByteArray) (v : Value) (xs : List EvV) (a b : ByteArray) (w : World) (h : EvsS w v xs) (hv : Valid room (evs xs)) (hl : xs.length ≤ 900) (ha : a.size ≤ maxLen) (hb : b.size ≤ maxLen) :
    Calls Tryz.prog 20 #[.agg #[.string room, v], .int .i64 1, .string a, .string b] w fun e w' => ∃ v', e = .returned v' ∧ LT.Mine w' w.heap.size v' (behindL (evs xs) a) ∧ Below w.heap.size w w' := by
  obtain ⟨Av, cv, rfl, h1, h2, h3, _⟩ := id h.1
  unfold maxLen at h2
  have HX := Lib.hid (heap_alloc_new w (.cells #[.string room, .slice Av xs.length cv] 26))
  have HBL := Lib.hid (below_new w (.cells #[.string room, .slice Av xs.length cv] 26))
  have HE := Lib.hid h
  have HV := Lib.hid hv
  have hsz0 : (w.alloc (.cells #[.string room, .slice Av xs.length cv] 26)).heap.size = w.heap.size + 1 := by simp
  clear h h3 hv
  go_enter Tryz.func20, Tryz.ntmps20
  go_upto_region 1 with (fail)
  generalize w.alloc _ = w1 at HX HBL hsz0 ⊢
  generalize hB4 : w.heap.size = B4 at HX ⊢
  have d0 : w1.cell? ⟨B4, 0, none⟩ = some (.string room) := cell_at HX.out 0
  have d1 : w1.cell? ⟨B4, 1, none⟩ = some (.slice Av xs.length cv) := cell_at HX.out 1
  have HQ := Lib.hid (refAll_any room _ xs w1 (HE.out.below HBL.out) HV.out (by omega))
  go_wp2_with fail
  go_at_call 36
  refine HQ.out.mono ?_
  rintro e w2 ⟨vy, ys, rfl, my, hey, hmem, b2⟩
  have HMY := Lib.hid my
  have HEY := Lib.hid hey
  have HX1 := Lib.hid ((b2.block B4 (smem_lt HX.out)).trans HX.out)
  have HB2 := Lib.hid (HBL.out.trans (b2.mono HBL.out.size))
  have HMEM := Lib.hid hmem
  have hyl : ys.length = xs.length := by rw [← evs_len ys, hey, allL_len, evs_len]
  have hyn : ys.length ≤ 900 := by omega
  have HYL := Lib.hid hyl
  obtain ⟨Ay, cy, rfl, hz1, hz2, -⟩ := my.shape
  unfold maxLen at hz2
  have HAH : Hid (∀ (p q : ByteArray) (W : World), p.size ≤ maxLen → Below w2.heap.size w2 W → Calls Tryz.prog 13 #[.agg #[.string room, .slice Av xs.length cv], .string p, .string q] W fun e w' => e = .returned (.bool (aheadB (evs xs) p q)) ∧ Below W.heap.size W w') := Lib.hid (fun p q W hp hb => refAhead_any room _ xs p HV.out (by omega) hp _ q W (Nat.le_refl _) (HE.out.below (HB2.out.trans (hb.mono HB2.out.size))))
  have HIDS : Hid (∀ y ∈ ys, y.ev.id.size ≤ maxLen) := Lib.hid (fun y hy => (HE.out.2 y (hmem y hy)).2.1)
  clear my hey hmem b2 HQ d0 d1 HX HBL hyl
  go_wp2_with fail
  go_loopw [10, 11] (fun u i wr => ∃ (c : Nat) (ts : List ByteArray) (Ao : Option Addr) (co : Nat), u = .slice Ao ts.length co ∧ i = .int .i64 (c : Int) ∧ c ≤ ys.length ∧ ts.length ≤ c ∧ Hid (HdS w2 wr u ts) ∧ Hid (ts = filTo (fun id => aheadB (evs xs) a id) ((evs ys).map Ev.id) c)) (fun _ i _ => ys.length - (intOf i).toNat)
  case atStart => exact ⟨0, [], none, 0, rfl, rfl, Nat.zero_le _, Nat.le_refl _, Lib.hid ⟨Below.refl _ _, .inl ⟨rfl, rfl⟩⟩, Lib.hid rfl⟩
  case round =>
      obtain ⟨c, ts, Ao, co, rfl, rfl, hc, htc, HO, HT⟩ := hrel
      by_cases hcx : c < ys.length
      · have q1 : decide ((c : Int) < (ys.length : Int)) = true := decide_eq_true (by omega)
        have hy : ys[c]? = some ys[c] := List.getElem?_eq_getElem hcx
        generalize ys[c] = y at hy
        have HTS := Lib.hid (filTo_succ (p := fun id => aheadB (evs xs) a id) (R := (evs ys).map Ev.id) (n := c) (x := y.ev.id) (by rw [List.getElem?_map, evs_get hy]; rfl))
        have hyid := HIDS.out y (List.mem_of_getElem? hy)
        obtain ⟨bo, oo, rfl, hbo, hro⟩ := HMY.out.slice.at hy
        have hiy := index_any (P := Tryz.prog) knV (by decide) (b := bo) (off := oo) (cap := cy) hcx
        simp only [LV] at hiy hro
        have e0 : wr.cell? ⟨bo, oo + c * 6, none⟩ = some (.string y.ev.id) := (HO.out.below.cell (p := ⟨bo, oo + c * 6, none⟩) hbo).trans (hro 0 _ rfl)
        clear hy hro
        have HQ1 := Lib.hid (HAH.out a y.ev.id wr ha HO.out.below)
        generalize hq1 : aheadB (evs xs) a y.ev.id = ab at HQ1
        have d0 : wr.cell? ⟨B4, 0, none⟩ = some (.string room) := cell_at ((HO.out.below.block B4 (smem_lt HX1.out)).trans HX1.out) 0
        have d1 : wr.cell? ⟨B4, 1, none⟩ = some (.slice Av xs.length cv) := cell_at ((HO.out.below.block B4 (smem_lt HX1.out)).trans HX1.out) 1
        go_wp2_with fail
        go_at_call 13
        refine HQ1.out.mono ?_
        rintro e wq ⟨rfl, b1⟩
        have HO1 := Lib.hid (HO.out.on b1)
        clear b1 HQ1 HO d0 d1
        cases ab with
        | false =>
          go_wp2_with fail
          refine ⟨⟨c + 1, ts, Ao, co, rfl, by go_num, by omega, by omega, HO1, Lib.hid (by rw [HTS.out, ← HT.out]; simp [hq1])⟩, ?_⟩
          simp [intOf]; omega
        | true =>
          have hlit1 := Lib.hid (show LT.Slice (wq.alloc (.cells #[.string y.ev.id] 9)) (.slice (some ⟨wq.heap.size, 0, none⟩) 1 1) [y.ev.id] from lit_slice (L := LT) wq y.ev.id wq.heap.size rfl #[.string y.ev.id] rfl)
          have hb1 := below_new wq (.cells #[.string y.ev.id] 9)
          have HA1 := Lib.hid (HO1.out.on hb1)
          have hs1 : w2.heap.size ≤ (wq.alloc (.cells #[.string y.ev.id] 9)).heap.size := HA1.out.below.size
          clear hb1
          go_wp2_with (at_builtin; refine wpList_puts rfl knT (.tmp 55) (.tmp 57) 39 rfl (v := .slice Ao ts.length co) rfl HA1.out.row hs1 (.slice (some ⟨wq.heap.size, 0, none⟩) 1 1) [y.ev.id] 1 rfl rfl (hlit1.out.srcN knT rfl) (by omega) ?_; intro A1 c1 w5 m1 g1 o1; have H1 : Hid (HdS w2 w5 (.slice A1 (ts.length + 1) c1) (ts ++ [y.ev.id])) := Lib.hid ⟨HA1.out.below.grown g1 hs1 (fun k hk => (HA1.out.row.lt k hk).1), m1⟩; clear m1 g1 o1)
          refine ⟨⟨c + 1, ts ++ [y.ev.id], A1, c1, by rw [List.length_append]; rfl, by go_num, by omega, by rw [List.length_append]; simp only [List.length_cons, List.length_nil]; omega, H1, Lib.hid (by rw [HTS.out, ← HT.out]; simp [hq1])⟩, ?_⟩
          simp [intOf]; omega
      · have q1 : decide ((c : Int) < (ys.length : Int)) = false := decide_eq_false (by omega)
        obtain rfl : c = ys.length := by omega
        have HF : Hid (ts = behindL (evs xs) a) := Lib.hid (by rw [HT.out, filTo, List.take_of_length_le (by rw [List.length_map, evs_len]; exact Nat.le_refl _), HEY.out, beh_fil])
        go_wp2_with fail
        go_ret
        exact ⟨_, rfl, by rw [← HF.out]; exact HO.out.row.mono HB2.out.size, HB2.out.trans (HO.out.below.mono HB2.out.size)⟩

set_option maxHeartbeats 3200000 in
theorem refWhich2_any (room : ByteArray) (v : Value) (xs : List EvV) (a b : ByteArray) (w : World) (h : EvsS w v xs) (hv : Valid room (evs xs)) (hl : xs.length ≤ 900) (ha : a.size ≤ maxLen) (hb : b.size ≤ maxLen) :
    Calls Tryz.prog 20 #[.agg #[.string room, v], .int .i64 2, .string a, .string b] w fun e w' => ∃ v', e = .returned v' ∧ LT.Mine w' w.heap.size v' (commonL (evs xs) a b) ∧ Below w.heap.size w w' := by
  obtain ⟨Av, cv, rfl, h1, h2, h3, _⟩ := id h.1
  unfold maxLen at h2
  have HX := Lib.hid (heap_alloc_new w (.cells #[.string room, .slice Av xs.length cv] 26))
  have HBL := Lib.hid (below_new w (.cells #[.string room, .slice Av xs.length cv] 26))
  have HE := Lib.hid h
  have HV := Lib.hid hv
  have hsz0 : (w.alloc (.cells #[.string room, .slice Av xs.length cv] 26)).heap.size = w.heap.size + 1 := by simp
  clear h h3 hv
  go_enter Tryz.func20, Tryz.ntmps20
  go_upto_region 1 with (fail)
  generalize w.alloc _ = w1 at HX HBL hsz0 ⊢
  generalize hB4 : w.heap.size = B4 at HX ⊢
  have d0 : w1.cell? ⟨B4, 0, none⟩ = some (.string room) := cell_at HX.out 0
  have d1 : w1.cell? ⟨B4, 1, none⟩ = some (.slice Av xs.length cv) := cell_at HX.out 1
  have HQ := Lib.hid (refAll_any room _ xs w1 (HE.out.below HBL.out) HV.out (by omega))
  go_wp2_with fail
  go_at_call 36
  refine HQ.out.mono ?_
  rintro e w2 ⟨vy, ys, rfl, my, hey, hmem, b2⟩
  have HMY := Lib.hid my
  have HEY := Lib.hid hey
  have HX1 := Lib.hid ((b2.block B4 (smem_lt HX.out)).trans HX.out)
  have HB2 := Lib.hid (HBL.out.trans (b2.mono HBL.out.size))
  have HMEM := Lib.hid hmem
  have hyl : ys.length = xs.length := by rw [← evs_len ys, hey, allL_len, evs_len]
  have hyn : ys.length ≤ 900 := by omega
  have HYL := Lib.hid hyl
  obtain ⟨Ay, cy, rfl, hz1, hz2, -⟩ := my.shape
  unfold maxLen at hz2
  have HAH : Hid (∀ (p q : ByteArray) (W : World), p.size ≤ maxLen → Below w2.heap.size w2 W → Calls Tryz.prog 13 #[.agg #[.string room, .slice Av xs.length cv], .string p, .string q] W fun e w' => e = .returned (.bool (aheadB (evs xs) p q)) ∧ Below W.heap.size W w') := Lib.hid (fun p q W hp hb => refAhead_any room _ xs p HV.out (by omega) hp _ q W (Nat.le_refl _) (HE.out.below (HB2.out.trans (hb.mono HB2.out.size))))
  have HIDS : Hid (∀ y ∈ ys, y.ev.id.size ≤ maxLen) := Lib.hid (fun y hy => (HE.out.2 y (hmem y hy)).2.1)
  clear my hey hmem b2 HQ d0 d1 HX HBL hyl
  go_wp2_with fail
  go_loopw [10, 11] (fun u i wr => ∃ (c : Nat) (ts : List ByteArray) (Ao : Option Addr) (co : Nat), u = .slice Ao ts.length co ∧ i = .int .i64 (c : Int) ∧ c ≤ ys.length ∧ ts.length ≤ c ∧ Hid (HdS w2 wr u ts) ∧ Hid (ts = filTo (fun id => aheadB (evs xs) id a && aheadB (evs xs) id b) ((evs ys).map Ev.id) c)) (fun _ i _ => ys.length - (intOf i).toNat)
  case atStart => exact ⟨0, [], none, 0, rfl, rfl, Nat.zero_le _, Nat.le_refl _, Lib.hid ⟨Below.refl _ _, .inl ⟨rfl, rfl⟩⟩, Lib.hid rfl⟩
  case round =>
      obtain ⟨c, ts, Ao, co, rfl, rfl, hc, htc, HO, HT⟩ := hrel
      by_cases hcx : c < ys.length
      · have q1 : decide ((c : Int) < (ys.length : Int)) = true := decide_eq_true (by omega)
        have hy : ys[c]? = some ys[c] := List.getElem?_eq_getElem hcx
        generalize ys[c] = y at hy
        have HTS := Lib.hid (filTo_succ (p := fun id => aheadB (evs xs) id a && aheadB (evs xs) id b) (R := (evs ys).map Ev.id) (n := c) (x := y.ev.id) (by rw [List.getElem?_map, evs_get hy]; rfl))
        have hyid := HIDS.out y (List.mem_of_getElem? hy)
        obtain ⟨bo, oo, rfl, hbo, hro⟩ := HMY.out.slice.at hy
        have hiy := index_any (P := Tryz.prog) knV (by decide) (b := bo) (off := oo) (cap := cy) hcx
        simp only [LV] at hiy hro
        have e0 : wr.cell? ⟨bo, oo + c * 6, none⟩ = some (.string y.ev.id) := (HO.out.below.cell (p := ⟨bo, oo + c * 6, none⟩) hbo).trans (hro 0 _ rfl)
        clear hy hro
        have HQ1 := Lib.hid (HAH.out y.ev.id a wr hyid HO.out.below)
        generalize hq1 : aheadB (evs xs) y.ev.id a = ab at HQ1
        have d0 : wr.cell? ⟨B4, 0, none⟩ = some (.string room) := cell_at ((HO.out.below.block B4 (smem_lt HX1.out)).trans HX1.out) 0
        have d1 : wr.cell? ⟨B4, 1, none⟩ = some (.slice Av xs.length cv) := cell_at ((HO.out.below.block B4 (smem_lt HX1.out)).trans HX1.out) 1
        go_wp2_with fail
        go_at_call 13
        refine HQ1.out.mono ?_
        rintro e wq ⟨rfl, b1⟩
        have HO1 := Lib.hid (HO.out.on b1)
        clear b1 HQ1 HO d0 d1
        have HQ2 := Lib.hid (HAH.out y.ev.id b wq hyid HO1.out.below)
        generalize hq2 : aheadB (evs xs) y.ev.id b = bb at HQ2
        have d0 : wq.cell? ⟨B4, 0, none⟩ = some (.string room) := cell_at ((HO1.out.below.block B4 (smem_lt HX1.out)).trans HX1.out) 0
        have d1 : wq.cell? ⟨B4, 1, none⟩ = some (.slice Av xs.length cv) := cell_at ((HO1.out.below.block B4 (smem_lt HX1.out)).trans HX1.out) 1
        go_wp2_with fail
        go_at_call 13
        refine HQ2.out.mono ?_
        rintro e wq2 ⟨rfl, b2⟩
        have HO12 := Lib.hid (HO1.out.on b2)
        clear b2 HQ2 HO1 d0 d1
        cases ab with
        | false =>
          go_wp2_with fail
          refine ⟨⟨c + 1, ts, Ao, co, rfl, by go_num, by omega, by omega, HO12, Lib.hid (by rw [HTS.out, ← HT.out]; simp [hq1])⟩, ?_⟩
          simp [intOf]; omega
        | true =>
          cases bb with
          | false =>
            go_wp2_with fail
            refine ⟨⟨c + 1, ts, Ao, co, rfl, by go_num, by omega, by omega, HO12, Lib.hid (by rw [HTS.out, ← HT.out]; simp [hq1, hq2])⟩, ?_⟩
            simp [intOf]; omega
          | true =>
            have hlit1 := Lib.hid (show LT.Slice (wq2.alloc (.cells #[.string y.ev.id] 9)) (.slice (some ⟨wq2.heap.size, 0, none⟩) 1 1) [y.ev.id] from lit_slice (L := LT) wq2 y.ev.id wq2.heap.size rfl #[.string y.ev.id] rfl)
            have hb1 := below_new wq2 (.cells #[.string y.ev.id] 9)
            have HA1 := Lib.hid (HO12.out.on hb1)
            have hs1 : w2.heap.size ≤ (wq2.alloc (.cells #[.string y.ev.id] 9)).heap.size := HA1.out.below.size
            clear hb1
            go_wp2_with (at_builtin; refine wpList_puts rfl knT (.tmp 55) (.tmp 57) 39 rfl (v := .slice Ao ts.length co) rfl HA1.out.row hs1 (.slice (some ⟨wq2.heap.size, 0, none⟩) 1 1) [y.ev.id] 1 rfl rfl (hlit1.out.srcN knT rfl) (by omega) ?_; intro A1 c1 w5 m1 g1 o1; have H1 : Hid (HdS w2 w5 (.slice A1 (ts.length + 1) c1) (ts ++ [y.ev.id])) := Lib.hid ⟨HA1.out.below.grown g1 hs1 (fun k hk => (HA1.out.row.lt k hk).1), m1⟩; clear m1 g1 o1)
            refine ⟨⟨c + 1, ts ++ [y.ev.id], A1, c1, by rw [List.length_append]; rfl, by go_num, by omega, by rw [List.length_append]; simp only [List.length_cons, List.length_nil]; omega, H1, Lib.hid (by rw [HTS.out, ← HT.out]; simp [hq1, hq2])⟩, ?_⟩
            simp [intOf]; omega
      · have q1 : decide ((c : Int) < (ys.length : Int)) = false := decide_eq_false (by omega)
        obtain rfl : c = ys.length := by omega
        have HF : Hid (ts = commonL (evs xs) a b) := Lib.hid (by rw [HT.out, filTo, List.take_of_length_le (by rw [List.length_map, evs_len]; exact Nat.le_refl _), HEY.out, com_fil])
        go_wp2_with fail
        go_ret
        exact ⟨_, rfl, by rw [← HF.out]; exact HO.out.row.mono HB2.out.size, HB2.out.trans (HO.out.below.mono HB2.out.size)⟩
end Go.Proofs.YtfbfdkibdjinaaaGreatDoor
