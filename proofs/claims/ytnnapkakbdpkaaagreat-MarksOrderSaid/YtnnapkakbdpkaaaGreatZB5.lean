/-
  What the statements stand on, part ZB5.
-/
import Derived.Test.YtnnapkakbdpkaaaGreatZB1
import Derived.Test.YtnnapkakbdpkaaaGreatZB3
import Derived.Test.YtnnapkakbdpkaaaGreatZB4
set_option linter.unusedVariables false
set_option linter.unusedSimpArgs false
namespace Go.Proofs.YtnnapkakbdpkaaaGreat
set_option maxRecDepth 20000
open Go.RowKit
theorem addY_foot {w : World} {v v' : Value} {xs xs' : List EvV} {x : EvV} (hx : xs' = xs ∨ xs' = xs ++ [x]) (hl : ∀ k, 0 < xs'.length → v'.ownBlock = some k → (0 < xs.length ∧ v.ownBlock = some k) ∨ w.heap.size ≤ k) {k : Nat} (hk : footE v' xs' k) : footE v xs k ∨ footV x k ∨ w.heap.size ≤ k := by
 rcases hk with ⟨h0, hk⟩ | ⟨y, hy, hk⟩
 ·rcases hl k h0 hk with hh | hh
  ·exact .inl (.inl hh)
  ·exact .inr (.inr hh)
 ·rcases hx with rfl | rfl
  ·exact .inl (.inr ⟨y, hy, hk⟩)
  ·rcases List.mem_append.1 hy with hy | hy
   ·exact .inl (.inr ⟨y, hy, hk⟩)
   ·rw [List.mem_singleton.1 hy] at hk
    exact .inr (.inl hk)
theorem of_foot {v : Value} {ds : List DV} {d : DV} {room : ByteArray} (hm : d ∈ ds ∨ d = noDV room) {k : Nat} (hk : footE d.lv d.xs k) : footD v ds k := by
 rcases hm with hm | rfl
 ·exact .inr ⟨d, hm, hk⟩
 ·rcases hk with ⟨h0, -⟩ | ⟨y, hy, -⟩
  ·exact absurd h0 (Nat.lt_irrefl 0)
  ·cases hy
theorem lit_D (w : World) (d : DV) : LD.Slice (w.alloc (.cells #[.string d.room, .slice d.A d.xs.length d.cap] 93)) (.slice (some ⟨w.heap.size, 0, none⟩) 1 1) [d] := lit_slice (L := LD) w d w.heap.size rfl #[.string d.room, .slice d.A d.xs.length d.cap] rfl
theorem one_at {W : World} {B : Nat} {c0 : Value} {t : TypeId} (hr : W.heap[B]? = some (.cells #[c0] t (0, 0))) (a0 : Value) : ∀ W', W' = W.setCell ⟨B, 0, none⟩ a0 → W'.heap[B]? = some (.cells #[a0] t (0, 0)) ∧ W.grownBy W' (some B) := by
 rintro W' rfl
 exact ⟨by rw [heap_set hr]; rfl, sm_grown W B 0 [a0]⟩
structure A10 (w wr : World) (v : Value) (ds : List DV) (x : EvV) (B2 B3 B4 B6 : Nat) (d : DV) : Prop where
 b2 : wr.heap[B2]? = some (.cells #[v] 39 (0, 0))
 b3 : wr.heap[B3]? = some (.cells #[.string x.ev.id, .string x.ev.room, x.pv, .string x.ev.thread, .string x.ev.user, .int .i64 x.ev.does] 52 (0, 0))
 b4 : wr.heap[B4]? = some (.cells #[.slice none 0 0] 39 (0, 0))
 b6 : wr.heap[B6]? = some (.cells #[.string d.room, d.lv] 93 (0, 0))
 below : Below w.heap.size w wr
 base : w.heap.size ≤ B4
 evs : EvsS wr d.lv d.xs
 room : d.room = x.ev.room
 is : Go.Proofs.YtnnapkakbdpkaaaGreat.evs d.xs = addA x.ev.room (ofL (vws ds) x.ev.room) x.ev
 foot : ∀ k, footE d.lv d.xs k → footD v ds k ∨ footV x k ∨ w.heap.size ≤ k
 far : ∀ k, footE d.lv d.xs k → k ≠ B4
theorem three_boxes (w : World) (v : Value) (x : EvV) : ∀ W, W = ((w.alloc (.cells #[v] 39)).alloc (.cells #[.string x.ev.id, .string x.ev.room, x.pv, .string x.ev.thread, .string x.ev.user, .int .i64 x.ev.does] 52)).alloc (.cells #[.slice none 0 0] 39) →
  W.heap[w.heap.size]? = some (.cells #[v] 39 (0, 0)) ∧ W.heap[w.heap.size + 1]? = some (.cells #[.string x.ev.id, .string x.ev.room, x.pv, .string x.ev.thread, .string x.ev.user, .int .i64 x.ev.does] 52 (0, 0)) ∧ W.heap[w.heap.size + 1 + 1]? = some (.cells #[.slice none 0 0] 39 (0, 0)) ∧ Below w.heap.size w W := by
 rintro W rfl
 have h2 := heap_alloc_new w (.cells #[v] 39)
 have h3 := heap_alloc_new (w.alloc (.cells #[v] 39)) (.cells #[.string x.ev.id, .string x.ev.room, x.pv, .string x.ev.thread, .string x.ev.user, .int .i64 x.ev.does] 52)
 have h4 := heap_alloc_new ((w.alloc (.cells #[v] 39)).alloc (.cells #[.string x.ev.id, .string x.ev.room, x.pv, .string x.ev.thread, .string x.ev.user, .int .i64 x.ev.does] 52)) (.cells #[.slice none 0 0] 39)
 have s1 : ∀ (u : World) (o : Obj), (u.alloc o).heap.size = u.heap.size + 1 := fun u o => by simp
 rw [s1] at h3
 rw [s1, s1] at h4
 refine ⟨?_, ?_, h4, ((Gr.refl w).alloc _ |>.alloc _ |>.alloc _).below⟩
 ·rw [heap_alloc_old _ _ (by rw [s1, s1]; omega), heap_alloc_old _ _ (by rw [s1]; omega)]
  exact h2
 ·rw [heap_alloc_old _ _ (by rw [s1, s1]; omega)]
  exact h3
set_option maxHeartbeats 6400000 in
theorem refAdd10_any (v : Value) (ds : List DV) (x : EvV) (w : World) (h : DsS w v ds) (hx : x.at w) (hl : ds.length ≤ 200) (hdl : ∀ d ∈ ds, d.xs.length ≤ 500) :
  Calls Tryz.prog 17 #[.agg #[v], x.val] w fun e w' => ∃ v' ds', e = .returned (.tuple #[.agg #[v'], .int .i64 (errV (vws ds) x.ev)]) ∧ DsS w' v' ds' ∧ vws ds' = addV (vws ds) x.ev ∧ (∀ k, footD v' ds' k → footD v ds k ∨ footV x k ∨ w.heap.size ≤ k) ∧ Below w.heap.size w w' := by
 obtain ⟨A, cap, rfl, h1, h2, -⟩ := id h.1
 obtain ⟨Ap, capp, hpv, hp1, hp2, -⟩ := id hx.1
 unfold maxLen at h2
 have HD := Lib.hid h
 have HX := Lib.hid hx
 have HOLD : Hid ((∀ k, footD (.slice A ds.length cap) ds k → k < w.heap.size) ∧ ∀ k, footV x k → k < w.heap.size) := Lib.hid ⟨fun k hk => h.foot hk, fun k hk => hx.foot hk⟩
 have HT := Lib.hid (three_boxes w (.slice A ds.length cap) x _ rfl)
 clear h hx hpv hp1 hp2
 unfold EvV.val
 unfold EvV.pv at HT ⊢
 go_enter Tryz.func17, Tryz.ntmps17
 go_upto_region 1 with (fail)
 generalize World.alloc _ _ = w2 at HT ⊢
 have HL24 : Hid (w.heap.size ≠ w.heap.size + 1 + 1 ∧ w.heap.size ≤ w.heap.size + 1 + 1 ∧ w.heap.size + 1 ≠ w.heap.size + 1 + 1) := Lib.hid ⟨by omega, by omega, by omega⟩
 generalize hB4 : w.heap.size + 1 + 1 = B4 at HT HL24 ⊢
 generalize hB3 : w.heap.size + 1 = B3 at HT HL24 ⊢
 clear hB4 hB3
 have HBW := Lib.hid HT.out.2.2.2
 have HX2 := Lib.hid HT.out.1
 have HX3 := Lib.hid HT.out.2.1
 have HX4 := Lib.hid HT.out.2.2.1
 clear HT
 generalize hB2 : w.heap.size = B2 at HX2 HL24 ⊢
 have HBB := Lib.hid hB2
 clear hB2
 go_cut [6, 7] from 11 to 19 (fun s6 s7 wx => ∃ B6, s6 = .pointer (some ⟨B6, 0, none⟩) ∧ s7 = .int .i64 (errV (vws ds) x.ev) ∧ Hid (∃ d, A10 w wx (.slice A ds.length cap) ds x B2 B3 B4 B6 d))
 case first =>
  have HBS : Hid (∀ W, Below w2.heap.size w2 W → W.heap[B2]? = some (.cells #[.slice A ds.length cap] 39 (0, 0)) ∧ W.heap[B3]? = some (.cells #[.string x.ev.id, .string x.ev.room, .slice x.A x.ev.parents.length x.cap, .string x.ev.thread, .string x.ev.user, .int .i64 x.ev.does] 52 (0, 0)) ∧ W.heap[B4]? = some (.cells #[.slice none 0 0] 39 (0, 0)) ∧ DsS W (.slice A ds.length cap) ds ∧ x.at W ∧ Below w.heap.size w W) := Lib.hid (fun W hb => ⟨(hb.block B2 (smem_lt HX2.out)).trans HX2.out, (hb.block B3 (smem_lt HX3.out)).trans HX3.out, (hb.block B4 (smem_lt HX4.out)).trans HX4.out, (HD.out.below HBW.out).below hb, (HX.out.below HBW.out).below hb, HBW.out.trans (hb.mono HBW.out.size)⟩)
  have HOF := Lib.hid (fun W (hb : Below w2.heap.size w2 W) => refOf_any (.slice A ds.length cap) ds x.ev.room W (HBS.out W hb).2.2.2.1 (by omega))
  have HAD := Lib.hid (fun W (hb : Below w2.heap.size w2 W) (d : DV) (hd : EvsS W d.lv d.xs) (hdl : d.xs.length ≤ 1000) => refAddY_any d.room d.lv d.xs x W hd (HBS.out W hb).2.2.2.2.1 hdl)
  unfold DV.val DV.lv at HOF
  unfold EvV.val EvV.pv at HAD
  unfold DV.lv at HAD
  refine wp_region_held_drew (S := fun W => Below w2.heap.size w2 W) (by kernel_rfl) (Below.refl _ _).drew (fun hHeld => ?_)
  generalize w2.drew = wd at hHeld ⊢
  have c0s := fun W (hb : Below w2.heap.size w2 W) => (HBS.out W hb)
  refine wpAnyH_take (i := 0) (oi := ⟨some 12, _, _, _, _, _⟩) (v := ?vq0) rfl (by kernel_rfl) (by kernel_rfl) (by kernel_rfl) (fun _ _ _ h => h) (Or.inl ⟨by rfl, ?yq0⟩) hHeld ?rq0
  case yq0 =>
   intro wx hSx
   have z : wx.cell? ⟨B2, 0, none⟩ = some (.slice A ds.length cap) := cell_at (HBS.out _ hSx).1 0
   go_simp
   try with_reducible rfl
  try simp only [actS]
  refine wpAnyH_take (i := 1) (oi := ⟨some 13, _, _, _, _, _⟩) (v := ?vq1) rfl (by kernel_rfl) (by kernel_rfl) (by kernel_rfl) (fun _ _ _ h => h) (Or.inl ⟨by rfl, ?yq1⟩) hHeld ?rq1
  case yq1 =>
   intro wx hSx
   go_simp
   try with_reducible rfl
  try simp only [actS]
  refine wpAnyH_take (i := 2) (oi := ⟨some 14, _, _, _, _, _⟩) (v := ?vq2) rfl (by kernel_rfl) (by kernel_rfl) (by kernel_rfl) (fun _ _ _ h => h) (Or.inl ⟨by rfl, ?yq2⟩) hHeld ?rq2
  case yq2 =>
   intro wx hSx
   have z : wx.cell? ⟨B3, 1, none⟩ = some (.string x.ev.room) := cell_at (HBS.out _ hSx).2.1 1
   go_simp
   try with_reducible rfl
  try simp only [actS]
  refine wpAnyH_take (i := 4) (oi := ⟨some 16, _, _, _, _, _⟩) (v := ?vq4) rfl (by kernel_rfl) (by kernel_rfl) (by kernel_rfl) (fun _ _ _ h => h) (Or.inl ⟨by rfl, ?yq4⟩) hHeld ?rq4
  case yq4 =>
   intro wx hSx
   have z0 : wx.cell? ⟨B3, 0, none⟩ = some (.string x.ev.id) := cell_at (HBS.out _ hSx).2.1 0
   have z1 : wx.cell? ⟨B3, 1, none⟩ = some (.string x.ev.room) := cell_at (HBS.out _ hSx).2.1 1
   have z2 : wx.cell? ⟨B3, 2, none⟩ = some (.slice x.A x.ev.parents.length x.cap) := cell_at (HBS.out _ hSx).2.1 2
   have z3 : wx.cell? ⟨B3, 3, none⟩ = some (.string x.ev.thread) := cell_at (HBS.out _ hSx).2.1 3
   have z4 : wx.cell? ⟨B3, 4, none⟩ = some (.string x.ev.user) := cell_at (HBS.out _ hSx).2.1 4
   have z5 : wx.cell? ⟨B3, 5, none⟩ = some (.int .i64 x.ev.does) := cell_at (HBS.out _ hSx).2.1 5
   go_simp
   try with_reducible rfl
  try simp only [actS]
  refine wpAnyH_ready (rs := [3, 9]) (by kernel_rfl) (by simp) ?_
  refine AllReadyH.cons (o := ⟨some 15, _, _, _, _, _⟩) rfl (fun K hK => ?wkof) (AllReadyH.cons (o := ⟨some 6, _, _, _, _, _⟩) rfl (fun K hK => ?wkalloc) AllReadyH.nil)
  case wkof =>
   have HOW := Lib.hid (HOF.out wd hHeld)
   go_simp
   refine HOW.out.mono ?_
   rintro e wok ⟨d, rfl, hde, hdr, hdm, hdo, hbo⟩
   have HDE := Lib.hid hde
   have HDR := Lib.hid hdr
   have HDM := Lib.hid hdm
   have HDO := Lib.hid hdo
   have HDL : Hid (d.xs.length ≤ 1000) := Lib.hid (by
    rcases hdm with hdm | hdm
    ·exact Nat.le_trans (hdl d hdm) (by decide)
    ·rw [hdm]; exact Nat.zero_le _)
   clear HOW hde hdr hdm hdo
   have hHeld2 := hHeld.trans (hbo.mono hHeld.size)
   clear hHeld
   refine hK.out _ _ hHeld2 (fun hHeld => ?_)
   clear hK K hbo hHeld2
   try simp only [actS]
   refine wpAnyH_ready (rs := [5, 9]) (by kernel_rfl) (by simp) ?_
   refine AllReadyH.cons (o := ⟨some 17, _, _, _, _, _⟩) rfl (fun K hK => ?wkoadd) (AllReadyH.cons (o := ⟨some 6, _, _, _, _, _⟩) rfl (fun K hK => ?wkoalloc) AllReadyH.nil)
   case wkoadd =>
    have HAW := Lib.hid (HAD.out wok hHeld d HDE.out HDL.out)
    have HSZ : Hid (w2.heap.size ≤ wok.heap.size) := Lib.hid hHeld.size
    go_simp
    refine HAW.out.mono ?_
    rintro e wako ⟨va, xs', rfl, hes, hev, hbo, hxx, hll⟩
    obtain ⟨Av, cv, hva, -⟩ := id hes.1
    subst hva
    have HES := Lib.hid hes
    have HEV := Lib.hid hev
    have HXX := Lib.hid hxx
    have HLL : Hid (∀ k, 0 < xs'.length → (Value.slice Av xs'.length cv).ownBlock = some k → (0 < d.xs.length ∧ d.lv.ownBlock = some k) ∨ wok.heap.size ≤ k) := Lib.hid hll
    have HERR : Hid (errA d.room (evs d.xs) x.ev = errV (vws ds) x.ev) := Lib.hid (by rw [HDR.out, HDO.out]; rfl)
    clear HAW hes hev hxx hll
    have hHeld2 := hHeld.trans (hbo.mono hHeld.size)
    clear hHeld
    refine hK.out _ _ hHeld2 (fun hHeld => ?_)
    clear hK K hbo hHeld2
    try simp only [actS]
    refine wpAnyH_take (i := 6) (oi := ⟨some 11, _, _, _, _, _⟩) (v := ?vmko6) rfl (by kernel_rfl) (by kernel_rfl) (by kernel_rfl) (fun _ _ _ h => h) (Or.inl ⟨by rfl, ?ymko6⟩) hHeld ?rmko6
    case ymko6 =>
     intro wx hSx
     go_simp
     try with_reducible rfl
    try simp only [actS]
    refine wpAnyH_take (i := 7) (oi := ⟨some 18, _, _, _, _, _⟩) (v := ?vmko7) rfl (by kernel_rfl) (by kernel_rfl) (by kernel_rfl) (fun _ _ _ h => h) (Or.inl ⟨by rfl, ?ymko7⟩) hHeld ?rmko7
    case ymko7 =>
     intro wx hSx
     go_simp
     try with_reducible rfl
    try simp only [actS]
    refine wpAnyH_take (i := 8) (oi := ⟨some 19, _, _, _, _, _⟩) (v := ?vmko8) rfl (by kernel_rfl) (by kernel_rfl) (by kernel_rfl) (fun _ _ _ h => h) (Or.inl ⟨by rfl, ?ymko8⟩) hHeld ?rmko8
    case ymko8 =>
     intro wx hSx
     go_simp
     try with_reducible rfl
    try simp only [actS]
    refine wpAnyH_ready (rs := [9]) (by kernel_rfl) (by simp) ?_
    refine AllReadyH.cons (o := ⟨some 6, _, _, _, _, _⟩) rfl (fun K hK => ?wkoaalloc) AllReadyH.nil
    case wkoaalloc =>
     have hbn := below_new wako (.cells #[.string ⟨#[]⟩, .slice none 0 0] 93)
     have h6 := heap_alloc_new wako (.cells #[.string ⟨#[]⟩, .slice none 0 0] 93)
     have hlow := hHeld.size
     have HFAR : Hid (∀ k, footE (Value.slice Av xs'.length cv) xs' k → k ≠ wako.heap.size) := Lib.hid (fun k hk => by
      have := HES.out.foot hk
      omega)
     replace HES := Lib.hid (HES.out.below hbn)
     have hHeld2 := hHeld.trans (hbn.mono hHeld.size)
     clear hHeld
     go_simp
     refine hK.out _ _ hHeld2 (fun hHeld => ?_)
     clear hK K hbn hHeld2
     generalize wako.alloc _ = wekoa at hHeld h6 HES ⊢
     generalize wako.heap.size = B6 at h6 hlow HFAR ⊢
     try simp only [actS]
     refine wpAnyH_ready (rs := [10]) (by kernel_rfl) (by simp) ?_
     refine AllReadyH.cons (o := ⟨none, _, _, _, _, _⟩) rfl (fun K hK => ?_) AllReadyH.nil
     have y0 : wekoa.cell? ⟨B6, 0, none⟩ = some (.string ⟨#[]⟩) := cell_at h6 0
     have y1 : wekoa.cell? ⟨B6, 1, none⟩ = some (.slice none 0 0) := cell_at h6 1
     have z0 : wekoa.frozen? ⟨B6, 0, none⟩ = false := free_at h6 0
     have z1 : wekoa.frozen? ⟨B6, 1, none⟩ = false := free_at h6 1
     have HAN := Lib.hid (two_at h6 (.string d.room) (.slice Av xs'.length cv) rfl _ rfl)
     simp only [World.setCells] at HAN
     have HHW := Lib.hid hHeld
     have HLOW := Lib.hid hlow
     go_simp
     clear y0 y1 z0 z1
     generalize World.setCell _ _ _ = w9 at HAN ⊢
     have hb9 : Below w2.heap.size w2 w9 := HHW.out.grown HAN.out.2 HHW.out.size (fun k hk => by injection hk with hk; have := HLOW.out; omega)
     have HA10 : Hid (A10 w w9 (.slice A ds.length cap) ds x B2 B3 B4 B6 ⟨d.room, xs', Av, cv⟩) := Lib.hid ⟨(HBS.out _ hb9).1, (HBS.out _ hb9).2.1, (HBS.out _ hb9).2.2.1, HAN.out.1, (HBS.out _ hb9).2.2.2.2.2, (by rw [← HBB.out] at HL24; exact HL24.out.2.1), HES.out.stay HAN.out.2.size (fun k hk hf => HAN.out.2.block k hk (fun e => HFAR.out k hf (by injection e))), HDR.out, (by rw [← HDO.out, ← HDR.out]; exact HEV.out), fun k hk => by
      rcases addY_foot (w := w) HXX.out (fun k h0 hk => by
       rcases HLL.out k h0 hk with hh | hh
       ·exact .inl hh
       ·exact .inr (Nat.le_trans (by have := HBW.out.size; have := HSZ.out; omega) hh)) hk with hh | hh
      ·exact .inl (of_foot HDM.out hh)
      ·exact .inr hh, fun k hk e => by
      subst e
      have hb4 := smem_lt HX4.out
      rcases addY_foot HXX.out HLL.out hk with hh | hh | hh
      ·have := HOLD.out.1 _ (of_foot HDM.out hh)
       have := HL24.out.2.1
       have := HBB.out
       omega
      ·have := HOLD.out.2 _ hh
       have := HL24.out.2.1
       have := HBB.out
       omega
      ·have := HSZ.out
       omega⟩
     refine hK.out _ _ hb9 (fun hHeld => ?_)
     clear hK K
     try simp only [actS]
     refine wpAnyH_take (i := 11) (oi := ⟨some 7, _, _, _, _, _⟩) (v := ?vzkoan11) rfl (by kernel_rfl) (by kernel_rfl) (by kernel_rfl) (fun _ _ _ h => h) (Or.inl ⟨by rfl, ?yzkoan11⟩) hHeld ?rzkoan11
     case yzkoan11 =>
      intro wx hSx
      go_simp
      try with_reducible rfl
     try simp only [actS]
     refine wpAnyH_done (by kernel_rfl) ?_ _
     go_wp2_with fail
     go_meet
     exact ⟨B6, rfl, by rw [← HERR.out], Lib.hid ⟨_, HA10.out⟩⟩
   case wkoalloc =>
    have hbn := below_new wok (.cells #[.string ⟨#[]⟩, .slice none 0 0] 93)
    have h6 := heap_alloc_new wok (.cells #[.string ⟨#[]⟩, .slice none 0 0] 93)
    have hlow := hHeld.size
    replace HDE := Lib.hid (HDE.out.below hbn)
    have hHeld2 := hHeld.trans (hbn.mono hHeld.size)
    clear hHeld
    go_simp
    refine hK.out _ _ hHeld2 (fun hHeld => ?_)
    clear hK K hbn hHeld2
    generalize wok.alloc _ = weko at hHeld h6 HDE ⊢
    generalize wok.heap.size = B6 at h6 hlow ⊢
    try simp only [actS]
    refine wpAnyH_ready (rs := [5]) (by kernel_rfl) (by simp) ?_
    refine AllReadyH.cons (o := ⟨some 17, _, _, _, _, _⟩) rfl (fun K hK => ?wkonadd) AllReadyH.nil
    case wkonadd =>
     have HAW := Lib.hid (HAD.out weko hHeld d HDE.out HDL.out)
     have HSZ : Hid (w2.heap.size ≤ weko.heap.size) := Lib.hid hHeld.size
     go_simp
     refine HAW.out.mono ?_
     rintro e wakon ⟨va, xs', rfl, hes, hev, hbo, hxx, hll⟩
     obtain ⟨Av, cv, hva, -⟩ := id hes.1
     subst hva
     have HES := Lib.hid hes
     have HEV := Lib.hid hev
     have HXX := Lib.hid hxx
     have HLL : Hid (∀ k, 0 < xs'.length → (Value.slice Av xs'.length cv).ownBlock = some k → (0 < d.xs.length ∧ d.lv.ownBlock = some k) ∨ weko.heap.size ≤ k) := Lib.hid hll
     have HERR : Hid (errA d.room (evs d.xs) x.ev = errV (vws ds) x.ev) := Lib.hid (by rw [HDR.out, HDO.out]; rfl)
     clear HAW hes hev hxx hll
     have HFAR : Hid (∀ k, footE (Value.slice Av xs'.length cv) xs' k → k ≠ B6) := Lib.hid (fun k hk => by
      have hb6 := smem_lt h6
      rcases addY_foot (w := weko) HXX.out HLL.out hk with hh | hh | hh
      ·have := HOLD.out.1 k (of_foot HDM.out hh)
       have := HBW.out.size
       omega
      ·have := HOLD.out.2 k hh
       have := HBW.out.size
       omega
      ·omega)
     replace h6 := (hbo.block B6 (smem_lt h6)).trans h6
     have hHeld2 := hHeld.trans (hbo.mono hHeld.size)
     clear hHeld
     refine hK.out _ _ hHeld2 (fun hHeld => ?_)
     clear hK K hbo hHeld2
     try simp only [actS]
     refine wpAnyH_take (i := 6) (oi := ⟨some 11, _, _, _, _, _⟩) (v := ?vmkon6) rfl (by kernel_rfl) (by kernel_rfl) (by kernel_rfl) (fun _ _ _ h => h) (Or.inl ⟨by rfl, ?ymkon6⟩) hHeld ?rmkon6
     case ymkon6 =>
      intro wx hSx
      go_simp
      try with_reducible rfl
     try simp only [actS]
     refine wpAnyH_take (i := 7) (oi := ⟨some 18, _, _, _, _, _⟩) (v := ?vmkon7) rfl (by kernel_rfl) (by kernel_rfl) (by kernel_rfl) (fun _ _ _ h => h) (Or.inl ⟨by rfl, ?ymkon7⟩) hHeld ?rmkon7
     case ymkon7 =>
      intro wx hSx
      go_simp
      try with_reducible rfl
     try simp only [actS]
     refine wpAnyH_take (i := 8) (oi := ⟨some 19, _, _, _, _, _⟩) (v := ?vmkon8) rfl (by kernel_rfl) (by kernel_rfl) (by kernel_rfl) (fun _ _ _ h => h) (Or.inl ⟨by rfl, ?ymkon8⟩) hHeld ?rmkon8
     case ymkon8 =>
      intro wx hSx
      go_simp
      try with_reducible rfl
     try simp only [actS]
     refine wpAnyH_ready (rs := [10]) (by kernel_rfl) (by simp) ?_
     refine AllReadyH.cons (o := ⟨none, _, _, _, _, _⟩) rfl (fun K hK => ?_) AllReadyH.nil
     have y0 : wakon.cell? ⟨B6, 0, none⟩ = some (.string ⟨#[]⟩) := cell_at h6 0
     have y1 : wakon.cell? ⟨B6, 1, none⟩ = some (.slice none 0 0) := cell_at h6 1
     have z0 : wakon.frozen? ⟨B6, 0, none⟩ = false := free_at h6 0
     have z1 : wakon.frozen? ⟨B6, 1, none⟩ = false := free_at h6 1
     have HAN := Lib.hid (two_at h6 (.string d.room) (.slice Av xs'.length cv) rfl _ rfl)
     simp only [World.setCells] at HAN
     have HHW := Lib.hid hHeld
     have HLOW := Lib.hid hlow
     go_simp
     clear y0 y1 z0 z1
     generalize World.setCell _ _ _ = w9 at HAN ⊢
     have hb9 : Below w2.heap.size w2 w9 := HHW.out.grown HAN.out.2 HHW.out.size (fun k hk => by injection hk with hk; have := HLOW.out; omega)
     have HA10 : Hid (A10 w w9 (.slice A ds.length cap) ds x B2 B3 B4 B6 ⟨d.room, xs', Av, cv⟩) := Lib.hid ⟨(HBS.out _ hb9).1, (HBS.out _ hb9).2.1, (HBS.out _ hb9).2.2.1, HAN.out.1, (HBS.out _ hb9).2.2.2.2.2, (by rw [← HBB.out] at HL24; exact HL24.out.2.1), HES.out.stay HAN.out.2.size (fun k hk hf => HAN.out.2.block k hk (fun e => HFAR.out k hf (by injection e))), HDR.out, (by rw [← HDO.out, ← HDR.out]; exact HEV.out), fun k hk => by
      rcases addY_foot (w := w) HXX.out (fun k h0 hk => by
       rcases HLL.out k h0 hk with hh | hh
       ·exact .inl hh
       ·exact .inr (Nat.le_trans (by have := HBW.out.size; have := HSZ.out; omega) hh)) hk with hh | hh
      ·exact .inl (of_foot HDM.out hh)
      ·exact .inr hh, fun k hk e => by
      subst e
      have hb4 := smem_lt HX4.out
      rcases addY_foot HXX.out HLL.out hk with hh | hh | hh
      ·have := HOLD.out.1 _ (of_foot HDM.out hh)
       have := HL24.out.2.1
       have := HBB.out
       omega
      ·have := HOLD.out.2 _ hh
       have := HL24.out.2.1
       have := HBB.out
       omega
      ·have := HSZ.out
       omega⟩
     refine hK.out _ _ hb9 (fun hHeld => ?_)
     clear hK K
     try simp only [actS]
     refine wpAnyH_take (i := 11) (oi := ⟨some 7, _, _, _, _, _⟩) (v := ?vzkona11) rfl (by kernel_rfl) (by kernel_rfl) (by kernel_rfl) (fun _ _ _ h => h) (Or.inl ⟨by rfl, ?yzkona11⟩) hHeld ?rzkona11
     case yzkona11 =>
      intro wx hSx
      go_simp
      try with_reducible rfl
     try simp only [actS]
     refine wpAnyH_done (by kernel_rfl) ?_ _
     go_wp2_with fail
     go_meet
     exact ⟨B6, rfl, by rw [← HERR.out], Lib.hid ⟨_, HA10.out⟩⟩
  case wkalloc =>
   have hbn := below_new wd (.cells #[.string ⟨#[]⟩, .slice none 0 0] 93)
   have h6 := heap_alloc_new wd (.cells #[.string ⟨#[]⟩, .slice none 0 0] 93)
   have hlow := hHeld.size
   have hHeld2 := hHeld.trans (hbn.mono hHeld.size)
   clear hHeld
   go_simp
   refine hK.out _ _ hHeld2 (fun hHeld => ?_)
   clear hK K hbn hHeld2
   generalize wd.alloc _ = wek at hHeld h6 ⊢
   generalize wd.heap.size = B6 at h6 hlow ⊢
   try simp only [actS]
   refine wpAnyH_ready (rs := [3]) (by kernel_rfl) (by simp) ?_
   refine AllReadyH.cons (o := ⟨some 15, _, _, _, _, _⟩) rfl (fun K hK => ?wknof) AllReadyH.nil
   case wknof =>
    have HOW := Lib.hid (HOF.out wek hHeld)
    go_simp
    refine HOW.out.mono ?_
    rintro e wokn ⟨d, rfl, hde, hdr, hdm, hdo, hbo⟩
    have HDE := Lib.hid hde
    have HDR := Lib.hid hdr
    have HDM := Lib.hid hdm
    have HDO := Lib.hid hdo
    have HDL : Hid (d.xs.length ≤ 1000) := Lib.hid (by
     rcases hdm with hdm | hdm
     ·exact Nat.le_trans (hdl d hdm) (by decide)
     ·rw [hdm]; exact Nat.zero_le _)
    clear HOW hde hdr hdm hdo
    replace h6 := (hbo.block B6 (smem_lt h6)).trans h6
    have hHeld2 := hHeld.trans (hbo.mono hHeld.size)
    clear hHeld
    refine hK.out _ _ hHeld2 (fun hHeld => ?_)
    clear hK K hbo hHeld2
    try simp only [actS]
    refine wpAnyH_ready (rs := [5]) (by kernel_rfl) (by simp) ?_
    refine AllReadyH.cons (o := ⟨some 17, _, _, _, _, _⟩) rfl (fun K hK => ?wknoadd) AllReadyH.nil
    case wknoadd =>
     have HAW := Lib.hid (HAD.out wokn hHeld d HDE.out HDL.out)
     have HSZ : Hid (w2.heap.size ≤ wokn.heap.size) := Lib.hid hHeld.size
     go_simp
     refine HAW.out.mono ?_
     rintro e wakno ⟨va, xs', rfl, hes, hev, hbo, hxx, hll⟩
     obtain ⟨Av, cv, hva, -⟩ := id hes.1
     subst hva
     have HES := Lib.hid hes
     have HEV := Lib.hid hev
     have HXX := Lib.hid hxx
     have HLL : Hid (∀ k, 0 < xs'.length → (Value.slice Av xs'.length cv).ownBlock = some k → (0 < d.xs.length ∧ d.lv.ownBlock = some k) ∨ wokn.heap.size ≤ k) := Lib.hid hll
     have HERR : Hid (errA d.room (evs d.xs) x.ev = errV (vws ds) x.ev) := Lib.hid (by rw [HDR.out, HDO.out]; rfl)
     clear HAW hes hev hxx hll
     have HFAR : Hid (∀ k, footE (Value.slice Av xs'.length cv) xs' k → k ≠ B6) := Lib.hid (fun k hk => by
      have hb6 := smem_lt h6
      rcases addY_foot (w := wokn) HXX.out HLL.out hk with hh | hh | hh
      ·have := HOLD.out.1 k (of_foot HDM.out hh)
       have := HBW.out.size
       omega
      ·have := HOLD.out.2 k hh
       have := HBW.out.size
       omega
      ·omega)
     replace h6 := (hbo.block B6 (smem_lt h6)).trans h6
     have hHeld2 := hHeld.trans (hbo.mono hHeld.size)
     clear hHeld
     refine hK.out _ _ hHeld2 (fun hHeld => ?_)
     clear hK K hbo hHeld2
     try simp only [actS]
     refine wpAnyH_take (i := 6) (oi := ⟨some 11, _, _, _, _, _⟩) (v := ?vmkno6) rfl (by kernel_rfl) (by kernel_rfl) (by kernel_rfl) (fun _ _ _ h => h) (Or.inl ⟨by rfl, ?ymkno6⟩) hHeld ?rmkno6
     case ymkno6 =>
      intro wx hSx
      go_simp
      try with_reducible rfl
     try simp only [actS]
     refine wpAnyH_take (i := 7) (oi := ⟨some 18, _, _, _, _, _⟩) (v := ?vmkno7) rfl (by kernel_rfl) (by kernel_rfl) (by kernel_rfl) (fun _ _ _ h => h) (Or.inl ⟨by rfl, ?ymkno7⟩) hHeld ?rmkno7
     case ymkno7 =>
      intro wx hSx
      go_simp
      try with_reducible rfl
     try simp only [actS]
     refine wpAnyH_take (i := 8) (oi := ⟨some 19, _, _, _, _, _⟩) (v := ?vmkno8) rfl (by kernel_rfl) (by kernel_rfl) (by kernel_rfl) (fun _ _ _ h => h) (Or.inl ⟨by rfl, ?ymkno8⟩) hHeld ?rmkno8
     case ymkno8 =>
      intro wx hSx
      go_simp
      try with_reducible rfl
     try simp only [actS]
     refine wpAnyH_ready (rs := [10]) (by kernel_rfl) (by simp) ?_
     refine AllReadyH.cons (o := ⟨none, _, _, _, _, _⟩) rfl (fun K hK => ?_) AllReadyH.nil
     have y0 : wakno.cell? ⟨B6, 0, none⟩ = some (.string ⟨#[]⟩) := cell_at h6 0
     have y1 : wakno.cell? ⟨B6, 1, none⟩ = some (.slice none 0 0) := cell_at h6 1
     have z0 : wakno.frozen? ⟨B6, 0, none⟩ = false := free_at h6 0
     have z1 : wakno.frozen? ⟨B6, 1, none⟩ = false := free_at h6 1
     have HAN := Lib.hid (two_at h6 (.string d.room) (.slice Av xs'.length cv) rfl _ rfl)
     simp only [World.setCells] at HAN
     have HHW := Lib.hid hHeld
     have HLOW := Lib.hid hlow
     go_simp
     clear y0 y1 z0 z1
     generalize World.setCell _ _ _ = w9 at HAN ⊢
     have hb9 : Below w2.heap.size w2 w9 := HHW.out.grown HAN.out.2 HHW.out.size (fun k hk => by injection hk with hk; have := HLOW.out; omega)
     have HA10 : Hid (A10 w w9 (.slice A ds.length cap) ds x B2 B3 B4 B6 ⟨d.room, xs', Av, cv⟩) := Lib.hid ⟨(HBS.out _ hb9).1, (HBS.out _ hb9).2.1, (HBS.out _ hb9).2.2.1, HAN.out.1, (HBS.out _ hb9).2.2.2.2.2, (by rw [← HBB.out] at HL24; exact HL24.out.2.1), HES.out.stay HAN.out.2.size (fun k hk hf => HAN.out.2.block k hk (fun e => HFAR.out k hf (by injection e))), HDR.out, (by rw [← HDO.out, ← HDR.out]; exact HEV.out), fun k hk => by
      rcases addY_foot (w := w) HXX.out (fun k h0 hk => by
       rcases HLL.out k h0 hk with hh | hh
       ·exact .inl hh
       ·exact .inr (Nat.le_trans (by have := HBW.out.size; have := HSZ.out; omega) hh)) hk with hh | hh
      ·exact .inl (of_foot HDM.out hh)
      ·exact .inr hh, fun k hk e => by
      subst e
      have hb4 := smem_lt HX4.out
      rcases addY_foot HXX.out HLL.out hk with hh | hh | hh
      ·have := HOLD.out.1 _ (of_foot HDM.out hh)
       have := HL24.out.2.1
       have := HBB.out
       omega
      ·have := HOLD.out.2 _ hh
       have := HL24.out.2.1
       have := HBB.out
       omega
      ·have := HSZ.out
       omega⟩
     refine hK.out _ _ hb9 (fun hHeld => ?_)
     clear hK K
     try simp only [actS]
     refine wpAnyH_take (i := 11) (oi := ⟨some 7, _, _, _, _, _⟩) (v := ?vzknoa11) rfl (by kernel_rfl) (by kernel_rfl) (by kernel_rfl) (fun _ _ _ h => h) (Or.inl ⟨by rfl, ?yzknoa11⟩) hHeld ?rzknoa11
     case yzknoa11 =>
      intro wx hSx
      go_simp
      try with_reducible rfl
     try simp only [actS]
     refine wpAnyH_done (by kernel_rfl) ?_ _
     go_wp2_with fail
     go_meet
     exact ⟨B6, rfl, by rw [← HERR.out], Lib.hid ⟨_, HA10.out⟩⟩
 case rest =>
  obtain ⟨B6, rfl, rfl, HY⟩ := hcut
  obtain ⟨d, hy⟩ := HY.out
  have HA := Lib.hid hy
  clear HY hy HX2 HX3 HX4 HBW
  have HDSC : Hid (DsS wc (.slice A ds.length cap) ds) := Lib.hid (HD.out.below HA.out.below)
  have HBASE := Lib.hid HA.out.base
  have HBW := Lib.hid HA.out.below
  by_cases he : errV (vws ds) x.ev = 0
  ·have q1 : (errV (vws ds) x.ev != 0) = false := by rw [he]; rfl
   have HE := Lib.hid he
   clear he
   have HC : Hid (∀ W, Below wc.heap.size wc W → W.heap[B2]? = some (.cells #[.slice A ds.length cap] 39 (0, 0)) ∧ W.heap[B3]? = some (.cells #[.string x.ev.id, .string x.ev.room, .slice x.A x.ev.parents.length x.cap, .string x.ev.thread, .string x.ev.user, .int .i64 x.ev.does] 52 (0, 0)) ∧ W.heap[B4]? = some (.cells #[.slice none 0 0] 39 (0, 0)) ∧ W.heap[B6]? = some (.cells #[.string d.room, .slice d.A d.xs.length d.cap] 93 (0, 0)) ∧ DsS W (.slice A ds.length cap) ds) := Lib.hid (fun W hb => ⟨(hb.block B2 (smem_lt HA.out.b2)).trans HA.out.b2, (hb.block B3 (smem_lt HA.out.b3)).trans HA.out.b3, (hb.block B4 (smem_lt HA.out.b4)).trans HA.out.b4, (hb.block B6 (smem_lt HA.out.b6)).trans HA.out.b6, HDSC.out.below hb⟩)
   have HRM : Hid (d.room = x.ev.room) := Lib.hid HA.out.room
   have HC0 := Lib.hid (HC.out wc (Below.refl _ _))
   go_wp2_with fail
   go_loopw [8, 9, 10] (fun u dn i wr => ∃ (a : Nat) (b : Bool) (ts : List DV) (Ao : Option Addr) (co : Nat), u = .slice Ao ts.length co ∧ dn = .bool b ∧ i = .int .i64 (a : Int) ∧ a ≤ ds.length ∧ ts.length ≤ 2 * a ∧ Hid (OuS LD wc wr u ts) ∧ Hid (putKTo DV.room d ds a = (b, ts))) (fun _ _ i _ => ds.length - (intOf i).toNat)
   case atStart => exact ⟨0, false, [], none, 0, rfl, rfl, rfl, Nat.zero_le _, Nat.le_refl _, Lib.hid ⟨Below.refl _ _, .nil _ _⟩, Lib.hid rfl⟩
   case round =>
    obtain ⟨a, b, ts, Ao, co, rfl, rfl, rfl, ha, hta, HO, HT⟩ := hrel
    have HBX := Lib.hid (HC.out wr HO.out.below)
    have c20 : wr.cell? ⟨B2, 0, none⟩ = some (.slice A ds.length cap) := cell_at HBX.out.1 0
    by_cases hay : a < ds.length
    ·have q2 : decide ((a : Int) < (ds.length : Int)) = true := decide_eq_true (by omega)
     have hy : ds[a]? = some ds[a] := List.getElem?_eq_getElem hay
     generalize ds[a] = y at hy
     have HTS := Lib.hid (putKTo_succ (key := DV.room) (x := d) hy)
     rw [HT.out] at HTS
     obtain ⟨bo, oo, hA, hbo, f0, f1⟩ := dv_at HDSC.out.1 hy
     have hix := index_any (P := Tryz.prog) knD (by decide) (b := bo) (off := oo) (cap := cap) hay
     simp only [LD] at hix
     rw [← hA] at hix
     unfold DV.lv at f1
     have HYC : Hid (∀ W, Below wc.heap.size wc W → W.cell? ⟨bo, oo + a * 2, none⟩ = some (.string y.room) ∧ W.cell? ⟨bo, oo + a * 2 + 1, none⟩ = some (.slice y.A y.xs.length y.cap)) := Lib.hid (fun W hb => ⟨(hb.cell (p := ⟨bo, oo + a * 2, none⟩) hbo).trans f0, (hb.cell (p := ⟨bo, oo + a * 2 + 1, none⟩) hbo).trans f1⟩)
     clear f0 f1
     obtain ⟨e0, e1⟩ := HYC.out wr HO.out.below
     generalize hys : (y.room.toList == x.ev.room.toList) = ys
     have hyd := hys
     rw [keyB] at hyd
     have HYD : Hid (decide (y.room = d.room) = ys) := Lib.hid (by rw [HRM.out]; exact hyd)
     clear hyd hy hA
     have c31 : wr.cell? ⟨B3, 1, none⟩ = some (.string x.ev.room) := cell_at HBX.out.2.1 1
     cases b with
     | true =>
      go_upto_region 9 with (fail)
      go_quiet (fail)
      replace HO := Lib.hid (HO.out.drewN nq)
      clear c20 c31 e0 e1
      generalize World.drewN _ _ = w4 at HO ⊢
      have HBX4 := Lib.hid (HC.out w4 HO.out.below)
      have c20 : w4.cell? ⟨B2, 0, none⟩ = some (.slice A ds.length cap) := cell_at HBX4.out.1 0
      have c31 : w4.cell? ⟨B3, 1, none⟩ = some (.string x.ev.room) := cell_at HBX4.out.2.1 1
      obtain ⟨e0, e1⟩ := HYC.out w4 HO.out.below
      go_upto_region 12 with (fail)
      go_quiet (fail)
      replace HO := Lib.hid (HO.out.drewN nq)
      clear c20 c31 e0 e1
      generalize World.drewN _ _ = w5 at HO ⊢
      have HBX5 := Lib.hid (HC.out w5 HO.out.below)
      have c20 : w5.cell? ⟨B2, 0, none⟩ = some (.slice A ds.length cap) := cell_at HBX5.out.1 0
      have c31 : w5.cell? ⟨B3, 1, none⟩ = some (.string x.ev.room) := cell_at HBX5.out.2.1 1
      obtain ⟨e0, e1⟩ := HYC.out w5 HO.out.below
      cases ys with
      | true =>
       have HF : Hid (putKTo DV.room d ds (a + 1) = (true, ts)) := Lib.hid (by rw [HTS.out]; unfold putKStep; simp [of_decide_eq_true HYD.out])
       go_wp2_with fail
       refine ⟨⟨a + 1, true, ts, Ao, co, rfl, rfl, by go_num, by omega, by (try simp only [List.length_append, List.length_cons, List.length_nil]); omega, HO, HF⟩, ?_⟩
       simp [intOf]; omega
      | false =>
       have HF : Hid (putKTo DV.room d ds (a + 1) = (true, ts ++ [y])) := Lib.hid (by rw [HTS.out]; unfold putKStep; simp [of_decide_eq_false HYD.out])
       have hlit6 := Lib.hid (lit_D w5 y)
       have hbn6 := below_new w5 (.cells #[.string y.room, .slice y.A y.xs.length y.cap] 93)
       have HO6 := Lib.hid (HO.out.on hbn6)
       have hs6 := HO6.out.below.size
       clear hbn6
       go_wp2_with (at_builtin; refine wpList_puts rfl knD (.tmp 57) (.tmp 63) 37 rfl (v := .slice Ao ts.length co) rfl HO6.out.row hs6 (.slice (some ⟨w5.heap.size, 0, none⟩) 1 1) [y] 1 rfl rfl (hlit6.out.srcN knD rfl) (by first | omega | (rw [List.length_append]; simp only [List.length_cons, List.length_nil]; omega)) ?_; intro A6 c6 w6 m6 g6 o6; have HP6 : Hid (OuS LD wc w6 (.slice A6 (ts.length + 1) c6) (ts ++ [y])) := Lib.hid (HO6.out.put g6 m6); clear m6 g6 o6)
       refine ⟨⟨a + 1, true, ts ++ [y], A6, c6, by rw [List.length_append]; rfl, rfl, by go_num, by omega, by (try simp only [List.length_append, List.length_cons, List.length_nil]); omega, HP6, HF⟩, ?_⟩
       simp [intOf]; omega
     | false =>
      generalize hle : leS d.room y.room = le
      have hq5 : (Op.bytesLess x.ev.room.toList y.room.toList || x.ev.room.toList == y.room.toList) = le := by rw [leq_less, ← HRM.out]; exact hle
      cases le with
      | false =>
       have hny : y.room ≠ d.room := fun e => by
        have := leS_iff.2 (List.lt_irrefl d.room.toList)
        rw [e, this] at hle
        cases hle
       obtain rfl : ys = false := by rw [← HYD.out]; exact decide_eq_false hny
       have HF : Hid (putKTo DV.room d ds (a + 1) = (false, ts ++ [y])) := Lib.hid (by rw [HTS.out]; unfold putKStep; simp [hle, hny])
       clear hny hle
       go_upto_region 9 with (fail)
       go_quiet (fail)
       replace HO := Lib.hid (HO.out.drewN nq)
       clear c20 c31 e0 e1
       generalize World.drewN _ _ = w4 at HO ⊢
       have HBX4 := Lib.hid (HC.out w4 HO.out.below)
       have c20 : w4.cell? ⟨B2, 0, none⟩ = some (.slice A ds.length cap) := cell_at HBX4.out.1 0
       have c31 : w4.cell? ⟨B3, 1, none⟩ = some (.string x.ev.room) := cell_at HBX4.out.2.1 1
       obtain ⟨e0, e1⟩ := HYC.out w4 HO.out.below
       go_upto_region 12 with (fail)
       go_quiet (fail)
       replace HO := Lib.hid (HO.out.drewN nq)
       clear c20 c31 e0 e1
       generalize World.drewN _ _ = w5 at HO ⊢
       have HBX5 := Lib.hid (HC.out w5 HO.out.below)
       have c20 : w5.cell? ⟨B2, 0, none⟩ = some (.slice A ds.length cap) := cell_at HBX5.out.1 0
       have c31 : w5.cell? ⟨B3, 1, none⟩ = some (.string x.ev.room) := cell_at HBX5.out.2.1 1
       obtain ⟨e0, e1⟩ := HYC.out w5 HO.out.below
       have hlit6 := Lib.hid (lit_D w5 y)
       have hbn6 := below_new w5 (.cells #[.string y.room, .slice y.A y.xs.length y.cap] 93)
       have HO6 := Lib.hid (HO.out.on hbn6)
       have hs6 := HO6.out.below.size
       clear hbn6
       go_wp2_with (at_builtin; refine wpList_puts rfl knD (.tmp 57) (.tmp 63) 37 rfl (v := .slice Ao ts.length co) rfl HO6.out.row hs6 (.slice (some ⟨w5.heap.size, 0, none⟩) 1 1) [y] 1 rfl rfl (hlit6.out.srcN knD rfl) (by first | omega | (rw [List.length_append]; simp only [List.length_cons, List.length_nil]; omega)) ?_; intro A6 c6 w6 m6 g6 o6; have HP6 : Hid (OuS LD wc w6 (.slice A6 (ts.length + 1) c6) (ts ++ [y])) := Lib.hid (HO6.out.put g6 m6); clear m6 g6 o6)
       refine ⟨⟨a + 1, false, ts ++ [y], A6, c6, by rw [List.length_append]; rfl, rfl, by go_num, by omega, by (try simp only [List.length_append, List.length_cons, List.length_nil]); omega, HP6, HF⟩, ?_⟩
       simp [intOf]; omega
      | true =>
       have HLE := Lib.hid hle
       clear hle
       go_upto_region 9 with (fail)
       go_quiet (fail)
       replace HO := Lib.hid (HO.out.drewN nq)
       clear c20 c31 e0 e1
       generalize World.drewN _ _ = w4 at HO ⊢
       have HBX4 := Lib.hid (HC.out w4 HO.out.below)
       have c20 : w4.cell? ⟨B2, 0, none⟩ = some (.slice A ds.length cap) := cell_at HBX4.out.1 0
       have c31 : w4.cell? ⟨B3, 1, none⟩ = some (.string x.ev.room) := cell_at HBX4.out.2.1 1
       obtain ⟨e0, e1⟩ := HYC.out w4 HO.out.below
       have d60 : w4.cell? ⟨B6, 0, none⟩ = some (.string d.room) := cell_at HBX4.out.2.2.2.1 0
       have d61 : w4.cell? ⟨B6, 1, none⟩ = some (.slice d.A d.xs.length d.cap) := cell_at HBX4.out.2.2.2.1 1
       have hlit5 := Lib.hid (lit_D w4 d)
       have hbn5 := below_new w4 (.cells #[.string d.room, .slice d.A d.xs.length d.cap] 93)
       have HO5 := Lib.hid (HO.out.on hbn5)
       have hs5 := HO5.out.below.size
       clear hbn5
       go_upto_region 11 with (at_builtin; refine wpList_puts rfl knD (.tmp 44) (.tmp 46) 37 rfl (v := .slice Ao ts.length co) rfl HO5.out.row hs5 (.slice (some ⟨w4.heap.size, 0, none⟩) 1 1) [d] 1 rfl rfl (hlit5.out.srcN knD rfl) (by first | omega | (rw [List.length_append]; simp only [List.length_cons, List.length_nil]; omega)) ?_; intro A5 c5 w5 m5 g5 o5; have HP5 : Hid (OuS LD wc w5 (.slice A5 (ts.length + 1) c5) (ts ++ [d])) := Lib.hid (HO5.out.put g5 m5); clear m5 g5 o5)
       have L3 : Hid ((ts ++ [d]).length = ts.length + 1) := Lib.hid (by rw [List.length_append]; rfl)
       replace HO := HP5
       clear c20 c31 e0 e1 d60 d61
       have HBX5 := Lib.hid (HC.out w5 HO.out.below)
       have c20 : w5.cell? ⟨B2, 0, none⟩ = some (.slice A ds.length cap) := cell_at HBX5.out.1 0
       have c31 : w5.cell? ⟨B3, 1, none⟩ = some (.string x.ev.room) := cell_at HBX5.out.2.1 1
       obtain ⟨e0, e1⟩ := HYC.out w5 HO.out.below
       go_upto_region 12 with (fail)
       go_quiet (fail)
       replace HO := Lib.hid (HO.out.drewN nq)
       clear c20 c31 e0 e1
       generalize World.drewN _ _ = w6 at HO ⊢
       have HBX6 := Lib.hid (HC.out w6 HO.out.below)
       have c20 : w6.cell? ⟨B2, 0, none⟩ = some (.slice A ds.length cap) := cell_at HBX6.out.1 0
       have c31 : w6.cell? ⟨B3, 1, none⟩ = some (.string x.ev.room) := cell_at HBX6.out.2.1 1
       obtain ⟨e0, e1⟩ := HYC.out w6 HO.out.below
       cases ys with
       | true =>
        have HF : Hid (putKTo DV.room d ds (a + 1) = (true, ts ++ [d])) := Lib.hid (by have hq := of_decide_eq_true HYD.out; rw [HTS.out]; unfold putKStep; rw [HLE.out]; simp [hq])
        go_wp2_with fail
        refine ⟨⟨a + 1, true, ts ++ [d], A5, c5, by rw [List.length_append]; rfl, rfl, by go_num, by omega, by (try simp only [List.length_append, List.length_cons, List.length_nil]); omega, HO, HF⟩, ?_⟩
        simp [intOf]; omega
       | false =>
        have HF : Hid (putKTo DV.room d ds (a + 1) = (true, ts ++ [d] ++ [y])) := Lib.hid (by rw [HTS.out]; unfold putKStep; simp [of_decide_eq_false HYD.out, HLE.out])
        have hlit7 := Lib.hid (lit_D w6 y)
        have hbn7 := below_new w6 (.cells #[.string y.room, .slice y.A y.xs.length y.cap] 93)
        have HO7 := Lib.hid (HO.out.on hbn7)
        have hs7 := HO7.out.below.size
        clear hbn7
        go_wp2_with (at_builtin; refine wpList_puts rfl knD (.tmp 57) (.tmp 63) 37 rfl (v := .slice A5 (ts.length + 1) c5) rfl HO7.out.row hs7 (.slice (some ⟨w6.heap.size, 0, none⟩) 1 1) [y] 1 rfl rfl (hlit7.out.srcN knD rfl) (by rw [L3.out]; omega) ?_; rw [L3.out]; intro A7 c7 w7 m7 g7 o7; have HP7 : Hid (OuS LD wc w7 (.slice A7 ((ts.length + 1) + 1) c7) ((ts ++ [d]) ++ [y])) := Lib.hid (HO7.out.put g7 m7); clear m7 g7 o7)
        refine ⟨⟨a + 1, true, ts ++ [d] ++ [y], A7, c7, by rw [List.length_append, L3.out]; rfl, rfl, by go_num, by omega, by (try simp only [List.length_append, List.length_cons, List.length_nil]); omega, HP7, HF⟩, ?_⟩
        simp [intOf]; omega
    ·have q2 : decide ((a : Int) < (ds.length : Int)) = false := decide_eq_false (by omega)
     obtain rfl : a = ds.length := by omega
     have HPA := Lib.hid (putKTo_all (key := DV.room) d ds)
     rw [HT.out] at HPA
     have HFIN : Hid (∀ zs, zs = putK DV.room d ds → vws zs = addV (vws ds) x.ev ∧ ∀ z ∈ zs, z = d ∨ z ∈ ds) := Lib.hid (fun zs hz => by
      subst hz
      constructor
      ·unfold addV
       rw [if_pos HE.out]
       have h1 := putK_map (key := DV.room) Prod.fst DV.rl (fun _ => rfl) d ds
       show List.map DV.rl (putK DV.room d ds) = _
       rw [h1]
       show putK Prod.fst (d.room, evs d.xs) (vws ds) = _
       rw [HA.out.is, HRM.out]
      ·intro z hz
       have h1 := putKTo_mem (key := DV.room) (x := d) (l := ds) ds.length z
       rw [HT.out] at h1
       have h2 := HPA.out
       simp only at h2
       rw [← h2] at hz
       split at hz
       ·exact h1 hz
       ·rcases List.mem_append.1 hz with hz | hz
        ·exact h1 hz
        ·exact .inl (List.mem_singleton.1 hz))
     have HEV : Hid (∀ W, Below wc.heap.size wc W → EvsS W d.lv d.xs ∧ DsS W (.slice A ds.length cap) ds) := Lib.hid (fun W hb => ⟨HA.out.evs.below hb, HDSC.out.below hb⟩)
     have HEND : Hid (∀ (zs : List DV) (u : Value) (W W9 : World), zs = putK DV.room d ds → OuS LD wc W u zs → W.heap[B4]? = some (.cells #[.slice none 0 0] 39 (0, 0)) → W9 = W.setCell ⟨B4, 0, none⟩ u → DsS W9 u zs ∧ vws zs = addV (vws ds) x.ev ∧ (∀ k, footD u zs k → footD (.slice A ds.length cap) ds k ∨ footV x k ∨ w.heap.size ≤ k) ∧ Below w.heap.size w W9 ∧ W9.heap[B4]? = some (.cells #[u] 39 (0, 0))) := Lib.hid (fun zs u W W9 hz ho h4 h9 => by
      obtain ⟨g1, g2⟩ := one_at h4 u W9 h9
      obtain ⟨f1, f2⟩ := HFIN.out zs hz
      have hb4 : B4 < wc.heap.size := smem_lt HA.out.b4
      have hst : ∀ k, k < W.heap.size → k ≠ B4 → W9.heap[k]? = W.heap[k]? := fun k hk hne => g2.block k hk (fun e => hne (by injection e))
      have hft : ∀ z ∈ zs, ∀ k, footE z.lv z.xs k → k ≠ B4 ∧ (footD (.slice A ds.length cap) ds k ∨ footV x k ∨ w.heap.size ≤ k) := fun z hz k hk => by
       rcases f2 z hz with rfl | hz
       ·refine ⟨fun e => ?_, HA.out.foot k hk⟩
        subst e
        rcases HA.out.foot k hk with hh | hh | hh
        ·have := HOLD.out.1 k hh; have := HBASE.out; omega
        ·have := HOLD.out.2 k hh; have := HBASE.out; omega
        ·exact HA.out.far k hk rfl
       ·have h1 : footD (.slice A ds.length cap) ds k := .inr ⟨z, hz, hk⟩
        exact ⟨fun e => by have := HOLD.out.1 k h1; have := HBASE.out; omega, .inl h1⟩
      have hes : ∀ z ∈ zs, EvsS W z.lv z.xs := fun z hz => by
       rcases f2 z hz with rfl | hz
       ·exact (HEV.out W ho.below).1
       ·exact (HEV.out W ho.below).2.2 z hz
      refine ⟨⟨(ho.row.keep (fun k hk => hst k (ho.row.lt k hk).2 (by have := (ho.row.lt k hk).1; omega))).slice, fun z hz => (hes z hz).stay g2.size (fun k hk hf => hst k hk (hft z hz k hf).1)⟩, f1, fun k hk => ?_, ?_, g1⟩
      ·rcases hk with ⟨h0, hk⟩ | ⟨z, hz, hk⟩
       ·have := (ho.row.lt k hk).1
        have := HBW.out.size
        exact .inr (.inr (by omega))
       ·exact (hft z hz k hk).2
      ·exact (HBW.out.trans (ho.below.mono HBW.out.size)).grown g2 (Nat.le_trans HBW.out.size ho.below.size) (fun k hk => by injection hk with hk; have := HBASE.out; omega))
     cases b with
     | true =>
      have HZ : Hid (ts = putK DV.room d ds) := Lib.hid (by have := HPA.out; simpa using this)
      have y0 : wr.cell? ⟨B4, 0, none⟩ = some (.slice none 0 0) := cell_at HBX.out.2.2.1 0
      have z0 : wr.frozen? ⟨B4, 0, none⟩ = false := free_at HBX.out.2.2.1 0
      have HAN := Lib.hid (HEND.out ts _ wr _ HZ.out HO.out HBX.out.2.2.1 rfl)
      go_wp2_with fail
      clear c20 y0 z0
      generalize World.setCell _ _ _ = w9 at HAN ⊢
      have s0 : w9.cell? ⟨B4, 0, none⟩ = some (.slice Ao ts.length co) := cell_at HAN.out.2.2.2.2 0
      refine bodyPost_ret (v := .tuple #[.agg #[.slice Ao ts.length co], .int .i64 0]) ?_ rfl ?_
      ·simp [results, Tryz.results17, go_sem, s0]
      ·exact ⟨_, by rw [HE.out], ts, HAN.out.1, HAN.out.2.1, HAN.out.2.2.1, HAN.out.2.2.2.1⟩
     | false =>
      have HZ : Hid (ts ++ [d] = putK DV.room d ds) := Lib.hid (by have := HPA.out; simpa using this)
      have d60 : wr.cell? ⟨B6, 0, none⟩ = some (.string d.room) := cell_at HBX.out.2.2.2.1 0
      have d61 : wr.cell? ⟨B6, 1, none⟩ = some (.slice d.A d.xs.length d.cap) := cell_at HBX.out.2.2.2.1 1
      have hlit5 := Lib.hid (lit_D wr d)
      have HO5 := Lib.hid (HO.out.on (below_new wr (.cells #[.string d.room, .slice d.A d.xs.length d.cap] 93)))
      have hs5 := HO5.out.below.size
      go_upto_region 16 with (at_builtin; refine wpList_puts rfl knD (.tmp 67) (.tmp 69) 37 rfl (v := .slice Ao ts.length co) rfl HO5.out.row hs5 (.slice (some ⟨wr.heap.size, 0, none⟩) 1 1) [d] 1 rfl rfl (hlit5.out.srcN knD rfl) (by omega) ?_; intro A5 c5 w5 m5 g5 o5; have HP5 : Hid (OuS LD wc w5 (.slice A5 (ts.length + 1) c5) (ts ++ [d])) := Lib.hid (HO5.out.put g5 m5); clear m5 g5 o5)
      have HBX5 := Lib.hid (HC.out w5 HP5.out.below)
      have y0 : w5.cell? ⟨B4, 0, none⟩ = some (.slice none 0 0) := cell_at HBX5.out.2.2.1 0
      have z0 : w5.frozen? ⟨B4, 0, none⟩ = false := free_at HBX5.out.2.2.1 0
      have HAN := Lib.hid (HEND.out (ts ++ [d]) _ w5 _ HZ.out HP5.out HBX5.out.2.2.1 rfl)
      clear c20 d60 d61
      go_wp2_with fail
      clear y0 z0
      generalize World.setCell _ _ _ = w9 at HAN ⊢
      have s0 : w9.cell? ⟨B4, 0, none⟩ = some (.slice A5 (ts.length + 1) c5) := cell_at HAN.out.2.2.2.2 0
      refine bodyPost_ret (v := .tuple #[.agg #[.slice A5 (ts.length + 1) c5], .int .i64 0]) ?_ rfl ?_
      ·simp [results, Tryz.results17, go_sem, s0]
      ·exact ⟨_, by rw [HE.out], ts ++ [d], HAN.out.1, HAN.out.2.1, HAN.out.2.2.1, HAN.out.2.2.2.1⟩
  ·have q1 : (errV (vws ds) x.ev != 0) = true := by rw [bne_iff_ne]; exact he
   have HAV : Hid (addV (vws ds) x.ev = vws ds) := Lib.hid (by unfold addV; rw [if_neg he])
   have c20 : wc.cell? ⟨B2, 0, none⟩ = some (.slice A ds.length cap) := cell_at HA.out.b2 0
   have y0 : wc.cell? ⟨B4, 0, none⟩ = some (.slice none 0 0) := cell_at HA.out.b4 0
   have z0 : wc.frozen? ⟨B4, 0, none⟩ = false := free_at HA.out.b4 0
   have HAN := Lib.hid (one_at HA.out.b4 (.slice A ds.length cap) _ rfl)
   clear he
   go_wp2_with fail
   clear c20 y0 z0
   generalize World.setCell _ _ _ = w9 at HAN ⊢
   have s0 : w9.cell? ⟨B4, 0, none⟩ = some (.slice A ds.length cap) := cell_at HAN.out.1 0
   refine bodyPost_ret (v := .tuple #[.agg #[.slice A ds.length cap], .int .i64 (errV (vws ds) x.ev)]) ?_ rfl ?_
   ·simp [results, Tryz.results17, go_sem, s0]
   ·exact ⟨_, ds, rfl, HDSC.out.stay HAN.out.2.size (fun k hk hf => HAN.out.2.block k hk (fun e => by injection e with e; have := HOLD.out.1 k hf; have := HBASE.out; omega)), HAV.out.symm, fun k hk => .inl hk, HBW.out.grown HAN.out.2 HBW.out.size (fun k hk => by injection hk with hk; have := HBASE.out; omega)⟩
end Go.Proofs.YtnnapkakbdpkaaaGreat
