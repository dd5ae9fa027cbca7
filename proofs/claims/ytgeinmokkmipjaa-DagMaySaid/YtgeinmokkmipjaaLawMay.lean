/-
  DagMay: which events may be, and whether two are the same.
-/
import Derived.Test.YtgeinmokkmipjaaDagMade
import Derived.Test.YtgeinmokkmipjaaDagLives
import Derived.Deep.DeepCutAuto
namespace Go.Proofs.Ytgeinmokkmipjaa
set_option maxRecDepth 20000
open Go.RowKit
set_option linter.unusedVariables false
set_option linter.unusedSimpArgs false

def roomR : ByteArray := ⟨#[33, 114, 58, 115, 49]⟩
theorem roomR_room : namedB 33 roomR = true := by decide +kernel
theorem roomR_size : roomR.size ≤ maxLen := by decide
/-- Two events in their boxes. -/
structure MyS (w wr : World) (B9 B10 : Nat) (x y : EvV) : Prop where
  b9 : wr.heap[B9]? = some (.cells #[.string x.ev.id, .string x.ev.room, .slice x.A x.ev.parents.length x.cap, .string x.ev.thread, .string x.ev.user, .int .i64 x.ev.does] 24 (0, 0))
  b10 : wr.heap[B10]? = some (.cells #[.string y.ev.id, .string y.ev.room, .slice y.A y.ev.parents.length y.cap, .string y.ev.thread, .string y.ev.user, .int .i64 y.ev.does] 24 (0, 0))
  xa : x.at wr
  ya : y.at wr
  below : Below w.heap.size w wr
theorem MyS.on {w wr w2 : World} {B9 B10 : Nat} {x y : EvV} (h : MyS w wr B9 B10 x y) (hb : Below wr.heap.size wr w2) : MyS w w2 B9 B10 x y :=
  ⟨(hb.block B9 (smem_lt h.b9)).trans h.b9, (hb.block B10 (smem_lt h.b10)).trans h.b10, h.xa.below hb, h.ya.below hb, h.below.trans (hb.mono h.below.size)⟩
/-- One event in its box, another one that was handed in, in its own. -/
structure MzS (w wr : World) (B4 B9 : Nat) (r x : EvV) : Prop where
  b4 : wr.heap[B4]? = some (.cells #[.string r.ev.id, .string r.ev.room, .slice r.A r.ev.parents.length r.cap, .string r.ev.thread, .string r.ev.user, .int .i64 r.ev.does] 24 (0, 0))
  b9 : wr.heap[B9]? = some (.cells #[.string x.ev.id, .string x.ev.room, .slice x.A x.ev.parents.length x.cap, .string x.ev.thread, .string x.ev.user, .int .i64 x.ev.does] 24 (0, 0))
  xa : x.at wr
  below : Below w.heap.size w wr
theorem MzS.on {w wr w2 : World} {B4 B9 : Nat} {r x : EvV} (h : MzS w wr B4 B9 r x) (hb : Below wr.heap.size wr w2) : MzS w w2 B4 B9 r x :=
  ⟨(hb.block B4 (smem_lt h.b4)).trans h.b4, (hb.block B9 (smem_lt h.b9)).trans h.b9, h.xa.below hb, h.below.trans (hb.mono h.below.size)⟩

theorem EvV.at.far {x : EvV} {wr W : World} {B : Nat} (h : x.at wr) (hg : wr.grownBy W (some B)) (hne : 0 < x.ev.parents.length → ∀ k, x.pv.ownBlock = some k → k ≠ B) : x.at W := by
  refine ⟨?_, h.2⟩
  obtain ⟨A, cap, hv, h1, h2, h3, h4⟩ := h.1
  refine ⟨A, cap, hv, h1, h2, h3, fun hl => ?_⟩
  obtain ⟨b, off, hA, hb, hr⟩ := h4 hl
  have hn := hne hl b (by rw [hv, hA]; rfl)
  exact ⟨b, off, hA, Nat.lt_of_lt_of_le hb hg.size, fun j u hu => (World.cell?_of_block (a := ⟨b, off + j, none⟩) (hg.block b hb (fun e => hn (by injection e)))).trans (hr j u hu)⟩
theorem EvV.at.lt {x : EvV} {w : World} (h : x.at w) (hl : 0 < x.ev.parents.length) : ∀ k, x.pv.ownBlock = some k → k < w.heap.size := by
  intro k hk
  obtain ⟨A, cap, hv, h1, h2, h3, h4⟩ := h.1
  obtain ⟨b, off, hA, hb, hr⟩ := h4 hl
  rw [hv, hA] at hk
  injection hk with hk
  rw [← hk]
  exact hb
theorem odd_stored {w wr : World} {B4 B9 B10 : Nat} {r x y : EvV} (h : MzS w wr B4 B9 r x) (hy : y.at wr) (h10 : wr.heap[B10]? = some (.cells #[.string ⟨#[]⟩, .string ⟨#[]⟩, .slice none 0 0, .string ⟨#[]⟩, .string ⟨#[]⟩, .int .i64 0] 24 (0, 0))) (hlo : w.heap.size ≤ B10) (hn4 : B4 ≠ B10) (hn9 : B9 ≠ B10) (hf : ∀ k, x.pv.ownBlock = some k → k ≠ B10) (hf' : 0 < y.ev.parents.length → ∀ k, y.pv.ownBlock = some k → k ≠ B10) :
    ∀ W, W = wr.setCells B10 0 [.string y.ev.id, .string y.ev.room, .slice y.A y.ev.parents.length y.cap, .string y.ev.thread, .string y.ev.user, .int .i64 y.ev.does] → MzS w W B4 B9 r x ∧ MyS w W B9 B10 x y := by
  rintro W rfl
  obtain ⟨cur, z1, z2, z3⟩ := sm_at B10 24 [.string y.ev.id, .string y.ev.room, .slice y.A y.ev.parents.length y.cap, .string y.ev.thread, .string y.ev.user, .int .i64 y.ev.does] 0 wr _ h10 (Nat.le_refl 6)
  have z5 : cur = #[.string y.ev.id, .string y.ev.room, .slice y.A y.ev.parents.length y.cap, .string y.ev.thread, .string y.ev.user, .int .i64 y.ev.does] := Array.toList_inj.1 z3
  rw [z5] at z1
  have hg := sm_grown wr B10 0 [.string y.ev.id, .string y.ev.room, .slice y.A y.ev.parents.length y.cap, .string y.ev.thread, .string y.ev.user, .int .i64 y.ev.does]
  have e4 := (hg.block B4 (smem_lt h.b4) (fun e => hn4 (by injection e))).trans h.b4
  have e9 := (hg.block B9 (smem_lt h.b9) (fun e => hn9 (by injection e))).trans h.b9
  have hb := h.below.grown hg h.below.size (fun k hk => by injection hk with hk; omega)
  have xa : x.at _ := h.xa.far hg (fun _ => hf)
  have ya : y.at _ := hy.far hg hf'
  exact ⟨⟨e4, e9, xa, hb⟩, ⟨e9, z1, xa, ya, hb⟩⟩

set_option maxHeartbeats 6400000 in
theorem dagMay_walk (C : Dags) (CS : DagSms C) (raw : EvV) (v : Value) (gs : List GV) (k which : Int) (w : World) (hr : raw.at w) (h : GsS w v gs) (hk0 : -9223372036854775808 ≤ k) (hk1 : k ≤ 9223372036854775807) (hw0 : -9223372036854775808 ≤ which) (hw1 : which ≤ 9223372036854775807) :
    Calls Try.prog 3 #[raw.val, v, .int .i64 k, .int .i64 which] w fun e w' => e = .returned (.bool true) ∧ Below w.heap.size w w' := by
  have HG := Lib.hid h
  have HR := Lib.hid hr
  have HMA := Lib.hid (fun W (hb : Below w.heap.size w W) => refMade_any roomR v gs W (h.below hb) roomR_room)
  have hml : (madeTo roomR (gps gs) (min gs.length 9)).length = min gs.length 9 := (madeTo_row roomR_room (gps gs) (min gs.length 9) (by omega) (by rw [List.length_map]; omega)).2
  have HML := Lib.hid hml
  have HZ := Lib.hid (fun W => lives_any C W)
  have HBx := Lib.hid (heap_alloc_new w (.cells #[.string raw.ev.id, .string raw.ev.room, .slice raw.A raw.ev.parents.length raw.cap, .string raw.ev.thread, .string raw.ev.user, .int .i64 raw.ev.does] 24))
  have HBl := Lib.hid (below_new w (.cells #[.string raw.ev.id, .string raw.ev.room, .slice raw.A raw.ev.parents.length raw.cap, .string raw.ev.thread, .string raw.ev.user, .int .i64 raw.ev.does] 24))
  have HFW := Lib.hid (fun W (hb : Below w.heap.size w W) => refFewE_any raw W (hr.below hb))
  have HOD := Lib.hid (fun W v' xs (hb : Below w.heap.size w W) (he : EvsS W v' xs) (hl : xs.length ≤ 1000) => refOdd_any roomR v' xs k which raw W he hl roomR_size hk0 hk1 hw0 hw1 (hr.below hb))
  obtain ⟨A0, c0, rfl, -⟩ := id h.1
  clear h hr hml
  unfold EvV.val EvV.pv at *
  go_enter Try.func3, Try.ntmps3
  go_upto_region 1 with (fail)
  generalize w.alloc _ = w1 at HBx HBl ⊢
  generalize hB4 : w.heap.size = B4 at HBx ⊢
  have r0 : w1.cell? ⟨B4, 0, none⟩ = some (.string raw.ev.id) := cell_at HBx.out 0
  have r1 : w1.cell? ⟨B4, 1, none⟩ = some (.string raw.ev.room) := cell_at HBx.out 1
  have r2 : w1.cell? ⟨B4, 2, none⟩ = some (.slice raw.A raw.ev.parents.length raw.cap) := cell_at HBx.out 2
  have r3 : w1.cell? ⟨B4, 3, none⟩ = some (.string raw.ev.thread) := cell_at HBx.out 3
  have r4 : w1.cell? ⟨B4, 4, none⟩ = some (.string raw.ev.user) := cell_at HBx.out 4
  have r5 : w1.cell? ⟨B4, 5, none⟩ = some (.int .i64 raw.ev.does) := cell_at HBx.out 5
  go_wp2_with fail
  go_at_call 7
  refine (HFW.out _ HBl.out).mono ?_
  rintro e w2 ⟨x, rfl, hxa, -, hxm, b2⟩
  have hsz12 := b2.size
  replace HBx := Lib.hid ((b2.block B4 (smem_lt HBx.out)).trans HBx.out)
  replace HBl := Lib.hid (HBl.out.trans (b2.mono HBl.out.size))
  have hB4l : B4 < w2.heap.size := smem_lt HBx.out
  have HXM := Lib.hid (fun j (hj : (Value.slice x.A x.ev.parents.length x.cap).ownBlock = some j) => (hxm.lt j hj).2)
  have HXA := Lib.hid hxa
  have HZM := Lib.hid (show MzS w (w2.alloc (.cells #[.string x.ev.id, .string x.ev.room, .slice x.A x.ev.parents.length x.cap, .string x.ev.thread, .string x.ev.user, .int .i64 x.ev.does] 24)) B4 w2.heap.size raw x from ⟨((below_new w2 _).block B4 hB4l).trans HBx.out, heap_alloc_new w2 _, hxa.below (below_new w2 _), HBl.out.trans ((below_new w2 _).mono HBl.out.size)⟩)
  have hs3 : (w2.alloc (.cells #[.string x.ev.id, .string x.ev.room, .slice x.A x.ev.parents.length x.cap, .string x.ev.thread, .string x.ev.user, .int .i64 x.ev.does] 24)).heap.size = w2.heap.size + 1 := by simp
  clear b2 hxm hxa r0 r1 r2 r3 r4 r5 HFW HBx HBl
  go_upto_region 2 with (fail)
  generalize w2.alloc _ = w3 at HZM hs3 ⊢
  generalize w2.heap.size = B9 at HZM HXM hs3 hB4l ⊢
  go_cut [10] (fun s10 wx => ∃ (B10 : Nat), s10 = .pointer (some ⟨B10, 0, none⟩) ∧ Hid (∃ y, MyS w wx B9 B10 x y))
  case first =>
    refine wp_region_held_drew (S := fun w' => MzS w w' B4 B9 raw x) (by kernel_rfl) (HZM.out.on (Below.refl _ _).drew) (fun hHeld => ?_)
    have hwd : B9 + 1 ≤ w3.drew.heap.size := Nat.le_of_eq hs3.symm
    clear HZM hs3
    generalize w3.drew = wd at hHeld hwd ⊢
    refine wpAnyH_take (i := 0) (oi := ⟨some 13, _, _, _, _, _⟩) (v := ?va0) rfl (by kernel_rfl) (by kernel_rfl) (by kernel_rfl) (fun _ _ _ h => h) (Or.inl ⟨by rfl, ?ya0⟩) hHeld ?ra0
    case ya0 =>
      intro wx hSx
      go_simp
      try with_reducible rfl
    try simp only [Act.put, List.setIfInBounds_toArray, List.set_cons_zero, List.set_cons_succ]
    refine wpAnyH_take (i := 2) (oi := ⟨some 15, _, _, _, _, _⟩) (v := ?va2) rfl (by kernel_rfl) (by kernel_rfl) (by kernel_rfl) (fun _ _ _ h => h) (Or.inl ⟨by rfl, ?ya2⟩) hHeld ?ra2
    case ya2 =>
      intro wx hSx
      go_simp
      try with_reducible rfl
    try simp only [Act.put, List.setIfInBounds_toArray, List.set_cons_zero, List.set_cons_succ]
    refine wpAnyH_take (i := 3) (oi := ⟨some 16, _, _, _, _, _⟩) (v := ?va3) rfl (by kernel_rfl) (by kernel_rfl) (by kernel_rfl) (fun _ _ _ h => h) (Or.inl ⟨by rfl, ?ya3⟩) hHeld ?ra3
    case ya3 =>
      intro wx hSx
      go_simp
      try with_reducible rfl
    try simp only [Act.put, List.setIfInBounds_toArray, List.set_cons_zero, List.set_cons_succ]
    refine wpAnyH_take (i := 4) (oi := ⟨some 17, _, _, _, _, _⟩) (v := ?va4) rfl (by kernel_rfl) (by kernel_rfl) (by kernel_rfl) (fun _ _ _ h => h) (Or.inl ⟨by rfl, ?ya4⟩) hHeld ?ra4
    case ya4 =>
      intro wx hSx
      have p0 := cell_at hSx.b4 0
      have p1 := cell_at hSx.b4 1
      have p2 := cell_at hSx.b4 2
      have p3 := cell_at hSx.b4 3
      have p4 := cell_at hSx.b4 4
      have p5 := cell_at hSx.b4 5
      simp only [List.getElem?_toArray, List.getElem?_cons_succ, List.getElem?_cons_zero] at p0 p1 p2 p3 p4 p5
      go_simp
      try with_reducible rfl
    try simp only [Act.put, List.setIfInBounds_toArray, List.set_cons_zero, List.set_cons_succ]
    refine wpAnyH_ready (rs := [1, 6]) (by kernel_rfl) (by simp) ?_
    refine AllReadyH.cons (o := ⟨some 14, _, _, _, _, _⟩) rfl (fun K hK => ?waybA) (AllReadyH.cons (o := ⟨some 10, _, _, _, _, _⟩) rfl (fun K hK => ?waybB) AllReadyH.nil)
    case waybA =>
      have HMW := Lib.hid (HMA.out _ hHeld.below)
      unfold roomR at HMW
      have hszM := hHeld.below.size
      go_simp
      refine HMW.out.mono ?_
      rintro e wm ⟨v', xs, rfl, hes, hev, hbm, hft⟩
      have hxl : xs.length ≤ 9 := by
        rw [← evs_len, hev]
        have := HML.out
        unfold roomR at this
        rw [this]
        omega
      have HES := Lib.hid hes
      have HFT := Lib.hid hft
      have hsm := hbm.size
      clear hes hev hft HMW
      refine hK.out _ _ (hHeld.on hbm) (fun hHeld => ?_)
      clear hK K hbm
      try simp only [Act.put, List.setIfInBounds_toArray, List.set_cons_zero, List.set_cons_succ]
      refine wpAnyH_ready (rs := [5, 6]) (by kernel_rfl) (by simp) ?_
      refine AllReadyH.cons (o := ⟨some 18, _, _, _, _, _⟩) rfl (fun K hK => ?waycA) (AllReadyH.cons (o := ⟨some 10, _, _, _, _, _⟩) rfl (fun K hK => ?waycB) AllReadyH.nil)
      case waycA =>
        have HOW := Lib.hid (HOD.out _ _ _ hHeld.below HES.out (by omega))
        unfold roomR at HOW
        go_simp
        refine HOW.out.mono ?_
        rintro e wo ⟨y, rfl, hya, -, hbo, hyf⟩
        have HYA := Lib.hid hya
        have HYF := Lib.hid hyf
        have hso := hbo.size
        clear hya hyf HOW
        refine hK.out _ _ (hHeld.on hbo) (fun hHeld => ?_)
        clear hK K hbo
        try simp only [Act.put, List.setIfInBounds_toArray, List.set_cons_zero, List.set_cons_succ]
        refine wpAnyH_ready (rs := [6]) (by kernel_rfl) (by simp) ?_
        refine AllReadyH.cons (o := ⟨some 10, _, _, _, _, _⟩) rfl (fun K hK => ?_) AllReadyH.nil
        have HYL := Lib.hid (fun hl => HYA.out.lt hl)
        have hbn := below_new wo (.cells #[.string ⟨#[]⟩, .string ⟨#[]⟩, .slice none 0 0, .string ⟨#[]⟩, .string ⟨#[]⟩, .int .i64 0] 24)
        have h10 := heap_alloc_new wo (.cells #[.string ⟨#[]⟩, .string ⟨#[]⟩, .slice none 0 0, .string ⟨#[]⟩, .string ⟨#[]⟩, .int .i64 0] 24)
        have hsn : (wo.alloc (.cells #[.string ⟨#[]⟩, .string ⟨#[]⟩, .slice none 0 0, .string ⟨#[]⟩, .string ⟨#[]⟩, .int .i64 0] 24)).heap.size = wo.heap.size + 1 := by simp
        replace HYA := Lib.hid (HYA.out.below hbn)
        go_simp
        refine hK.out _ _ (hHeld.on hbn) (fun hHeld => ?_)
        clear hK K hbn
        try simp only [Act.put, List.setIfInBounds_toArray, List.set_cons_zero, List.set_cons_succ]
        generalize wo.alloc _ = we at hHeld h10 hsn HYA ⊢
        generalize hB10 : wo.heap.size = B10 at h10 hsn ⊢
        refine wpAnyH_ready (rs := [7]) (by kernel_rfl) (by simp) ?_
        refine AllReadyH.cons (o := ⟨none, _, _, _, _, _⟩) rfl (fun K hK => ?_) AllReadyH.nil
        have y0 : we.cell? ⟨B10, 0, none⟩ = some (.string ⟨#[]⟩) := cell_at h10 0
        have z0 : we.frozen? ⟨B10, 0, none⟩ = false := free_at h10 0
        have y1 : we.cell? ⟨B10, 1, none⟩ = some (.string ⟨#[]⟩) := cell_at h10 1
        have z1 : we.frozen? ⟨B10, 1, none⟩ = false := free_at h10 1
        have y2 : we.cell? ⟨B10, 2, none⟩ = some (.slice none 0 0) := cell_at h10 2
        have z2 : we.frozen? ⟨B10, 2, none⟩ = false := free_at h10 2
        have y3 : we.cell? ⟨B10, 3, none⟩ = some (.string ⟨#[]⟩) := cell_at h10 3
        have z3 : we.frozen? ⟨B10, 3, none⟩ = false := free_at h10 3
        have y4 : we.cell? ⟨B10, 4, none⟩ = some (.string ⟨#[]⟩) := cell_at h10 4
        have z4 : we.frozen? ⟨B10, 4, none⟩ = false := free_at h10 4
        have y5 : we.cell? ⟨B10, 5, none⟩ = some (.int .i64 0) := cell_at h10 5
        have z5 : we.frozen? ⟨B10, 5, none⟩ = false := free_at h10 5
        have hlt9 := smem_lt hHeld.b9
        have hszB := hHeld.below.size
        have HAN := odd_stored hHeld HYA.out h10 (by omega) (by omega) (by omega) (fun j hj => by have := HXM.out j hj; omega) (fun hl j hj => by
          have h1 := HYL.out hl j hj
          omega) _ rfl
        simp only [World.setCells] at HAN
        go_simp
        generalize World.setCell _ _ _ = w9 at HAN ⊢
        refine hK.out _ _ HAN.1 (fun hHeld => ?_)
        clear hK K
        try simp only [Act.put, List.setIfInBounds_toArray, List.set_cons_zero, List.set_cons_succ]
        refine wpAnyH_done (by kernel_rfl) ?_ _
        go_wp2_with fail
        go_meet
        exact ⟨B10, rfl, Lib.hid ⟨y, HAN.2⟩⟩
      case waycB =>
        have hbn := below_new wm (.cells #[.string ⟨#[]⟩, .string ⟨#[]⟩, .slice none 0 0, .string ⟨#[]⟩, .string ⟨#[]⟩, .int .i64 0] 24)
        have h10 := heap_alloc_new wm (.cells #[.string ⟨#[]⟩, .string ⟨#[]⟩, .slice none 0 0, .string ⟨#[]⟩, .string ⟨#[]⟩, .int .i64 0] 24)
        have hsn : (wm.alloc (.cells #[.string ⟨#[]⟩, .string ⟨#[]⟩, .slice none 0 0, .string ⟨#[]⟩, .string ⟨#[]⟩, .int .i64 0] 24)).heap.size = wm.heap.size + 1 := by simp
        replace HES := Lib.hid (HES.out.below hbn)
        go_simp
        refine hK.out _ _ (hHeld.on hbn) (fun hHeld => ?_)
        clear hK K hbn
        try simp only [Act.put, List.setIfInBounds_toArray, List.set_cons_zero, List.set_cons_succ]
        generalize wm.alloc _ = we at hHeld h10 hsn HES ⊢
        generalize hB10 : wm.heap.size = B10 at h10 hsn ⊢
        refine wpAnyH_ready (rs := [5]) (by kernel_rfl) (by simp) ?_
        refine AllReadyH.cons (o := ⟨some 18, _, _, _, _, _⟩) rfl (fun K hK => ?_) AllReadyH.nil
        have HOW := Lib.hid (HOD.out _ _ _ hHeld.below HES.out (by omega))
        unfold roomR at HOW
        go_simp
        refine HOW.out.mono ?_
        rintro e wo ⟨y, rfl, hya, -, hbo, hyf⟩
        have HYA := Lib.hid hya
        have HYF := Lib.hid hyf
        have hso := hbo.size
        replace h10 := (hbo.block B10 (smem_lt h10)).trans h10
        clear hya hyf HOW
        refine hK.out _ _ (hHeld.on hbo) (fun hHeld => ?_)
        clear hK K hbo
        try simp only [Act.put, List.setIfInBounds_toArray, List.set_cons_zero, List.set_cons_succ]
        refine wpAnyH_ready (rs := [7]) (by kernel_rfl) (by simp) ?_
        refine AllReadyH.cons (o := ⟨none, _, _, _, _, _⟩) rfl (fun K hK => ?_) AllReadyH.nil
        have y0 : wo.cell? ⟨B10, 0, none⟩ = some (.string ⟨#[]⟩) := cell_at h10 0
        have z0 : wo.frozen? ⟨B10, 0, none⟩ = false := free_at h10 0
        have y1 : wo.cell? ⟨B10, 1, none⟩ = some (.string ⟨#[]⟩) := cell_at h10 1
        have z1 : wo.frozen? ⟨B10, 1, none⟩ = false := free_at h10 1
        have y2 : wo.cell? ⟨B10, 2, none⟩ = some (.slice none 0 0) := cell_at h10 2
        have z2 : wo.frozen? ⟨B10, 2, none⟩ = false := free_at h10 2
        have y3 : wo.cell? ⟨B10, 3, none⟩ = some (.string ⟨#[]⟩) := cell_at h10 3
        have z3 : wo.frozen? ⟨B10, 3, none⟩ = false := free_at h10 3
        have y4 : wo.cell? ⟨B10, 4, none⟩ = some (.string ⟨#[]⟩) := cell_at h10 4
        have z4 : wo.frozen? ⟨B10, 4, none⟩ = false := free_at h10 4
        have y5 : wo.cell? ⟨B10, 5, none⟩ = some (.int .i64 0) := cell_at h10 5
        have z5 : wo.frozen? ⟨B10, 5, none⟩ = false := free_at h10 5
        have hlt9 := smem_lt hHeld.b9
        have hszB := hHeld.below.size
        have HAN := odd_stored hHeld HYA.out h10 (by omega) (by omega) (by omega) (fun j hj => by have := HXM.out j hj; omega) (fun hl j hj => by
          rcases HYF.out j hj with ⟨z, hz, hzj⟩ | h1
          · have h2 := HFT.out z hz j hzj
            omega
          · omega) _ rfl
        simp only [World.setCells] at HAN
        go_simp
        generalize World.setCell _ _ _ = w9 at HAN ⊢
        refine hK.out _ _ HAN.1 (fun hHeld => ?_)
        clear hK K
        try simp only [Act.put, List.setIfInBounds_toArray, List.set_cons_zero, List.set_cons_succ]
        refine wpAnyH_done (by kernel_rfl) ?_ _
        go_wp2_with fail
        go_meet
        exact ⟨B10, rfl, Lib.hid ⟨y, HAN.2⟩⟩
    case waybB =>
      have hbn := below_new wd (.cells #[.string ⟨#[]⟩, .string ⟨#[]⟩, .slice none 0 0, .string ⟨#[]⟩, .string ⟨#[]⟩, .int .i64 0] 24)
      have h10 := heap_alloc_new wd (.cells #[.string ⟨#[]⟩, .string ⟨#[]⟩, .slice none 0 0, .string ⟨#[]⟩, .string ⟨#[]⟩, .int .i64 0] 24)
      have hsn : (wd.alloc (.cells #[.string ⟨#[]⟩, .string ⟨#[]⟩, .slice none 0 0, .string ⟨#[]⟩, .string ⟨#[]⟩, .int .i64 0] 24)).heap.size = wd.heap.size + 1 := by simp
      go_simp
      refine hK.out _ _ (hHeld.on hbn) (fun hHeld => ?_)
      clear hK K hbn
      try simp only [Act.put, List.setIfInBounds_toArray, List.set_cons_zero, List.set_cons_succ]
      generalize wd.alloc _ = we at hHeld h10 hsn ⊢
      generalize hB10 : wd.heap.size = B10 at h10 hsn ⊢
      refine wpAnyH_ready (rs := [1]) (by kernel_rfl) (by simp) ?_
      refine AllReadyH.cons (o := ⟨some 14, _, _, _, _, _⟩) rfl (fun K hK => ?_) AllReadyH.nil
      have HMW := Lib.hid (HMA.out _ hHeld.below)
      unfold roomR at HMW
      have hszM := hHeld.below.size
      go_simp
      refine HMW.out.mono ?_
      rintro e wm ⟨v', xs, rfl, hes, hev, hbm, hft⟩
      have hxl : xs.length ≤ 9 := by
        rw [← evs_len, hev]
        have := HML.out
        unfold roomR at this
        rw [this]
        omega
      have HES := Lib.hid hes
      have HFT := Lib.hid hft
      have hsm := hbm.size
      replace h10 := (hbm.block B10 (smem_lt h10)).trans h10
      clear hes hev hft HMW
      refine hK.out _ _ (hHeld.on hbm) (fun hHeld => ?_)
      clear hK K hbm
      try simp only [Act.put, List.setIfInBounds_toArray, List.set_cons_zero, List.set_cons_succ]
      refine wpAnyH_ready (rs := [5]) (by kernel_rfl) (by simp) ?_
      refine AllReadyH.cons (o := ⟨some 18, _, _, _, _, _⟩) rfl (fun K hK => ?_) AllReadyH.nil
      have HOW := Lib.hid (HOD.out _ _ _ hHeld.below HES.out (by omega))
      unfold roomR at HOW
      go_simp
      refine HOW.out.mono ?_
      rintro e wo ⟨y, rfl, hya, -, hbo, hyf⟩
      have HYA := Lib.hid hya
      have HYF := Lib.hid hyf
      have hso := hbo.size
      replace h10 := (hbo.block B10 (smem_lt h10)).trans h10
      clear hya hyf HOW
      refine hK.out _ _ (hHeld.on hbo) (fun hHeld => ?_)
      clear hK K hbo
      try simp only [Act.put, List.setIfInBounds_toArray, List.set_cons_zero, List.set_cons_succ]
      refine wpAnyH_ready (rs := [7]) (by kernel_rfl) (by simp) ?_
      refine AllReadyH.cons (o := ⟨none, _, _, _, _, _⟩) rfl (fun K hK => ?_) AllReadyH.nil
      have y0 : wo.cell? ⟨B10, 0, none⟩ = some (.string ⟨#[]⟩) := cell_at h10 0
      have z0 : wo.frozen? ⟨B10, 0, none⟩ = false := free_at h10 0
      have y1 : wo.cell? ⟨B10, 1, none⟩ = some (.string ⟨#[]⟩) := cell_at h10 1
      have z1 : wo.frozen? ⟨B10, 1, none⟩ = false := free_at h10 1
      have y2 : wo.cell? ⟨B10, 2, none⟩ = some (.slice none 0 0) := cell_at h10 2
      have z2 : wo.frozen? ⟨B10, 2, none⟩ = false := free_at h10 2
      have y3 : wo.cell? ⟨B10, 3, none⟩ = some (.string ⟨#[]⟩) := cell_at h10 3
      have z3 : wo.frozen? ⟨B10, 3, none⟩ = false := free_at h10 3
      have y4 : wo.cell? ⟨B10, 4, none⟩ = some (.string ⟨#[]⟩) := cell_at h10 4
      have z4 : wo.frozen? ⟨B10, 4, none⟩ = false := free_at h10 4
      have y5 : wo.cell? ⟨B10, 5, none⟩ = some (.int .i64 0) := cell_at h10 5
      have z5 : wo.frozen? ⟨B10, 5, none⟩ = false := free_at h10 5
      have hlt9 := smem_lt hHeld.b9
      have hszB := hHeld.below.size
      have HAN := odd_stored hHeld HYA.out h10 (by omega) (by omega) (by omega) (fun j hj => by have := HXM.out j hj; omega) (fun hl j hj => by
        rcases HYF.out j hj with ⟨z, hz, hzj⟩ | h1
        · have h2 := HFT.out z hz j hzj
          omega
        · omega) _ rfl
      simp only [World.setCells] at HAN
      go_simp
      generalize World.setCell _ _ _ = w9 at HAN ⊢
      refine hK.out _ _ HAN.1 (fun hHeld => ?_)
      clear hK K
      try simp only [Act.put, List.setIfInBounds_toArray, List.set_cons_zero, List.set_cons_succ]
      refine wpAnyH_done (by kernel_rfl) ?_ _
      go_wp2_with fail
      go_meet
      exact ⟨B10, rfl, Lib.hid ⟨y, HAN.2⟩⟩
  case rest =>
    obtain ⟨B10, rfl, HYE⟩ := hcut
    obtain ⟨y, hy⟩ := HYE.out
    have HY := Lib.hid hy
    clear hy HYE HZM
    go_upto_region 3 with (fail)
    refine wp_region_held_drew (S := fun w' => MyS w w' B9 B10 x y) (by kernel_rfl) (HY.out.on (Below.refl _ _).drew) (fun hHeld => ?_)
    clear HY
    have HM1 := Lib.hid (fun (z : EvV) W (hz : z.at W) => C.may (w := W) z hz)
    have HM2 := Lib.hid (fun (z : EvV) W (hz : z.at W) => refMay_any z W hz)
    have HS1 := Lib.hid (fun (z u : EvV) W (hz : z.at W) (hu : u.at W) => CS.same (w := W) z u hz hu)
    have HS2 := Lib.hid (fun (z u : EvV) W (hz : z.at W) (hu : u.at W) => refSame_any z u W hz.1 hu.1)
    have q1 : (mayE x.ev == mayE x.ev) = true := beq_self_eq_true _
    have q2 : (mayE y.ev == mayE y.ev) = true := beq_self_eq_true _
    have q3 : (decide (x.ev = y.ev) == decide (x.ev = y.ev)) = true := beq_self_eq_true _
    have q4 : decide (y.ev = y.ev) = true := decide_eq_true rfl
    unfold EvV.val EvV.pv at HM1 HM2 HS1 HS2
    generalize World.drew _ = wd at hHeld ⊢
    refine wpAnyH_take (i := 0) (oi := ⟨some 19, _, _, _, _, _⟩) (v := ?vg0) rfl (by kernel_rfl) (by kernel_rfl) (by kernel_rfl) (fun _ _ _ h => h) (Or.inl ⟨by rfl, ?yg0⟩) hHeld ?rg0
    case yg0 =>
      intro wx hSx
      have p0 := cell_at hSx.b9 0
      have p1 := cell_at hSx.b9 1
      have p2 := cell_at hSx.b9 2
      have p3 := cell_at hSx.b9 3
      have p4 := cell_at hSx.b9 4
      have p5 := cell_at hSx.b9 5
      simp only [List.getElem?_toArray, List.getElem?_cons_succ, List.getElem?_cons_zero] at p0 p1 p2 p3 p4 p5
      go_simp
      try with_reducible rfl
    try simp only [Act.put, List.setIfInBounds_toArray, List.set_cons_zero, List.set_cons_succ]
    refine wpAnyH_take (i := 2) (oi := ⟨some 21, _, _, _, _, _⟩) (v := ?vg2) rfl (by kernel_rfl) (by kernel_rfl) (by kernel_rfl) (fun _ _ _ h => h) (Or.inl ⟨by rfl, ?yg2⟩) hHeld ?rg2
    case yg2 =>
      intro wx hSx
      have p0 := cell_at hSx.b9 0
      have p1 := cell_at hSx.b9 1
      have p2 := cell_at hSx.b9 2
      have p3 := cell_at hSx.b9 3
      have p4 := cell_at hSx.b9 4
      have p5 := cell_at hSx.b9 5
      simp only [List.getElem?_toArray, List.getElem?_cons_succ, List.getElem?_cons_zero] at p0 p1 p2 p3 p4 p5
      go_simp
      try with_reducible rfl
    try simp only [Act.put, List.setIfInBounds_toArray, List.set_cons_zero, List.set_cons_succ]
    refine wpAnyH_ready (rs := [1]) (by kernel_rfl) (by simp) ?_
    refine AllReadyH.cons (o := ⟨some 20, _, _, _, _, _⟩) rfl (fun K hK => ?_) AllReadyH.nil
    go_simp
    refine (HM1.out x _ hHeld.xa).mono ?_
    rintro e wn ⟨rfl, hbn⟩
    refine hK.out _ _ (hHeld.on hbn) (fun hHeld => ?_)
    clear hK K hbn
    try simp only [Act.put, List.setIfInBounds_toArray, List.set_cons_zero, List.set_cons_succ]
    generalize wn = wd at hHeld ⊢
    refine wpAnyH_ready (rs := [3]) (by kernel_rfl) (by simp) ?_
    refine AllReadyH.cons (o := ⟨some 22, _, _, _, _, _⟩) rfl (fun K hK => ?_) AllReadyH.nil
    go_simp
    refine (HM2.out x _ hHeld.xa).mono ?_
    rintro e wn ⟨rfl, hbn⟩
    replace hbn := Gr.below hbn
    refine hK.out _ _ (hHeld.on hbn) (fun hHeld => ?_)
    clear hK K hbn
    try simp only [Act.put, List.setIfInBounds_toArray, List.set_cons_zero, List.set_cons_succ]
    generalize wn = wd at hHeld ⊢
    refine wpAnyH_take (i := 4) (oi := ⟨some 23, _, _, _, _, _⟩) (v := ?vg4) rfl (by kernel_rfl) (by kernel_rfl) (by kernel_rfl) (fun _ _ _ h => h) (Or.inl ⟨by rfl, ?yg4⟩) hHeld ?rg4
    case yg4 =>
      intro wx hSx
      go_simp
      try with_reducible rfl
    try simp only [Act.put, List.setIfInBounds_toArray, List.set_cons_zero, List.set_cons_succ]
    refine wpAnyH_take (i := 5) (oi := ⟨some 24, _, _, _, _, _⟩) (v := ?vg5) rfl (by kernel_rfl) (by kernel_rfl) (by kernel_rfl) (fun _ _ _ h => h) (Or.inl ⟨by rfl, ?yg5⟩) hHeld ?rg5
    case yg5 =>
      intro wx hSx
      go_simp
      try with_reducible rfl
    try simp only [Act.put, List.setIfInBounds_toArray, List.set_cons_zero, List.set_cons_succ]
    try simp only [q1]
    refine wpAnyH_take (i := 6) (oi := ⟨some 25, _, _, _, _, _⟩) (v := ?vg6) rfl (by kernel_rfl) (by kernel_rfl) (by kernel_rfl) (fun _ _ _ h => h) (Or.inl ⟨by rfl, ?yg6⟩) hHeld ?rg6
    case yg6 =>
      intro wx hSx
      have p0 := cell_at hSx.b10 0
      have p1 := cell_at hSx.b10 1
      have p2 := cell_at hSx.b10 2
      have p3 := cell_at hSx.b10 3
      have p4 := cell_at hSx.b10 4
      have p5 := cell_at hSx.b10 5
      simp only [List.getElem?_toArray, List.getElem?_cons_succ, List.getElem?_cons_zero] at p0 p1 p2 p3 p4 p5
      go_simp
      try with_reducible rfl
    try simp only [Act.put, List.setIfInBounds_toArray, List.set_cons_zero, List.set_cons_succ]
    refine wpAnyH_take (i := 8) (oi := ⟨some 27, _, _, _, _, _⟩) (v := ?vg8) rfl (by kernel_rfl) (by kernel_rfl) (by kernel_rfl) (fun _ _ _ h => h) (Or.inl ⟨by rfl, ?yg8⟩) hHeld ?rg8
    case yg8 =>
      intro wx hSx
      have p0 := cell_at hSx.b10 0
      have p1 := cell_at hSx.b10 1
      have p2 := cell_at hSx.b10 2
      have p3 := cell_at hSx.b10 3
      have p4 := cell_at hSx.b10 4
      have p5 := cell_at hSx.b10 5
      simp only [List.getElem?_toArray, List.getElem?_cons_succ, List.getElem?_cons_zero] at p0 p1 p2 p3 p4 p5
      go_simp
      try with_reducible rfl
    try simp only [Act.put, List.setIfInBounds_toArray, List.set_cons_zero, List.set_cons_succ]
    refine wpAnyH_ready (rs := [7]) (by kernel_rfl) (by simp) ?_
    refine AllReadyH.cons (o := ⟨some 26, _, _, _, _, _⟩) rfl (fun K hK => ?_) AllReadyH.nil
    go_simp
    refine (HM1.out y _ hHeld.ya).mono ?_
    rintro e wn ⟨rfl, hbn⟩
    refine hK.out _ _ (hHeld.on hbn) (fun hHeld => ?_)
    clear hK K hbn
    try simp only [Act.put, List.setIfInBounds_toArray, List.set_cons_zero, List.set_cons_succ]
    generalize wn = wd at hHeld ⊢
    refine wpAnyH_ready (rs := [9]) (by kernel_rfl) (by simp) ?_
    refine AllReadyH.cons (o := ⟨some 28, _, _, _, _, _⟩) rfl (fun K hK => ?_) AllReadyH.nil
    go_simp
    refine (HM2.out y _ hHeld.ya).mono ?_
    rintro e wn ⟨rfl, hbn⟩
    replace hbn := Gr.below hbn
    refine hK.out _ _ (hHeld.on hbn) (fun hHeld => ?_)
    clear hK K hbn
    try simp only [Act.put, List.setIfInBounds_toArray, List.set_cons_zero, List.set_cons_succ]
    generalize wn = wd at hHeld ⊢
    refine wpAnyH_take (i := 10) (oi := ⟨some 29, _, _, _, _, _⟩) (v := ?vg10) rfl (by kernel_rfl) (by kernel_rfl) (by kernel_rfl) (fun _ _ _ h => h) (Or.inl ⟨by rfl, ?yg10⟩) hHeld ?rg10
    case yg10 =>
      intro wx hSx
      go_simp
      try with_reducible rfl
    try simp only [Act.put, List.setIfInBounds_toArray, List.set_cons_zero, List.set_cons_succ]
    refine wpAnyH_take (i := 11) (oi := ⟨some 30, _, _, _, _, _⟩) (v := ?vg11) rfl (by kernel_rfl) (by kernel_rfl) (by kernel_rfl) (fun _ _ _ h => h) (Or.inl ⟨by rfl, ?yg11⟩) hHeld ?rg11
    case yg11 =>
      intro wx hSx
      go_simp
      try with_reducible rfl
    try simp only [Act.put, List.setIfInBounds_toArray, List.set_cons_zero, List.set_cons_succ]
    refine wpAnyH_take (i := 12) (oi := ⟨some 31, _, _, _, _, _⟩) (v := ?vg12) rfl (by kernel_rfl) (by kernel_rfl) (by kernel_rfl) (fun _ _ _ h => h) (Or.inl ⟨by rfl, ?yg12⟩) hHeld ?rg12
    case yg12 =>
      intro wx hSx
      go_simp
      try with_reducible rfl
    try simp only [Act.put, List.setIfInBounds_toArray, List.set_cons_zero, List.set_cons_succ]
    try simp only [q2]
    refine wpAnyH_take (i := 13) (oi := ⟨some 32, _, _, _, _, _⟩) (v := ?vg13) rfl (by kernel_rfl) (by kernel_rfl) (by kernel_rfl) (fun _ _ _ h => h) (Or.inl ⟨by rfl, ?yg13⟩) hHeld ?rg13
    case yg13 =>
      intro wx hSx
      have p0 := cell_at hSx.b9 0
      have p1 := cell_at hSx.b9 1
      have p2 := cell_at hSx.b9 2
      have p3 := cell_at hSx.b9 3
      have p4 := cell_at hSx.b9 4
      have p5 := cell_at hSx.b9 5
      simp only [List.getElem?_toArray, List.getElem?_cons_succ, List.getElem?_cons_zero] at p0 p1 p2 p3 p4 p5
      go_simp
      try with_reducible rfl
    try simp only [Act.put, List.setIfInBounds_toArray, List.set_cons_zero, List.set_cons_succ]
    refine wpAnyH_take (i := 14) (oi := ⟨some 33, _, _, _, _, _⟩) (v := ?vg14) rfl (by kernel_rfl) (by kernel_rfl) (by kernel_rfl) (fun _ _ _ h => h) (Or.inl ⟨by rfl, ?yg14⟩) hHeld ?rg14
    case yg14 =>
      intro wx hSx
      have p0 := cell_at hSx.b10 0
      have p1 := cell_at hSx.b10 1
      have p2 := cell_at hSx.b10 2
      have p3 := cell_at hSx.b10 3
      have p4 := cell_at hSx.b10 4
      have p5 := cell_at hSx.b10 5
      simp only [List.getElem?_toArray, List.getElem?_cons_succ, List.getElem?_cons_zero] at p0 p1 p2 p3 p4 p5
      go_simp
      try with_reducible rfl
    try simp only [Act.put, List.setIfInBounds_toArray, List.set_cons_zero, List.set_cons_succ]
    refine wpAnyH_take (i := 16) (oi := ⟨some 35, _, _, _, _, _⟩) (v := ?vg16) rfl (by kernel_rfl) (by kernel_rfl) (by kernel_rfl) (fun _ _ _ h => h) (Or.inl ⟨by rfl, ?yg16⟩) hHeld ?rg16
    case yg16 =>
      intro wx hSx
      have p0 := cell_at hSx.b9 0
      have p1 := cell_at hSx.b9 1
      have p2 := cell_at hSx.b9 2
      have p3 := cell_at hSx.b9 3
      have p4 := cell_at hSx.b9 4
      have p5 := cell_at hSx.b9 5
      simp only [List.getElem?_toArray, List.getElem?_cons_succ, List.getElem?_cons_zero] at p0 p1 p2 p3 p4 p5
      go_simp
      try with_reducible rfl
    try simp only [Act.put, List.setIfInBounds_toArray, List.set_cons_zero, List.set_cons_succ]
    refine wpAnyH_take (i := 17) (oi := ⟨some 36, _, _, _, _, _⟩) (v := ?vg17) rfl (by kernel_rfl) (by kernel_rfl) (by kernel_rfl) (fun _ _ _ h => h) (Or.inl ⟨by rfl, ?yg17⟩) hHeld ?rg17
    case yg17 =>
      intro wx hSx
      have p0 := cell_at hSx.b10 0
      have p1 := cell_at hSx.b10 1
      have p2 := cell_at hSx.b10 2
      have p3 := cell_at hSx.b10 3
      have p4 := cell_at hSx.b10 4
      have p5 := cell_at hSx.b10 5
      simp only [List.getElem?_toArray, List.getElem?_cons_succ, List.getElem?_cons_zero] at p0 p1 p2 p3 p4 p5
      go_simp
      try with_reducible rfl
    try simp only [Act.put, List.setIfInBounds_toArray, List.set_cons_zero, List.set_cons_succ]
    refine wpAnyH_ready (rs := [15]) (by kernel_rfl) (by simp) ?_
    refine AllReadyH.cons (o := ⟨some 34, _, _, _, _, _⟩) rfl (fun K hK => ?_) AllReadyH.nil
    go_simp
    refine (HS1.out x y _ hHeld.xa hHeld.ya).mono ?_
    rintro e wn ⟨rfl, hbn⟩
    refine hK.out _ _ (hHeld.on hbn) (fun hHeld => ?_)
    clear hK K hbn
    try simp only [Act.put, List.setIfInBounds_toArray, List.set_cons_zero, List.set_cons_succ]
    generalize wn = wd at hHeld ⊢
    refine wpAnyH_ready (rs := [18]) (by kernel_rfl) (by simp) ?_
    refine AllReadyH.cons (o := ⟨some 37, _, _, _, _, _⟩) rfl (fun K hK => ?_) AllReadyH.nil
    go_simp
    refine (HS2.out x y _ hHeld.xa hHeld.ya).mono ?_
    rintro e wn ⟨rfl, hbn⟩
    replace hbn := Gr.below hbn
    refine hK.out _ _ (hHeld.on hbn) (fun hHeld => ?_)
    clear hK K hbn
    try simp only [Act.put, List.setIfInBounds_toArray, List.set_cons_zero, List.set_cons_succ]
    generalize wn = wd at hHeld ⊢
    refine wpAnyH_take (i := 19) (oi := ⟨some 38, _, _, _, _, _⟩) (v := ?vg19) rfl (by kernel_rfl) (by kernel_rfl) (by kernel_rfl) (fun _ _ _ h => h) (Or.inl ⟨by rfl, ?yg19⟩) hHeld ?rg19
    case yg19 =>
      intro wx hSx
      go_simp
      try with_reducible rfl
    try simp only [Act.put, List.setIfInBounds_toArray, List.set_cons_zero, List.set_cons_succ]
    refine wpAnyH_take (i := 20) (oi := ⟨some 39, _, _, _, _, _⟩) (v := ?vg20) rfl (by kernel_rfl) (by kernel_rfl) (by kernel_rfl) (fun _ _ _ h => h) (Or.inl ⟨by rfl, ?yg20⟩) hHeld ?rg20
    case yg20 =>
      intro wx hSx
      go_simp
      try with_reducible rfl
    try simp only [Act.put, List.setIfInBounds_toArray, List.set_cons_zero, List.set_cons_succ]
    refine wpAnyH_take (i := 21) (oi := ⟨some 40, _, _, _, _, _⟩) (v := ?vg21) rfl (by kernel_rfl) (by kernel_rfl) (by kernel_rfl) (fun _ _ _ h => h) (Or.inl ⟨by rfl, ?yg21⟩) hHeld ?rg21
    case yg21 =>
      intro wx hSx
      go_simp
      try with_reducible rfl
    try simp only [Act.put, List.setIfInBounds_toArray, List.set_cons_zero, List.set_cons_succ]
    try simp only [q3]
    refine wpAnyH_take (i := 22) (oi := ⟨some 41, _, _, _, _, _⟩) (v := ?vg22) rfl (by kernel_rfl) (by kernel_rfl) (by kernel_rfl) (fun _ _ _ h => h) (Or.inl ⟨by rfl, ?yg22⟩) hHeld ?rg22
    case yg22 =>
      intro wx hSx
      have p0 := cell_at hSx.b10 0
      have p1 := cell_at hSx.b10 1
      have p2 := cell_at hSx.b10 2
      have p3 := cell_at hSx.b10 3
      have p4 := cell_at hSx.b10 4
      have p5 := cell_at hSx.b10 5
      simp only [List.getElem?_toArray, List.getElem?_cons_succ, List.getElem?_cons_zero] at p0 p1 p2 p3 p4 p5
      go_simp
      try with_reducible rfl
    try simp only [Act.put, List.setIfInBounds_toArray, List.set_cons_zero, List.set_cons_succ]
    refine wpAnyH_take (i := 23) (oi := ⟨some 42, _, _, _, _, _⟩) (v := ?vg23) rfl (by kernel_rfl) (by kernel_rfl) (by kernel_rfl) (fun _ _ _ h => h) (Or.inl ⟨by rfl, ?yg23⟩) hHeld ?rg23
    case yg23 =>
      intro wx hSx
      have p0 := cell_at hSx.b10 0
      have p1 := cell_at hSx.b10 1
      have p2 := cell_at hSx.b10 2
      have p3 := cell_at hSx.b10 3
      have p4 := cell_at hSx.b10 4
      have p5 := cell_at hSx.b10 5
      simp only [List.getElem?_toArray, List.getElem?_cons_succ, List.getElem?_cons_zero] at p0 p1 p2 p3 p4 p5
      go_simp
      try with_reducible rfl
    try simp only [Act.put, List.setIfInBounds_toArray, List.set_cons_zero, List.set_cons_succ]
    refine wpAnyH_ready (rs := [24]) (by kernel_rfl) (by simp) ?_
    refine AllReadyH.cons (o := ⟨some 43, _, _, _, _, _⟩) rfl (fun K hK => ?_) AllReadyH.nil
    go_simp
    refine (HS1.out y y _ hHeld.ya hHeld.ya).mono ?_
    rintro e wn ⟨rfl, hbn⟩
    refine hK.out _ _ (hHeld.on hbn) (fun hHeld => ?_)
    clear hK K hbn
    try simp only [Act.put, List.setIfInBounds_toArray, List.set_cons_zero, List.set_cons_succ]
    generalize wn = wd at hHeld ⊢
    refine wpAnyH_take (i := 25) (oi := ⟨some 44, _, _, _, _, _⟩) (v := ?vg25) rfl (by kernel_rfl) (by kernel_rfl) (by kernel_rfl) (fun _ _ _ h => h) (Or.inl ⟨by rfl, ?yg25⟩) hHeld ?rg25
    case yg25 =>
      intro wx hSx
      go_simp
      try with_reducible rfl
    try simp only [Act.put, List.setIfInBounds_toArray, List.set_cons_zero, List.set_cons_succ]
    refine wpAnyH_take (i := 26) (oi := ⟨some 45, _, _, _, _, _⟩) (v := ?vg26) rfl (by kernel_rfl) (by kernel_rfl) (by kernel_rfl) (fun _ _ _ h => h) (Or.inl ⟨by rfl, ?yg26⟩) hHeld ?rg26
    case yg26 =>
      intro wx hSx
      go_simp
      try with_reducible rfl
    try simp only [Act.put, List.setIfInBounds_toArray, List.set_cons_zero, List.set_cons_succ]
    try simp only [q4]
    refine wpAnyH_ready (rs := [27]) (by kernel_rfl) (by simp) ?_
    refine AllReadyH.cons (o := ⟨some 46, _, _, _, _, _⟩) rfl (fun K hK => ?_) AllReadyH.nil
    go_simp
    refine (HZ.out _).mono ?_
    rintro e wn ⟨rfl, hbn⟩
    refine hK.out _ _ (hHeld.on hbn) (fun hHeld => ?_)
    clear hK K hbn
    try simp only [Act.put, List.setIfInBounds_toArray, List.set_cons_zero, List.set_cons_succ]
    generalize wn = wd at hHeld ⊢
    refine wpAnyH_take (i := 28) (oi := ⟨some 47, _, _, _, _, _⟩) (v := ?vg28) rfl (by kernel_rfl) (by kernel_rfl) (by kernel_rfl) (fun _ _ _ h => h) (Or.inl ⟨by rfl, ?yg28⟩) hHeld ?rg28
    case yg28 =>
      intro wx hSx
      go_simp
      try with_reducible rfl
    try simp only [Act.put, List.setIfInBounds_toArray, List.set_cons_zero, List.set_cons_succ]
    refine wpAnyH_take (i := 29) (oi := ⟨some 8, _, _, _, _, _⟩) (v := ?vg29) rfl (by kernel_rfl) (by kernel_rfl) (by kernel_rfl) (fun _ _ _ h => h) (Or.inl ⟨by rfl, ?yg29⟩) hHeld ?rg29
    case yg29 =>
      intro wx hSx
      go_simp
      try with_reducible rfl
    try simp only [Act.put, List.setIfInBounds_toArray, List.set_cons_zero, List.set_cons_succ]
    refine wpAnyH_done (by kernel_rfl) ?_ _
    go_wp2_with fail
    go_ret
    exact ⟨rfl, hB4 ▸ hHeld.below⟩
end Go.Proofs.Ytgeinmokkmipjaa
