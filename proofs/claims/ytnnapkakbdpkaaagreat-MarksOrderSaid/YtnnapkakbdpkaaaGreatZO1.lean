/-
  What the statements stand on, part ZO1.
-/
import Derived.Test.YtnnapkakbdpkaaaGreatZB2
import Derived.Test.YtnnapkakbdpkaaaGreatZO0
set_option linter.unusedVariables false
set_option linter.unusedSimpArgs false
namespace Go.Proofs.YtnnapkakbdpkaaaGreat
set_option maxRecDepth 20000
open Go.RowKit
theorem foldE_row (V : Vw) (rs : List Edu) : RowM (foldE V rs) := row_foldM row_nilM
theorem foldE_len (V : Vw) (rs : List Edu) : (foldE V rs).length ≤ rs.length := by
 have := fold_leM ((rs.filter (fun e => decide (fitV V e = 0))).map (markE V)) []
 have h2 := List.length_filter_le (fun e => decide (fitV V e = 0)) rs
 rw [List.length_nil, List.length_map] at this
 unfold foldE
 omega
theorem foldE_yes {V : Vw} {rs : List Edu} {a : Nat} {x : Edu} (hx : rs[a]? = some x) (hf : fitV V x = 0) : foldE V (rs.take (a + 1)) = putM (foldE V (rs.take a)) (markE V x) := by
 unfold foldE
 rw [filter_yes hx (decide_eq_true hf), List.map_append]
 exact fold_snocM _ _ _
theorem foldE_no {V : Vw} {rs : List Edu} {a : Nat} {x : Edu} (hx : rs[a]? = some x) (hf : fitV V x ≠ 0) : foldE V (rs.take (a + 1)) = foldE V (rs.take a) := by
 unfold foldE
 rw [filter_no hx (decide_eq_false hf)]
theorem FoP.write {w wr : World} {u : Value} {g2 g8 : Nat} {vt : Value} {l : List Mk} {X : Array Value} (h : FoP w wr u g2 vt l) (hlo : w.heap.size ≤ g8) (hne : g2 ≠ g8) (hrow : ∀ k, 0 < l.length → vt.ownBlock = some k → k ≠ g8) : FoP w (wr.setRow g8 X) u g2 vt l := by
 have hg := grown_setRow wr g8 X
 exact ⟨below_setRow h.below hlo X, (setRow_other wr g8 g2 X hne).trans h.b2, h.row.stay0 hg.size (fun k _ h0 hk => setRow_other wr g8 k X (hrow k h0 hk))⟩
set_option maxHeartbeats 6400000 in
theorem fold13_any {w : World} {uv vr : Value} {ds : List DV} {rs : List Edu} (hu : DsS w uv ds) (hV : VOk 100 (vws ds)) (hr : LE.Slice w vr rs) (hl : rs.length ≤ 100) :
  Calls Tryz.prog 26 #[.agg #[uv], vr] w fun x w' => ∃ v, x = .returned v ∧ LM.Slice w' v (foldE (vws ds) rs) ∧ Below w.heap.size w w' := by
 obtain ⟨A, cap, rfl, h1, h2, -⟩ := id hr
 unfold maxLen at h2
 have HR := Lib.hid hr
 have HU := Lib.hid hu
 have HVK := Lib.hid hV
 have H0 : Hid (FoP w (w.alloc (.cells #[uv] 39)) uv w.heap.size (.slice none 0 0) (foldE (vws ds) (rs.take 0))) := Lib.hid ⟨below_new w _, heap_alloc_new w _, Lies.Slice.nil _⟩
 clear hr hu hV
 go_enter Tryz.func26, Tryz.ntmps26
 go_upto_region 1 with (fail)
 generalize World.alloc _ _ = w1 at H0 ⊢
 obtain ⟨g2, hg2⟩ : ∃ g, w.heap.size = g := ⟨_, rfl⟩
 rw [hg2] at H0 ⊢
 clear hg2
 go_wp2_with fail
 go_loopw [6, 5, 7, 8, 9, 10, 11] (fun i vt _ _ _ _ _ wr => ∃ a : Nat, i = .int .i64 (a : Int) ∧ a ≤ rs.length ∧ Hid (FoP w wr uv g2 vt (foldE (vws ds) (rs.take a)))) (fun i _ _ _ _ _ _ _ => rs.length - (intOf i).toNat)
 case atStart => exact ⟨0, rfl, Nat.zero_le _, H0⟩
 case round =>
  obtain ⟨a, rfl, ha, HA⟩ := hrel
  clear H0
  by_cases hax : a < rs.length
  ·have q1 : decide ((a : Int) < (rs.length : Int)) = true := decide_eq_true (by omega)
   have hx : rs[a]? = some rs[a] := List.getElem?_eq_getElem hax
   generalize rs[a] = x at hx
   have HYE := Lib.hid (fun hf => foldE_yes (V := vws ds) hx hf)
   have HNO := Lib.hid (fun hf => foldE_no (V := vws ds) hx hf)
   have HRW := Lib.hid (foldE_row (vws ds) (rs.take a))
   have HLN : Hid ((foldE (vws ds) (rs.take a)).length ≤ 100) := Lib.hid (by have := foldE_len (vws ds) (rs.take a); rw [List.length_take] at this; omega)
   obtain ⟨bo, oo, rfl, hbo, hco⟩ := (HR.out.below HA.out.below).at hx
   have hiy := index_any (P := Tryz.prog) knE (by decide) (b := bo) (off := oo) (cap := cap) hax
   have HXX := Lib.hid (fun (W : World) (hb : Below w.heap.size w W) => show W.rangeAt bo (oo + a * 11) (Edu.cells x) from by
    obtain ⟨bo2, oo2, e1, -, hco2⟩ := (HR.out.below hb).at hx
    injection e1 with e1
    injection e1 with e2 e3 _
    subst e2 e3
    simpa [LE] using hco2)
   simp only [LE] at hiy
   have HFIT := Lib.hid (fun W (hb : Below w.heap.size w W) => fits13_any (HU.out.below hb) HVK.out x.room x.event x.thread)
   have HPOS := Lib.hid (fun W (hb : Below w.heap.size w W) => refPosition10_any (HU.out.below hb) HVK.out x.room x.event)
   have HFV : Hid (fitsL (ofL (vws ds) x.room) x.event x.thread = fitV (vws ds) x) := Lib.hid rfl
   rw [HFV.out] at HFIT
   have HPV : Hid (posV (vws ds) x.room x.event = (bif hasE (ofL (vws ds) x.room) x.event then posL (ofL (vws ds) x.room) x.event else ⟨0, ⟨#[]⟩⟩)) := Lib.hid rfl
   rw [← HPV.out] at HPOS
   have HMK : Hid (markE (vws ds) x = ⟨keyE x, posV (vws ds) x.room x.event⟩) := Lib.hid rfl
   rw [HMK.out] at HYE
   have HOF := Lib.hid (fun W => refOf13_any x W)
   generalize fitV (vws ds) x = fv at *
   generalize posV (vws ds) x.room x.event = po at *
   generalize hasE (ofL (vws ds) x.room) x.event = hs at *
   generalize foldE (vws ds) (rs.take a) = l1 at *
   generalize keyE x = ke at *
   clear hx hco HFV HPV HMK
   obtain ⟨xk, xr, xu, xz, xt, xp, xo, xs, xy, xc, xm⟩ := x
   obtain ⟨kr, ku, kt, kp⟩ := ke
   simp only [Edu.val, Rk.val] at *
   go_upto_region 5 with (fail)
   refine wp_region_held_drew (S := fun W => FoP w W uv g2 u5 l1) (by kernel_rfl) (HA.out.later (below_drew _)) (fun hHeld => ?_)
   clear HA
   generalize World.drew _ = wd at hHeld ⊢
   refine wpAnyH_take (i := 0) (oi := ⟨some 18, _, _, _, _, _⟩) (v := ?va0) rfl (by kernel_rfl) (by kernel_rfl) (by kernel_rfl) (fun _ _ _ h => h) (Or.inl ⟨by rfl, ?ya0⟩) hHeld ?ra0
   case ya0 =>
    intro wx hSx
    have v0 : wx.cell? ⟨g2, 0, none⟩ = some uv := cell_at hSx.b2 0
    go_simp
    try with_reducible rfl
   try simp only [actS]
   refine wpAnyH_take (i := 1) (oi := ⟨some 19, _, _, _, _, _⟩) (v := ?va1) rfl (by kernel_rfl) (by kernel_rfl) (by kernel_rfl) (fun _ _ _ h => h) (Or.inl ⟨by rfl, ?ya1⟩) hHeld ?ra1
   case ya1 =>
    intro wx hSx
    go_simp
    try with_reducible rfl
   try simp only [actS]
   refine wpAnyH_take (i := 2) (oi := ⟨some 20, _, _, _, _, _⟩) (v := ?va2) rfl (by kernel_rfl) (by kernel_rfl) (by kernel_rfl) (fun _ _ _ h => h) (Or.inl ⟨by rfl, ?ya2⟩) hHeld ?ra2
   case ya2 =>
    intro wx hSx
    go_simp
    try with_reducible rfl
   try simp only [actS]
   refine wpAnyH_take (i := 3) (oi := ⟨some 21, _, _, _, _, _⟩) (v := ?va3) rfl (by kernel_rfl) (by kernel_rfl) (by kernel_rfl) (fun _ _ _ h => h) (Or.inl ⟨by rfl, ?ya3⟩) hHeld ?ra3
   case ya3 =>
    intro wx hSx
    go_simp
    try with_reducible rfl
   try simp only [actS]
   refine wpAnyH_take (i := 4) (oi := ⟨some 22, _, _, _, _, _⟩) (v := ?va4) rfl (by kernel_rfl) (by kernel_rfl) (by kernel_rfl) (fun _ _ _ h => h) (Or.inl ⟨by rfl, ?ya4⟩) hHeld ?ra4
   case ya4 =>
    intro wx hSx
    go_simp
    try with_reducible rfl
   try simp only [actS]
   refine wpAnyH_take (i := 5) (oi := ⟨some 23, _, _, _, _, _⟩) (v := ?va5) rfl (by kernel_rfl) (by kernel_rfl) (by kernel_rfl) (fun _ _ _ h => h) (Or.inl ⟨by rfl, ?ya5⟩) hHeld ?ra5
   case ya5 =>
    intro wx hSx
    obtain ⟨a0, a1, a2, a3, a4, a5, a6, a7, a8, a9, a10⟩ := range11 (HXX.out wx hSx.below)
    go_simp
    try with_reducible rfl
   try simp only [actS]
   refine wpAnyH_take (i := 6) (oi := ⟨some 24, _, _, _, _, _⟩) (v := ?va6) rfl (by kernel_rfl) (by kernel_rfl) (by kernel_rfl) (fun _ _ _ h => h) (Or.inl ⟨by rfl, ?ya6⟩) hHeld ?ra6
   case ya6 =>
    intro wx hSx
    go_simp
    try with_reducible rfl
   try simp only [actS]
   refine wpAnyH_take (i := 7) (oi := ⟨some 25, _, _, _, _, _⟩) (v := ?va7) rfl (by kernel_rfl) (by kernel_rfl) (by kernel_rfl) (fun _ _ _ h => h) (Or.inl ⟨by rfl, ?ya7⟩) hHeld ?ra7
   case ya7 =>
    intro wx hSx
    go_simp
    try with_reducible rfl
   try simp only [actS]
   refine wpAnyH_take (i := 8) (oi := ⟨some 26, _, _, _, _, _⟩) (v := ?va8) rfl (by kernel_rfl) (by kernel_rfl) (by kernel_rfl) (fun _ _ _ h => h) (Or.inl ⟨by rfl, ?ya8⟩) hHeld ?ra8
   case ya8 =>
    intro wx hSx
    go_simp
    try with_reducible rfl
   try simp only [actS]
   refine wpAnyH_take (i := 9) (oi := ⟨some 27, _, _, _, _, _⟩) (v := ?va9) rfl (by kernel_rfl) (by kernel_rfl) (by kernel_rfl) (fun _ _ _ h => h) (Or.inl ⟨by rfl, ?ya9⟩) hHeld ?ra9
   case ya9 =>
    intro wx hSx
    go_simp
    try with_reducible rfl
   try simp only [actS]
   refine wpAnyH_take (i := 10) (oi := ⟨some 28, _, _, _, _, _⟩) (v := ?va10) rfl (by kernel_rfl) (by kernel_rfl) (by kernel_rfl) (fun _ _ _ h => h) (Or.inl ⟨by rfl, ?ya10⟩) hHeld ?ra10
   case ya10 =>
    intro wx hSx
    obtain ⟨a0, a1, a2, a3, a4, a5, a6, a7, a8, a9, a10⟩ := range11 (HXX.out wx hSx.below)
    go_simp
    try with_reducible rfl
   try simp only [actS]
   refine wpAnyH_take (i := 11) (oi := ⟨some 29, _, _, _, _, _⟩) (v := ?va11) rfl (by kernel_rfl) (by kernel_rfl) (by kernel_rfl) (fun _ _ _ h => h) (Or.inl ⟨by rfl, ?ya11⟩) hHeld ?ra11
   case ya11 =>
    intro wx hSx
    go_simp
    try with_reducible rfl
   try simp only [actS]
   refine wpAnyH_take (i := 12) (oi := ⟨some 30, _, _, _, _, _⟩) (v := ?va12) rfl (by kernel_rfl) (by kernel_rfl) (by kernel_rfl) (fun _ _ _ h => h) (Or.inl ⟨by rfl, ?ya12⟩) hHeld ?ra12
   case ya12 =>
    intro wx hSx
    go_simp
    try with_reducible rfl
   try simp only [actS]
   refine wpAnyH_take (i := 13) (oi := ⟨some 31, _, _, _, _, _⟩) (v := ?va13) rfl (by kernel_rfl) (by kernel_rfl) (by kernel_rfl) (fun _ _ _ h => h) (Or.inl ⟨by rfl, ?ya13⟩) hHeld ?ra13
   case ya13 =>
    intro wx hSx
    go_simp
    try with_reducible rfl
   try simp only [actS]
   refine wpAnyH_take (i := 14) (oi := ⟨some 32, _, _, _, _, _⟩) (v := ?va14) rfl (by kernel_rfl) (by kernel_rfl) (by kernel_rfl) (fun _ _ _ h => h) (Or.inl ⟨by rfl, ?ya14⟩) hHeld ?ra14
   case ya14 =>
    intro wx hSx
    go_simp
    try with_reducible rfl
   try simp only [actS]
   refine wpAnyH_take (i := 15) (oi := ⟨some 33, _, _, _, _, _⟩) (v := ?va15) rfl (by kernel_rfl) (by kernel_rfl) (by kernel_rfl) (fun _ _ _ h => h) (Or.inl ⟨by rfl, ?ya15⟩) hHeld ?ra15
   case ya15 =>
    intro wx hSx
    obtain ⟨a0, a1, a2, a3, a4, a5, a6, a7, a8, a9, a10⟩ := range11 (HXX.out wx hSx.below)
    go_simp
    try with_reducible rfl
   try simp only [actS]
   refine wpAnyH_ready (rs := [16]) (by kernel_rfl) (by simp) ?_
   refine AllReadyH.cons (o := ⟨some 34, _, _, _, _, _⟩) rfl (fun K hK => ?_) AllReadyH.nil
   have HF1 := HFIT.out wd hHeld.below
   go_simp
   refine HF1.mono ?_
   rintro e wa ⟨rfl, hb⟩
   refine hK.out _ _ (hHeld.later hb) (fun hHeld => ?_)
   clear hK K hb HF1
   try simp only [actS]
   refine wpAnyH_take (i := 17) (oi := ⟨some 7, _, _, _, _, _⟩) (v := ?va17) rfl (by kernel_rfl) (by kernel_rfl) (by kernel_rfl) (fun _ _ _ h => h) (Or.inl ⟨by rfl, ?ya17⟩) hHeld ?ra17
   case ya17 =>
    intro wx hSx
    go_simp
    try with_reducible rfl
   try simp only [actS]
   refine wpAnyH_done (by kernel_rfl) ?_ _
   have HA := Lib.hid hHeld
   clear hHeld HFIT
   by_cases hf : fv = 0
   ·have HL2 := Lib.hid (HYE.out hf)
    subst hf
    clear HYE HNO
    go_upto_region 7 with (fail)
    refine wp_region_held_drew (S := fun W => FoP w W uv g2 u5 l1) (by kernel_rfl) (HA.out.later (below_drew _)) (fun hHeld => ?_)
    clear HA
    generalize World.drew _ = wd at hHeld ⊢
    have HG : Hid (w.heap.size ≤ wd.heap.size ∧ g2 < wd.heap.size ∧ ∀ k, 0 < l1.length → u5.ownBlock = some k → k < wd.heap.size) := Lib.hid ⟨hHeld.below.size, smem_lt hHeld.b2, fun k h0 hk => hHeld.row.foot h0 hk⟩
    refine wpAnyH_take (i := 0) (oi := ⟨some 38, _, _, _, _, _⟩) (v := ?vb0) rfl (by kernel_rfl) (by kernel_rfl) (by kernel_rfl) (fun _ _ _ h => h) (Or.inl ⟨by rfl, ?yb0⟩) hHeld ?rb0
    case yb0 =>
     intro wx hSx
     have v0 : wx.cell? ⟨g2, 0, none⟩ = some uv := cell_at hSx.b2 0
     go_simp
     try with_reducible rfl
    try simp only [actS]
    refine wpAnyH_take (i := 1) (oi := ⟨some 39, _, _, _, _, _⟩) (v := ?vb1) rfl (by kernel_rfl) (by kernel_rfl) (by kernel_rfl) (fun _ _ _ h => h) (Or.inl ⟨by rfl, ?yb1⟩) hHeld ?rb1
    case yb1 =>
     intro wx hSx
     go_simp
     try with_reducible rfl
    try simp only [actS]
    refine wpAnyH_take (i := 2) (oi := ⟨some 40, _, _, _, _, _⟩) (v := ?vb2) rfl (by kernel_rfl) (by kernel_rfl) (by kernel_rfl) (fun _ _ _ h => h) (Or.inl ⟨by rfl, ?yb2⟩) hHeld ?rb2
    case yb2 =>
     intro wx hSx
     go_simp
     try with_reducible rfl
    try simp only [actS]
    refine wpAnyH_take (i := 3) (oi := ⟨some 41, _, _, _, _, _⟩) (v := ?vb3) rfl (by kernel_rfl) (by kernel_rfl) (by kernel_rfl) (fun _ _ _ h => h) (Or.inl ⟨by rfl, ?yb3⟩) hHeld ?rb3
    case yb3 =>
     intro wx hSx
     go_simp
     try with_reducible rfl
    try simp only [actS]
    refine wpAnyH_take (i := 4) (oi := ⟨some 42, _, _, _, _, _⟩) (v := ?vb4) rfl (by kernel_rfl) (by kernel_rfl) (by kernel_rfl) (fun _ _ _ h => h) (Or.inl ⟨by rfl, ?yb4⟩) hHeld ?rb4
    case yb4 =>
     intro wx hSx
     go_simp
     try with_reducible rfl
    try simp only [actS]
    refine wpAnyH_take (i := 5) (oi := ⟨some 43, _, _, _, _, _⟩) (v := ?vb5) rfl (by kernel_rfl) (by kernel_rfl) (by kernel_rfl) (fun _ _ _ h => h) (Or.inl ⟨by rfl, ?yb5⟩) hHeld ?rb5
    case yb5 =>
     intro wx hSx
     obtain ⟨a0, a1, a2, a3, a4, a5, a6, a7, a8, a9, a10⟩ := range11 (HXX.out wx hSx.below)
     go_simp
     try with_reducible rfl
    try simp only [actS]
    refine wpAnyH_take (i := 6) (oi := ⟨some 44, _, _, _, _, _⟩) (v := ?vb6) rfl (by kernel_rfl) (by kernel_rfl) (by kernel_rfl) (fun _ _ _ h => h) (Or.inl ⟨by rfl, ?yb6⟩) hHeld ?rb6
    case yb6 =>
     intro wx hSx
     go_simp
     try with_reducible rfl
    try simp only [actS]
    refine wpAnyH_take (i := 7) (oi := ⟨some 45, _, _, _, _, _⟩) (v := ?vb7) rfl (by kernel_rfl) (by kernel_rfl) (by kernel_rfl) (fun _ _ _ h => h) (Or.inl ⟨by rfl, ?yb7⟩) hHeld ?rb7
    case yb7 =>
     intro wx hSx
     go_simp
     try with_reducible rfl
    try simp only [actS]
    refine wpAnyH_take (i := 8) (oi := ⟨some 46, _, _, _, _, _⟩) (v := ?vb8) rfl (by kernel_rfl) (by kernel_rfl) (by kernel_rfl) (fun _ _ _ h => h) (Or.inl ⟨by rfl, ?yb8⟩) hHeld ?rb8
    case yb8 =>
     intro wx hSx
     go_simp
     try with_reducible rfl
    try simp only [actS]
    refine wpAnyH_take (i := 9) (oi := ⟨some 47, _, _, _, _, _⟩) (v := ?vb9) rfl (by kernel_rfl) (by kernel_rfl) (by kernel_rfl) (fun _ _ _ h => h) (Or.inl ⟨by rfl, ?yb9⟩) hHeld ?rb9
    case yb9 =>
     intro wx hSx
     go_simp
     try with_reducible rfl
    try simp only [actS]
    refine wpAnyH_take (i := 10) (oi := ⟨some 48, _, _, _, _, _⟩) (v := ?vb10) rfl (by kernel_rfl) (by kernel_rfl) (by kernel_rfl) (fun _ _ _ h => h) (Or.inl ⟨by rfl, ?yb10⟩) hHeld ?rb10
    case yb10 =>
     intro wx hSx
     obtain ⟨a0, a1, a2, a3, a4, a5, a6, a7, a8, a9, a10⟩ := range11 (HXX.out wx hSx.below)
     go_simp
     try with_reducible rfl
    try simp only [actS]
    refine wpAnyH_ready (rs := [11, 15]) (by kernel_rfl) (by simp) ?_
    refine AllReadyH.cons (o := ⟨some 49, _, _, _, _, _⟩) rfl (fun K hK => ?wayA) (AllReadyH.cons (o := ⟨some 8, _, _, _, _, _⟩) rfl (fun K hK => ?wayB) AllReadyH.nil)
    case wayA =>
     have HP1 := HPOS.out wd hHeld.below
     go_simp
     refine HP1.mono ?_
     rintro e wa ⟨p3, rfl, rfl, hb⟩
     have hsz := hb.size
     refine hK.out _ _ (hHeld.later hb) (fun hHeld => ?_)
     clear hK K hb HP1
     try simp only [actS]
     obtain ⟨pd, pi⟩ := p3
     simp only [Po.val] at *
     refine wpAnyH_take (i := 12) (oi := ⟨some 37, _, _, _, _, _⟩) (v := ?vc12) rfl (by kernel_rfl) (by kernel_rfl) (by kernel_rfl) (fun _ _ _ h => h) (Or.inl ⟨by rfl, ?yc12⟩) hHeld ?rc12
     case yc12 =>
      intro wx hSx
      go_simp
      try with_reducible rfl
     try simp only [actS]
     refine wpAnyH_take (i := 13) (oi := ⟨some 50, _, _, _, _, _⟩) (v := ?vc13) rfl (by kernel_rfl) (by kernel_rfl) (by kernel_rfl) (fun _ _ _ h => h) (Or.inl ⟨by rfl, ?yc13⟩) hHeld ?rc13
     case yc13 =>
      intro wx hSx
      go_simp
      try with_reducible rfl
     try simp only [actS]
     refine wpAnyH_take (i := 14) (oi := ⟨some 51, _, _, _, _, _⟩) (v := ?vc14) rfl (by kernel_rfl) (by kernel_rfl) (by kernel_rfl) (fun _ _ _ h => h) (Or.inl ⟨by rfl, ?yc14⟩) hHeld ?rc14
     case yc14 =>
      intro wx hSx
      go_simp
      try with_reducible rfl
     try simp only [actS]
     refine wpAnyH_ready (rs := [15]) (by kernel_rfl) (by simp) ?_
     refine AllReadyH.cons (o := ⟨some 8, _, _, _, _, _⟩) rfl (fun K hK => ?_) AllReadyH.nil
     have h8 := heap_alloc_new wa (.cells #[.int .i64 0, .string ⟨#[]⟩] 83)
     have hH := hHeld.later (below_new wa (.cells #[.int .i64 0, .string ⟨#[]⟩] 83))
     go_simp
     generalize World.alloc _ _ = w8 at h8 hH ⊢
     have hgw : wd.heap.size ≤ wa.heap.size := hsz
     generalize wa.heap.size = g8 at h8 hgw ⊢
     refine hK.out _ _ hH (fun hHeld => ?_)
     clear hK K hH hsz
     try simp only [actS]
     refine wpAnyH_ready (rs := [16]) (by kernel_rfl) (by simp) ?_
     refine AllReadyH.cons (o := ⟨none, _, _, _, _, _⟩) rfl (fun K hK => ?_) AllReadyH.nil
     have hG := HG.out
     have hH : FoP w (w8.setRow g8 #[.int .i64 pd, .string pi]) uv g2 u5 l1 := hHeld.write (by omega) (by omega) (fun k h0 hk => by have := hG.2.2 k h0 hk; omega)
     have hset := setRow_heap w8 g8 _ #[.int .i64 pd, .string pi] _ _ h8
     rw [if_pos (by rfl)]
     refine wp_store_row 83 (.tmp 8) (.tmp 50) rfl g8 #[.int .i64 pd, .string pi] rfl rfl 83 #[.int .i64 0, .string ⟨#[]⟩] h8 pos_info rfl (one2 _ _) ?_
     refine hK.out _ _ hH (fun hHeld => ?_)
     clear hK K hH h8 hG
     generalize World.setRow _ _ _ = w9 at hset hHeld ⊢
     try simp only [actS]
     refine wpAnyH_take (i := 17) (oi := ⟨some 9, _, _, _, _, _⟩) (v := ?vc17) rfl (by kernel_rfl) (by kernel_rfl) (by kernel_rfl) (fun _ _ _ h => h) (Or.inl ⟨by rfl, ?yc17⟩) hHeld ?rc17
     case yc17 =>
      intro wx hSx
      go_simp
      try with_reducible rfl
     try simp only [actS]
     refine wpAnyH_done (by kernel_rfl) ?_ _
     go_upto_region 8 with (fail)
     have hSD : FoP w w9.drew uv g2 u5 l1 ∧ w9.drew.heap[g8]? = some (.cells #[.int .i64 pd, .string pi] 83 (0, 0)) := ⟨hHeld.later (below_drew w9), hset⟩
     refine wp_region_held_drew (S := fun W => FoP w W uv g2 u5 l1 ∧ W.heap[g8]? = some (.cells #[.int .i64 pd, .string pi] 83 (0, 0))) (by kernel_rfl) hSD (fun hHeld => ?_)
     clear hSD hset
     generalize World.drew _ = wd at hHeld ⊢
     refine wpAnyH_take (i := 0) (oi := ⟨some 53, _, _, _, _, _⟩) (v := ?vrb0) rfl (by kernel_rfl) (by kernel_rfl) (by kernel_rfl) (fun _ _ _ h => h) (Or.inl ⟨by rfl, ?yrb0⟩) hHeld ?rrb0
     case yrb0 =>
      intro wx hSx
      go_simp
      try with_reducible rfl
     try simp only [actS]
     refine wpAnyH_take (i := 1) (oi := ⟨some 54, _, _, _, _, _⟩) (v := ?vrb1) rfl (by kernel_rfl) (by kernel_rfl) (by kernel_rfl) (fun _ _ _ h => h) (Or.inl ⟨by rfl, ?yrb1⟩) hHeld ?rrb1
     case yrb1 =>
      intro wx hSx
      go_simp
      try with_reducible rfl
     try simp only [actS]
     refine wpAnyH_take (i := 2) (oi := ⟨some 55, _, _, _, _, _⟩) (v := ?vrb2) rfl (by kernel_rfl) (by kernel_rfl) (by kernel_rfl) (fun _ _ _ h => h) (Or.inl ⟨by rfl, ?yrb2⟩) hHeld ?rrb2
     case yrb2 =>
      intro wx hSx
      go_simp
      try with_reducible rfl
     try simp only [actS]
     refine wpAnyH_take (i := 3) (oi := ⟨some 56, _, _, _, _, _⟩) (v := ?vrb3) rfl (by kernel_rfl) (by kernel_rfl) (by kernel_rfl) (fun _ _ _ h => h) (Or.inl ⟨by rfl, ?yrb3⟩) hHeld ?rrb3
     case yrb3 =>
      intro wx hSx
      go_simp
      try with_reducible rfl
     try simp only [actS]
     refine wpAnyH_take (i := 4) (oi := ⟨some 57, _, _, _, _, _⟩) (v := ?vrb4) rfl (by kernel_rfl) (by kernel_rfl) (by kernel_rfl) (fun _ _ _ h => h) (Or.inl ⟨by rfl, ?yrb4⟩) hHeld ?rrb4
     case yrb4 =>
      intro wx hSx
      obtain ⟨a0, a1, a2, a3, a4, a5, a6, a7, a8, a9, a10⟩ := range11 (HXX.out wx hSx.1.below)
      go_simp
      try with_reducible rfl
     try simp only [actS]
     refine wpAnyH_take (i := 6) (oi := ⟨some 59, _, _, _, _, _⟩) (v := ?vrb6) rfl (by kernel_rfl) (by kernel_rfl) (by kernel_rfl) (fun _ _ _ h => h) (Or.inl ⟨by rfl, ?yrb6⟩) hHeld ?rrb6
     case yrb6 =>
      intro wx hSx
      have y0 := cell_at hSx.2 0
      have y1 := cell_at hSx.2 1
      simp only [List.getElem?_toArray, List.getElem?_cons_succ, List.getElem?_cons_zero] at y0 y1
      go_simp
      try with_reducible rfl
     try simp only [actS]
     refine wpAnyH_ready (rs := [5]) (by kernel_rfl) (by simp) ?_
     refine AllReadyH.cons (o := ⟨some 58, _, _, _, _, _⟩) rfl (fun K hK => ?_) AllReadyH.nil
     go_simp
     refine (HOF.out _).mono ?_
     rintro e wa ⟨rfl, hb⟩
     refine hK.out _ _ ⟨hHeld.1.later hb, (hb.block _ (smem_lt hHeld.2)).trans hHeld.2⟩ (fun hHeld => ?_)
     clear hK K hb
     try simp only [actS]
     refine wpAnyH_ready (rs := [7]) (by kernel_rfl) (by simp) ?_
     refine AllReadyH.cons (o := ⟨some 60, _, _, _, _, _⟩) rfl (fun K hK => ?_) AllReadyH.nil
     have HT1 := refPutM_any u5 l1 ⟨kr, ku, kt, kp⟩ ⟨pd, pi⟩ wa hHeld.1.row HRW.out (by have := HLN.out; omega)
     simp only [Rk.val, Po.val] at HT1
     go_simp
     refine HT1.mono ?_
     rintro e wb ⟨vn, rfl, hpl, hb⟩
     have HF2 : Hid (FoP w wb uv g2 vn (putM l1 ⟨⟨kr, ku, kt, kp⟩, ⟨pd, pi⟩⟩)) := Lib.hid (by
      have h0 := hHeld.1.later hb
      refine ⟨h0.below, h0.b2, ?_⟩
      rcases hpl with ⟨rfl, h2⟩ | h1
      ·rw [putM_off h2]; exact h0.row
      ·exact h1.slice)
     refine hK.out _ _ ⟨hHeld.1.later hb, (hb.block _ (smem_lt hHeld.2)).trans hHeld.2⟩ (fun hHeld => ?_)
     clear hK K hb HT1 hpl
     try simp only [actS]
     refine wpAnyH_take (i := 8) (oi := ⟨some 52, _, _, _, _, _⟩) (v := ?vrb8) rfl (by kernel_rfl) (by kernel_rfl) (by kernel_rfl) (fun _ _ _ h => h) (Or.inl ⟨by rfl, ?yrb8⟩) hHeld ?rrb8
     case yrb8 =>
      intro wx hSx
      go_simp
      try with_reducible rfl
     try simp only [actS]
     refine wpAnyH_take (i := 9) (oi := ⟨some 61, _, _, _, _, _⟩) (v := ?vrb9) rfl (by kernel_rfl) (by kernel_rfl) (by kernel_rfl) (fun _ _ _ h => h) (Or.inl ⟨by rfl, ?yrb9⟩) hHeld ?rrb9
     case yrb9 =>
      intro wx hSx
      go_simp
      try with_reducible rfl
     try simp only [actS]
     refine wpAnyH_take (i := 10) (oi := ⟨some 62, _, _, _, _, _⟩) (v := ?vrb10) rfl (by kernel_rfl) (by kernel_rfl) (by kernel_rfl) (fun _ _ _ h => h) (Or.inl ⟨by rfl, ?yrb10⟩) hHeld ?rrb10
     case yrb10 =>
      intro wx hSx
      go_simp
      try with_reducible rfl
     try simp only [actS]
     refine wpAnyH_take (i := 11) (oi := ⟨some 10, _, _, _, _, _⟩) (v := ?vrb11) rfl (by kernel_rfl) (by kernel_rfl) (by kernel_rfl) (fun _ _ _ h => h) (Or.inl ⟨by rfl, ?yrb11⟩) hHeld ?rrb11
     case yrb11 =>
      intro wx hSx
      go_simp
      try with_reducible rfl
     try simp only [actS]
     refine wpAnyH_take (i := 12) (oi := ⟨some 11, _, _, _, _, _⟩) (v := ?vrb12) rfl (by kernel_rfl) (by kernel_rfl) (by kernel_rfl) (fun _ _ _ h => h) (Or.inl ⟨by rfl, ?yrb12⟩) hHeld ?rrb12
     case yrb12 =>
      intro wx hSx
      go_simp
      try with_reducible rfl
     try simp only [actS]
     refine wpAnyH_done (by kernel_rfl) ?_ _
     clear hHeld
     go_wp2_with fail
     refine ⟨⟨a + 1, by go_num, by omega, by rw [HL2.out]; exact HF2⟩, ?_⟩
     simp [intOf]; omega
    case wayB =>
     have h8 := heap_alloc_new wd (.cells #[.int .i64 0, .string ⟨#[]⟩] 83)
     have hH := hHeld.later (below_new wd (.cells #[.int .i64 0, .string ⟨#[]⟩] 83))
     go_simp
     generalize hww : World.alloc _ _ = w7 at h8 hH ⊢
     have hgw : wd.heap.size ≤ wd.heap.size := Nat.le_refl _
     obtain ⟨g8, hg8⟩ : ∃ g, wd.heap.size = g := ⟨_, rfl⟩
     rw [hg8] at HG h8 hgw ⊢
     refine hK.out _ _ hH (fun hHeld => ?_)
     clear hK K hH hww
     try simp only [actS]
     refine wpAnyH_ready (rs := [11]) (by kernel_rfl) (by simp) ?_
     refine AllReadyH.cons (o := ⟨some 49, _, _, _, _, _⟩) rfl (fun K hK => ?_) AllReadyH.nil
     have HP1 := HPOS.out w7 hHeld.below
     go_simp
     refine HP1.mono ?_
     rintro e w8 ⟨p3, rfl, rfl, hb⟩
     replace h8 := (hb.block _ (smem_lt h8)).trans h8
     refine hK.out _ _ (hHeld.later hb) (fun hHeld => ?_)
     clear hK K hb HP1
     try simp only [actS]
     obtain ⟨pd, pi⟩ := p3
     simp only [Po.val] at *
     refine wpAnyH_take (i := 12) (oi := ⟨some 37, _, _, _, _, _⟩) (v := ?vd12) rfl (by kernel_rfl) (by kernel_rfl) (by kernel_rfl) (fun _ _ _ h => h) (Or.inl ⟨by rfl, ?yd12⟩) hHeld ?rd12
     case yd12 =>
      intro wx hSx
      go_simp
      try with_reducible rfl
     try simp only [actS]
     refine wpAnyH_take (i := 13) (oi := ⟨some 50, _, _, _, _, _⟩) (v := ?vd13) rfl (by kernel_rfl) (by kernel_rfl) (by kernel_rfl) (fun _ _ _ h => h) (Or.inl ⟨by rfl, ?yd13⟩) hHeld ?rd13
     case yd13 =>
      intro wx hSx
      go_simp
      try with_reducible rfl
     try simp only [actS]
     refine wpAnyH_take (i := 14) (oi := ⟨some 51, _, _, _, _, _⟩) (v := ?vd14) rfl (by kernel_rfl) (by kernel_rfl) (by kernel_rfl) (fun _ _ _ h => h) (Or.inl ⟨by rfl, ?yd14⟩) hHeld ?rd14
     case yd14 =>
      intro wx hSx
      go_simp
      try with_reducible rfl
     try simp only [actS]
     refine wpAnyH_ready (rs := [16]) (by kernel_rfl) (by simp) ?_
     refine AllReadyH.cons (o := ⟨none, _, _, _, _, _⟩) rfl (fun K hK => ?_) AllReadyH.nil
     have hG := HG.out
     have hH : FoP w (w8.setRow g8 #[.int .i64 pd, .string pi]) uv g2 u5 l1 := hHeld.write (by omega) (by omega) (fun k h0 hk => by have := hG.2.2 k h0 hk; omega)
     have hset := setRow_heap w8 g8 _ #[.int .i64 pd, .string pi] _ _ h8
     rw [if_pos (by rfl)]
     refine wp_store_row 83 (.tmp 8) (.tmp 50) rfl g8 #[.int .i64 pd, .string pi] rfl rfl 83 #[.int .i64 0, .string ⟨#[]⟩] h8 pos_info rfl (one2 _ _) ?_
     refine hK.out _ _ hH (fun hHeld => ?_)
     clear hK K hH h8 hG
     generalize World.setRow _ _ _ = w9 at hset hHeld ⊢
     try simp only [actS]
     refine wpAnyH_take (i := 17) (oi := ⟨some 9, _, _, _, _, _⟩) (v := ?vd17) rfl (by kernel_rfl) (by kernel_rfl) (by kernel_rfl) (fun _ _ _ h => h) (Or.inl ⟨by rfl, ?yd17⟩) hHeld ?rd17
     case yd17 =>
      intro wx hSx
      go_simp
      try with_reducible rfl
     try simp only [actS]
     refine wpAnyH_done (by kernel_rfl) ?_ _
     go_upto_region 8 with (fail)
     have hSD : FoP w w9.drew uv g2 u5 l1 ∧ w9.drew.heap[g8]? = some (.cells #[.int .i64 pd, .string pi] 83 (0, 0)) := ⟨hHeld.later (below_drew w9), hset⟩
     refine wp_region_held_drew (S := fun W => FoP w W uv g2 u5 l1 ∧ W.heap[g8]? = some (.cells #[.int .i64 pd, .string pi] 83 (0, 0))) (by kernel_rfl) hSD (fun hHeld => ?_)
     clear hSD hset
     generalize World.drew _ = wd at hHeld ⊢
     refine wpAnyH_take (i := 0) (oi := ⟨some 53, _, _, _, _, _⟩) (v := ?vrd0) rfl (by kernel_rfl) (by kernel_rfl) (by kernel_rfl) (fun _ _ _ h => h) (Or.inl ⟨by rfl, ?yrd0⟩) hHeld ?rrd0
     case yrd0 =>
      intro wx hSx
      go_simp
      try with_reducible rfl
     try simp only [actS]
     refine wpAnyH_take (i := 1) (oi := ⟨some 54, _, _, _, _, _⟩) (v := ?vrd1) rfl (by kernel_rfl) (by kernel_rfl) (by kernel_rfl) (fun _ _ _ h => h) (Or.inl ⟨by rfl, ?yrd1⟩) hHeld ?rrd1
     case yrd1 =>
      intro wx hSx
      go_simp
      try with_reducible rfl
     try simp only [actS]
     refine wpAnyH_take (i := 2) (oi := ⟨some 55, _, _, _, _, _⟩) (v := ?vrd2) rfl (by kernel_rfl) (by kernel_rfl) (by kernel_rfl) (fun _ _ _ h => h) (Or.inl ⟨by rfl, ?yrd2⟩) hHeld ?rrd2
     case yrd2 =>
      intro wx hSx
      go_simp
      try with_reducible rfl
     try simp only [actS]
     refine wpAnyH_take (i := 3) (oi := ⟨some 56, _, _, _, _, _⟩) (v := ?vrd3) rfl (by kernel_rfl) (by kernel_rfl) (by kernel_rfl) (fun _ _ _ h => h) (Or.inl ⟨by rfl, ?yrd3⟩) hHeld ?rrd3
     case yrd3 =>
      intro wx hSx
      go_simp
      try with_reducible rfl
     try simp only [actS]
     refine wpAnyH_take (i := 4) (oi := ⟨some 57, _, _, _, _, _⟩) (v := ?vrd4) rfl (by kernel_rfl) (by kernel_rfl) (by kernel_rfl) (fun _ _ _ h => h) (Or.inl ⟨by rfl, ?yrd4⟩) hHeld ?rrd4
     case yrd4 =>
      intro wx hSx
      obtain ⟨a0, a1, a2, a3, a4, a5, a6, a7, a8, a9, a10⟩ := range11 (HXX.out wx hSx.1.below)
      go_simp
      try with_reducible rfl
     try simp only [actS]
     refine wpAnyH_take (i := 6) (oi := ⟨some 59, _, _, _, _, _⟩) (v := ?vrd6) rfl (by kernel_rfl) (by kernel_rfl) (by kernel_rfl) (fun _ _ _ h => h) (Or.inl ⟨by rfl, ?yrd6⟩) hHeld ?rrd6
     case yrd6 =>
      intro wx hSx
      have y0 := cell_at hSx.2 0
      have y1 := cell_at hSx.2 1
      simp only [List.getElem?_toArray, List.getElem?_cons_succ, List.getElem?_cons_zero] at y0 y1
      go_simp
      try with_reducible rfl
     try simp only [actS]
     refine wpAnyH_ready (rs := [5]) (by kernel_rfl) (by simp) ?_
     refine AllReadyH.cons (o := ⟨some 58, _, _, _, _, _⟩) rfl (fun K hK => ?_) AllReadyH.nil
     go_simp
     refine (HOF.out _).mono ?_
     rintro e wa ⟨rfl, hb⟩
     refine hK.out _ _ ⟨hHeld.1.later hb, (hb.block _ (smem_lt hHeld.2)).trans hHeld.2⟩ (fun hHeld => ?_)
     clear hK K hb
     try simp only [actS]
     refine wpAnyH_ready (rs := [7]) (by kernel_rfl) (by simp) ?_
     refine AllReadyH.cons (o := ⟨some 60, _, _, _, _, _⟩) rfl (fun K hK => ?_) AllReadyH.nil
     have HT1 := refPutM_any u5 l1 ⟨kr, ku, kt, kp⟩ ⟨pd, pi⟩ wa hHeld.1.row HRW.out (by have := HLN.out; omega)
     simp only [Rk.val, Po.val] at HT1
     go_simp
     refine HT1.mono ?_
     rintro e wb ⟨vn, rfl, hpl, hb⟩
     have HF2 : Hid (FoP w wb uv g2 vn (putM l1 ⟨⟨kr, ku, kt, kp⟩, ⟨pd, pi⟩⟩)) := Lib.hid (by
      have h0 := hHeld.1.later hb
      refine ⟨h0.below, h0.b2, ?_⟩
      rcases hpl with ⟨rfl, h2⟩ | h1
      ·rw [putM_off h2]; exact h0.row
      ·exact h1.slice)
     refine hK.out _ _ ⟨hHeld.1.later hb, (hb.block _ (smem_lt hHeld.2)).trans hHeld.2⟩ (fun hHeld => ?_)
     clear hK K hb HT1 hpl
     try simp only [actS]
     refine wpAnyH_take (i := 8) (oi := ⟨some 52, _, _, _, _, _⟩) (v := ?vrd8) rfl (by kernel_rfl) (by kernel_rfl) (by kernel_rfl) (fun _ _ _ h => h) (Or.inl ⟨by rfl, ?yrd8⟩) hHeld ?rrd8
     case yrd8 =>
      intro wx hSx
      go_simp
      try with_reducible rfl
     try simp only [actS]
     refine wpAnyH_take (i := 9) (oi := ⟨some 61, _, _, _, _, _⟩) (v := ?vrd9) rfl (by kernel_rfl) (by kernel_rfl) (by kernel_rfl) (fun _ _ _ h => h) (Or.inl ⟨by rfl, ?yrd9⟩) hHeld ?rrd9
     case yrd9 =>
      intro wx hSx
      go_simp
      try with_reducible rfl
     try simp only [actS]
     refine wpAnyH_take (i := 10) (oi := ⟨some 62, _, _, _, _, _⟩) (v := ?vrd10) rfl (by kernel_rfl) (by kernel_rfl) (by kernel_rfl) (fun _ _ _ h => h) (Or.inl ⟨by rfl, ?yrd10⟩) hHeld ?rrd10
     case yrd10 =>
      intro wx hSx
      go_simp
      try with_reducible rfl
     try simp only [actS]
     refine wpAnyH_take (i := 11) (oi := ⟨some 10, _, _, _, _, _⟩) (v := ?vrd11) rfl (by kernel_rfl) (by kernel_rfl) (by kernel_rfl) (fun _ _ _ h => h) (Or.inl ⟨by rfl, ?yrd11⟩) hHeld ?rrd11
     case yrd11 =>
      intro wx hSx
      go_simp
      try with_reducible rfl
     try simp only [actS]
     refine wpAnyH_take (i := 12) (oi := ⟨some 11, _, _, _, _, _⟩) (v := ?vrd12) rfl (by kernel_rfl) (by kernel_rfl) (by kernel_rfl) (fun _ _ _ h => h) (Or.inl ⟨by rfl, ?yrd12⟩) hHeld ?rrd12
     case yrd12 =>
      intro wx hSx
      go_simp
      try with_reducible rfl
     try simp only [actS]
     refine wpAnyH_done (by kernel_rfl) ?_ _
     clear hHeld
     go_wp2_with fail
     refine ⟨⟨a + 1, by go_num, by omega, by rw [HL2.out]; exact HF2⟩, ?_⟩
     simp [intOf]; omega
   ·have q2 : (fv == 0) = false := by rw [beq_eq_false_iff_ne]; exact hf
    have HL2 := Lib.hid (HNO.out hf)
    clear HYE HNO hf
    go_wp2_with fail
    refine ⟨⟨a + 1, by go_num, by omega, by rw [HL2.out]; exact HA⟩, ?_⟩
    simp [intOf]; omega
  ·have q1 : decide ((a : Int) < (rs.length : Int)) = false := decide_eq_false (by omega)
   obtain rfl : a = rs.length := by omega
   have HF := Lib.hid HA.out
   rw [List.take_length] at HF
   go_wp2_with fail
   go_ret
   exact ⟨u5, rfl, HF.out.row, HF.out.below⟩
end Go.Proofs.YtnnapkakbdpkaaaGreat
