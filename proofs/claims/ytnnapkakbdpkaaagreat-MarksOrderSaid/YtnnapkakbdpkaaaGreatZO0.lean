/-
  What the statements stand on, part ZO0.
-/
import Derived.Test.YtnnapkakbdpkaaaGreatZB6
set_option linter.unusedVariables false
set_option linter.unusedSimpArgs false
namespace Go.Proofs.YtnnapkakbdpkaaaGreat
set_option maxRecDepth 20000
open Go.RowKit
theorem knI : Kn Tryz.prog LI 78 (.int .i64 0) 8 := ⟨Tryz.underlying78, by kernel_rfl, rfl, by decide⟩
end Go.Proofs.YtnnapkakbdpkaaaGreat

namespace Go.Proofs.YtnnapkakbdpkaaaGreat
set_option maxRecDepth 20000
theorem fold_leM : ∀ (ms l : List Mk), (foldM l ms).length ≤ l.length + ms.length
 | [], l => Nat.le_refl _
 | x :: ms, l => by
  have h1 := fold_leM ms (putM l x)
  have h2 := put_leM l x
  rw [List.length_cons]
  show (foldM (putM l x) ms).length ≤ _
  omega
theorem fold_snocM (l ms : List Mk) (x : Mk) : foldM l (ms ++ [x]) = putM (foldM l ms) x := by simp [foldM]
end Go.Proofs.YtnnapkakbdpkaaaGreat

namespace Go.Proofs.YtnnapkakbdpkaaaGreat
set_option maxRecDepth 20000
open Go.RowKit
structure BuV (w wr : World) (v : Value) (xs : List EvV) (B2 B3 : Nat) (u : Value) (ds : List DV) (a : Nat) : Prop where
 below : Below w.heap.size w wr
 b2 : wr.heap[B2]? = some (.cells #[.slice none 0 0] 39 (0, 0))
 b3 : wr.heap[B3]? = some (.cells #[u] 39 (0, 0))
 low : w.heap.size ≤ B2 ∧ w.heap.size ≤ B3 ∧ B2 ≠ B3
 dss : DsS wr u ds
 is : vws ds = foldV (evs (xs.take a))
 foot : ∀ k, footD u ds k → footE v xs k ∨ (w.heap.size ≤ k ∧ k ≠ B2 ∧ k ≠ B3)
structure Bu5 (w wr : World) (v : Value) (xs : List EvV) (B2 B3 : Nat) (u0 : Value) (B5 : Nat) (u : Value) (ds : List DV) (V : Vw) : Prop where
 below : Below w.heap.size w wr
 b2 : wr.heap[B2]? = some (.cells #[.slice none 0 0] 39 (0, 0))
 b3 : wr.heap[B3]? = some (.cells #[u0] 39 (0, 0))
 b5 : wr.heap[B5]? = some (.cells #[u] 39 (0, 0))
 dss : DsS wr u ds
 is : vws ds = V
 foot : ∀ k, footD u ds k → footE v xs k ∨ (w.heap.size ≤ k ∧ k ≠ B2 ∧ k ≠ B3 ∧ k ≠ B5)
theorem vws_ok {ds : List DV} {es : List Ev} (h : vws ds = foldV es) : VOk es.length (vws ds) := by rw [h]; exact foldV_ok es
theorem two_vs (w : World) : ∀ W, W = (w.alloc (.cells #[.slice none 0 0] 39)).alloc (.cells #[.slice none 0 0] 39) → W.heap[w.heap.size]? = some (.cells #[.slice none 0 0] 39 (0, 0)) ∧ W.heap[w.heap.size + 1]? = some (.cells #[.slice none 0 0] 39 (0, 0)) ∧ Below w.heap.size w W := by
 rintro W rfl
 have hs : (w.alloc (.cells #[.slice none 0 0] 39)).heap.size = w.heap.size + 1 := by simp
 have h3 := heap_alloc_new (w.alloc (.cells #[.slice none 0 0] 39)) (.cells #[.slice none 0 0] 39)
 rw [hs] at h3
 refine ⟨?_, h3, ((Below.refl _ w).alloc (Nat.le_refl _) _).alloc (by simp) _⟩
 rw [heap_alloc_old _ _ (by rw [hs]; omega)]
 exact heap_alloc_new w _
set_option maxHeartbeats 6400000 in
theorem refBuild10_any (v : Value) (xs : List EvV) (w : World) (h : EvsS w v xs) (hl : xs.length ≤ 100) :
  Calls Tryz.prog 27 #[v] w fun e w' => ∃ u ds, e = .returned (.agg #[u]) ∧ DsS w' u ds ∧ vws ds = foldV (evs xs) ∧ (∀ k, footD u ds k → footE v xs k ∨ w.heap.size ≤ k) ∧ Below w.heap.size w w' := by
 obtain ⟨A, cap, rfl, h1, h2, -⟩ := id h.1
 unfold maxLen at h2
 have HE := Lib.hid h
 have HT := Lib.hid (two_vs w _ rfl)
 have HOLD : Hid (∀ k, footE (.slice A xs.length cap) xs k → k < w.heap.size) := Lib.hid (fun k hk => h.foot hk)
 clear h
 go_enter Tryz.func27, Tryz.ntmps27
 go_upto_region 2 with (fail)
 generalize World.alloc _ _ = w2 at HT ⊢
 have HS0 : Hid (BuV w w2 (.slice A xs.length cap) xs w.heap.size (w.heap.size + 1) (.slice none 0 0) [] 0) := Lib.hid ⟨HT.out.2.2, HT.out.1, HT.out.2.1, ⟨Nat.le_refl _, by omega, by omega⟩, ⟨.nil _, fun d hd => by cases hd⟩, rfl, fun k hk => by
  rcases hk with ⟨h0, -⟩ | ⟨d, hd, -⟩
  ·exact absurd h0 (Nat.lt_irrefl 0)
  ·cases hd⟩
 clear HT
 generalize w.heap.size + 1 = B3 at HS0 ⊢
 generalize hB2 : w.heap.size = B2 at HS0 ⊢
 have HBB := Lib.hid hB2
 clear hB2
 go_wp2_with fail
 go_loopw [4] (fun i wr => ∃ a : Nat, i = .int .i64 (a : Int) ∧ a ≤ xs.length ∧ Hid (∃ u ds, BuV w wr (.slice A xs.length cap) xs B2 B3 u ds a)) (fun i _ => xs.length - (intOf i).toNat)
 case atStart => exact ⟨0, rfl, Nat.zero_le _, Lib.hid ⟨_, _, HS0.out⟩⟩
 case round =>
  clear HS0
  obtain ⟨a, rfl, ha, HY⟩ := hrel
  obtain ⟨u, ds, hbu⟩ := HY.out
  obtain ⟨Au, cu, hu, -⟩ := id hbu.dss.1
  subst hu
  have HA := Lib.hid hbu
  clear HY hbu
  by_cases hax : a < xs.length
  ·have q1 : decide ((a : Int) < (xs.length : Int)) = true := decide_eq_true (by omega)
   have hx : xs[a]? = some xs[a] := List.getElem?_eq_getElem hax
   generalize xs[a] = x at hx
   have HX := Lib.hid hx
   clear hx
   go_upto_region 5 with (fail)
   have hix0 := hax
   have hat : EvsS wr (.slice A xs.length cap) xs := HE.out.below HA.out.below
   obtain ⟨b, off, hA, hb, hrg⟩ := ev_at hat HX.out
   have hix := index_any (P := Tryz.prog) knV (by decide) (b := b) (off := off) (cap := cap) hax
   simp only [LV] at hix
   rw [← hA] at hix
   have HRG := Lib.hid hrg
   have HXA : Hid (x.at wr) := Lib.hid (hat.2 x (List.mem_of_getElem? HX.out))
   have HFX : Hid (∀ k, footV x k → footE (.slice A xs.length cap) xs k) := Lib.hid (fun k hk => .inr ⟨x, List.mem_of_getElem? HX.out, hk⟩)
   have HB0 : Hid (b < wr.heap.size) := Lib.hid hb
   clear hat hA hb hrg hix0
   go_cut [5, 6] from 7 to 22 (fun s5 s6 wx => ∃ B5 u' ds', s5 = .pointer (some ⟨B5, 0, none⟩) ∧ Hid (Bu5 w wx (.slice A xs.length cap) xs B2 B3 (.slice Au ds.length cu) B5 u' ds' (addV (vws ds) x.ev)))
   case first =>
    have HBS : Hid (∀ W, Below wr.heap.size wr W → W.heap[B3]? = some (.cells #[.slice Au ds.length cu] 39 (0, 0)) ∧ W.rangeAt b (off + a * 6) x.cells ∧ DsS W (.slice Au ds.length cu) ds ∧ x.at W ∧ W.heap[B2]? = some (.cells #[.slice none 0 0] 39 (0, 0)) ∧ Below w.heap.size w W) := Lib.hid (fun W hb => ⟨(hb.block B3 (smem_lt HA.out.b3)).trans HA.out.b3, fun j z hz => (hb.cell (p := ⟨b, off + a * 6 + j, none⟩) HB0.out).trans (HRG.out j z hz), HA.out.dss.below hb, HXA.out.below hb, (hb.block B2 (smem_lt HA.out.b2)).trans HA.out.b2, HA.out.below.trans (hb.mono HA.out.below.size)⟩)
    have HVK := Lib.hid (vws_len (vws_ok HA.out.is))
    have HTL : Hid ((evs (xs.take a)).length ≤ 100) := Lib.hid (by rw [evs_len, List.length_take]; omega)
    have HAD := Lib.hid (fun W (hb : Below wr.heap.size wr W) => refAdd10_any (.slice Au ds.length cu) ds x W (HBS.out W hb).2.2.1 (HBS.out W hb).2.2.2.1 (by have := HVK.out.1; have := HTL.out; omega) (fun d hd => by have := HVK.out.2 d hd; have := HTL.out; omega))
    have HFO : Hid (∀ k, footD (.slice Au ds.length cu) ds k → k < wr.heap.size) := Lib.hid (fun k hk => HA.out.dss.foot hk)
    have HFX2 : Hid (∀ k, footV x k → k < wr.heap.size) := Lib.hid (fun k hk => HXA.out.foot hk)
    have H23 : Hid (B2 < wr.heap.size ∧ B3 < wr.heap.size) := Lib.hid ⟨smem_lt HA.out.b2, smem_lt HA.out.b3⟩
    unfold EvV.val EvV.pv at HAD
    refine wp_region_held_drew (S := fun W => Below wr.heap.size wr W) (by kernel_rfl) (Below.refl _ _).drew (fun hHeld => ?_)
    generalize wr.drew = wd at hHeld ⊢
    refine wpAnyH_take (i := 0) (oi := ⟨some 14, _, _, _, _, _⟩) (v := ?vq0) rfl (by kernel_rfl) (by kernel_rfl) (by kernel_rfl) (fun _ _ _ h => h) (Or.inl ⟨by rfl, ?yq0⟩) hHeld ?rq0
    case yq0 =>
     intro wx hSx
     have z : wx.cell? ⟨B3, 0, none⟩ = some (.slice Au ds.length cu) := cell_at (HBS.out _ hSx).1 0
     go_simp
     try with_reducible rfl
    try simp only [actS]
    refine wpAnyH_take (i := 1) (oi := ⟨some 15, _, _, _, _, _⟩) (v := ?vq1) rfl (by kernel_rfl) (by kernel_rfl) (by kernel_rfl) (fun _ _ _ h => h) (Or.inl ⟨by rfl, ?yq1⟩) hHeld ?rq1
    case yq1 =>
     intro wx hSx
     go_simp
     try with_reducible rfl
    try simp only [actS]
    refine wpAnyH_take (i := 2) (oi := ⟨some 16, _, _, _, _, _⟩) (v := ?vq2) rfl (by kernel_rfl) (by kernel_rfl) (by kernel_rfl) (fun _ _ _ h => h) (Or.inl ⟨by rfl, ?yq2⟩) hHeld ?rq2
    case yq2 =>
     intro wx hSx
     go_simp
     try with_reducible rfl
    try simp only [actS]
    refine wpAnyH_take (i := 3) (oi := ⟨some 17, _, _, _, _, _⟩) (v := ?vq3) rfl (by kernel_rfl) (by kernel_rfl) (by kernel_rfl) (fun _ _ _ h => h) (Or.inl ⟨by rfl, ?yq3⟩) hHeld ?rq3
    case yq3 =>
     intro wx hSx
     go_simp
     try with_reducible rfl
    try simp only [actS]
    refine wpAnyH_take (i := 4) (oi := ⟨some 18, _, _, _, _, _⟩) (v := ?vq4) rfl (by kernel_rfl) (by kernel_rfl) (by kernel_rfl) (fun _ _ _ h => h) (Or.inl ⟨by rfl, ?yq4⟩) hHeld ?rq4
    case yq4 =>
     intro wx hSx
     obtain ⟨z0, z1, z2, z3, z4, z5⟩ := ev_cells (HBS.out _ hSx).2.1
     unfold EvV.pv at z2
     go_simp
     try with_reducible rfl
    try simp only [actS]
    refine wpAnyH_ready (rs := [5, 9]) (by kernel_rfl) (by simp) ?_
    refine AllReadyH.cons (o := ⟨some 19, _, _, _, _, _⟩) rfl (fun K hK => ?wkadd) (AllReadyH.cons (o := ⟨some 5, _, _, _, _, _⟩) rfl (fun K hK => ?wkalloc) AllReadyH.nil)
    case wkadd =>
     have HAW := Lib.hid (HAD.out wd hHeld)
     have HSZ : Hid (wr.heap.size ≤ wd.heap.size) := Lib.hid hHeld.size
     go_simp
     refine HAW.out.mono ?_
     rintro e wak ⟨u', ds', rfl, hes, hev, hft, hbo⟩
     obtain ⟨A', c', hu', -⟩ := id hes.1
     subst hu'
     have HES := Lib.hid hes
     have HEV := Lib.hid hev
     have HFT : Hid (∀ k, footD (.slice A' ds'.length c') ds' k → footD (.slice Au ds.length cu) ds k ∨ footV x k ∨ wd.heap.size ≤ k) := Lib.hid hft
     clear HAW hes hev hft
     have hHeld2 := hHeld.trans (hbo.mono hHeld.size)
     clear hHeld
     refine hK.out _ _ hHeld2 (fun hHeld => ?_)
     clear hK K hbo hHeld2
     try simp only [actS]
     refine wpAnyH_take (i := 6) (oi := ⟨some 13, _, _, _, _, _⟩) (v := ?vmk6) rfl (by kernel_rfl) (by kernel_rfl) (by kernel_rfl) (fun _ _ _ h => h) (Or.inl ⟨by rfl, ?ymk6⟩) hHeld ?rmk6
     case ymk6 =>
      intro wx hSx
      go_simp
      try with_reducible rfl
     try simp only [actS]
     refine wpAnyH_take (i := 7) (oi := ⟨some 20, _, _, _, _, _⟩) (v := ?vmk7) rfl (by kernel_rfl) (by kernel_rfl) (by kernel_rfl) (fun _ _ _ h => h) (Or.inl ⟨by rfl, ?ymk7⟩) hHeld ?rmk7
     case ymk7 =>
      intro wx hSx
      go_simp
      try with_reducible rfl
     try simp only [actS]
     refine wpAnyH_take (i := 8) (oi := ⟨some 21, _, _, _, _, _⟩) (v := ?vmk8) rfl (by kernel_rfl) (by kernel_rfl) (by kernel_rfl) (fun _ _ _ h => h) (Or.inl ⟨by rfl, ?ymk8⟩) hHeld ?rmk8
     case ymk8 =>
      intro wx hSx
      go_simp
      try with_reducible rfl
     try simp only [actS]
     refine wpAnyH_ready (rs := [9]) (by kernel_rfl) (by simp) ?_
     refine AllReadyH.cons (o := ⟨some 5, _, _, _, _, _⟩) rfl (fun K hK => ?wkaalloc) AllReadyH.nil
     case wkaalloc =>
      have hbn := below_new wak (.cells #[.slice none 0 0] 39)
      have h5 := heap_alloc_new wak (.cells #[.slice none 0 0] 39)
      have hlow := hHeld.size
      have HFAR : Hid (∀ k, footD (.slice A' ds'.length c') ds' k → k ≠ wak.heap.size) := Lib.hid (fun k hk => by
       have := HES.out.foot hk
       omega)
      replace HES := Lib.hid (HES.out.below hbn)
      have hHeld2 := hHeld.trans (hbn.mono hHeld.size)
      clear hHeld
      go_simp
      refine hK.out _ _ hHeld2 (fun hHeld => ?_)
      clear hK K hbn hHeld2
      generalize wak.alloc _ = weka at hHeld h5 HES ⊢
      generalize wak.heap.size = B5 at h5 hlow HFAR ⊢
      try simp only [actS]
      refine wpAnyH_ready (rs := [10]) (by kernel_rfl) (by simp) ?_
      refine AllReadyH.cons (o := ⟨none, _, _, _, _, _⟩) rfl (fun K hK => ?_) AllReadyH.nil
      have y0 : weka.cell? ⟨B5, 0, none⟩ = some (.slice none 0 0) := cell_at h5 0
      have z0 : weka.frozen? ⟨B5, 0, none⟩ = false := free_at h5 0
      have HAN := Lib.hid (one_at h5 (.slice A' ds'.length c') _ rfl)
      have HHW := Lib.hid hHeld
      have HLOW := Lib.hid hlow
      go_simp
      clear y0 z0
      generalize World.setCell _ _ _ = w9 at HAN ⊢
      have hb9 : Below wr.heap.size wr w9 := HHW.out.grown HAN.out.2 HHW.out.size (fun k hk => by injection hk with hk; have := HLOW.out; omega)
      have HB5 : Hid (Bu5 w w9 (.slice A xs.length cap) xs B2 B3 (.slice Au ds.length cu) B5 (.slice A' ds'.length c') ds' (addV (vws ds) x.ev)) := Lib.hid ⟨(HBS.out _ hb9).2.2.2.2.2, (HBS.out _ hb9).2.2.2.2.1, (HBS.out _ hb9).1, HAN.out.1, HES.out.stay HAN.out.2.size (fun k hk hf => HAN.out.2.block k hk (fun e => HFAR.out k hf (by injection e))), HEV.out, fun k hk => by
       rcases HFT.out k hk with hh | hh | hh
       ·rcases HA.out.foot k hh with hj | hj
        ·exact .inl hj
        ·exact .inr ⟨hj.1, hj.2.1, hj.2.2, HFAR.out k hk⟩
       ·exact .inl (HFX.out k hh)
       ·have h1 := HSZ.out
        have h2 := H23.out
        have h3 := HA.out.below.size
        exact .inr ⟨by omega, by omega, by omega, HFAR.out k hk⟩⟩
      refine hK.out _ _ hb9 (fun hHeld => ?_)
      clear hK K
      try simp only [actS]
      refine wpAnyH_take (i := 11) (oi := ⟨some 6, _, _, _, _, _⟩) (v := ?vzkan11) rfl (by kernel_rfl) (by kernel_rfl) (by kernel_rfl) (fun _ _ _ h => h) (Or.inl ⟨by rfl, ?yzkan11⟩) hHeld ?rzkan11
      case yzkan11 =>
       intro wx hSx
       go_simp
       try with_reducible rfl
      try simp only [actS]
      refine wpAnyH_done (by kernel_rfl) ?_ _
      go_wp2_with fail
      go_meet
      exact ⟨B5, _, _, rfl, HB5⟩
    case wkalloc =>
     have hbn := below_new wd (.cells #[.slice none 0 0] 39)
     have h5 := heap_alloc_new wd (.cells #[.slice none 0 0] 39)
     have hlow := hHeld.size
     have hHeld2 := hHeld.trans (hbn.mono hHeld.size)
     clear hHeld
     go_simp
     refine hK.out _ _ hHeld2 (fun hHeld => ?_)
     clear hK K hbn hHeld2
     generalize wd.alloc _ = wek at hHeld h5 ⊢
     generalize wd.heap.size = B5 at h5 hlow ⊢
     try simp only [actS]
     refine wpAnyH_ready (rs := [5]) (by kernel_rfl) (by simp) ?_
     refine AllReadyH.cons (o := ⟨some 19, _, _, _, _, _⟩) rfl (fun K hK => ?wknadd) AllReadyH.nil
     case wknadd =>
      have HAW := Lib.hid (HAD.out wek hHeld)
      have HSZ : Hid (wr.heap.size ≤ wek.heap.size) := Lib.hid hHeld.size
      go_simp
      refine HAW.out.mono ?_
      rintro e wakn ⟨u', ds', rfl, hes, hev, hft, hbo⟩
      obtain ⟨A', c', hu', -⟩ := id hes.1
      subst hu'
      have HES := Lib.hid hes
      have HEV := Lib.hid hev
      have HFT : Hid (∀ k, footD (.slice A' ds'.length c') ds' k → footD (.slice Au ds.length cu) ds k ∨ footV x k ∨ wek.heap.size ≤ k) := Lib.hid hft
      clear HAW hes hev hft
      have HFAR : Hid (∀ k, footD (.slice A' ds'.length c') ds' k → k ≠ B5) := Lib.hid (fun k hk => by
       have hb5 := smem_lt h5
       rcases HFT.out k hk with hh | hh | hh
       ·have := HFO.out k hh
        omega
       ·have := HFX2.out k hh
        omega
       ·omega)
      replace h5 := (hbo.block B5 (smem_lt h5)).trans h5
      have hHeld2 := hHeld.trans (hbo.mono hHeld.size)
      clear hHeld
      refine hK.out _ _ hHeld2 (fun hHeld => ?_)
      clear hK K hbo hHeld2
      try simp only [actS]
      refine wpAnyH_take (i := 6) (oi := ⟨some 13, _, _, _, _, _⟩) (v := ?vmkn6) rfl (by kernel_rfl) (by kernel_rfl) (by kernel_rfl) (fun _ _ _ h => h) (Or.inl ⟨by rfl, ?ymkn6⟩) hHeld ?rmkn6
      case ymkn6 =>
       intro wx hSx
       go_simp
       try with_reducible rfl
      try simp only [actS]
      refine wpAnyH_take (i := 7) (oi := ⟨some 20, _, _, _, _, _⟩) (v := ?vmkn7) rfl (by kernel_rfl) (by kernel_rfl) (by kernel_rfl) (fun _ _ _ h => h) (Or.inl ⟨by rfl, ?ymkn7⟩) hHeld ?rmkn7
      case ymkn7 =>
       intro wx hSx
       go_simp
       try with_reducible rfl
      try simp only [actS]
      refine wpAnyH_take (i := 8) (oi := ⟨some 21, _, _, _, _, _⟩) (v := ?vmkn8) rfl (by kernel_rfl) (by kernel_rfl) (by kernel_rfl) (fun _ _ _ h => h) (Or.inl ⟨by rfl, ?ymkn8⟩) hHeld ?rmkn8
      case ymkn8 =>
       intro wx hSx
       go_simp
       try with_reducible rfl
      try simp only [actS]
      refine wpAnyH_ready (rs := [10]) (by kernel_rfl) (by simp) ?_
      refine AllReadyH.cons (o := ⟨none, _, _, _, _, _⟩) rfl (fun K hK => ?_) AllReadyH.nil
      have y0 : wakn.cell? ⟨B5, 0, none⟩ = some (.slice none 0 0) := cell_at h5 0
      have z0 : wakn.frozen? ⟨B5, 0, none⟩ = false := free_at h5 0
      have HAN := Lib.hid (one_at h5 (.slice A' ds'.length c') _ rfl)
      have HHW := Lib.hid hHeld
      have HLOW := Lib.hid hlow
      go_simp
      clear y0 z0
      generalize World.setCell _ _ _ = w9 at HAN ⊢
      have hb9 : Below wr.heap.size wr w9 := HHW.out.grown HAN.out.2 HHW.out.size (fun k hk => by injection hk with hk; have := HLOW.out; omega)
      have HB5 : Hid (Bu5 w w9 (.slice A xs.length cap) xs B2 B3 (.slice Au ds.length cu) B5 (.slice A' ds'.length c') ds' (addV (vws ds) x.ev)) := Lib.hid ⟨(HBS.out _ hb9).2.2.2.2.2, (HBS.out _ hb9).2.2.2.2.1, (HBS.out _ hb9).1, HAN.out.1, HES.out.stay HAN.out.2.size (fun k hk hf => HAN.out.2.block k hk (fun e => HFAR.out k hf (by injection e))), HEV.out, fun k hk => by
       rcases HFT.out k hk with hh | hh | hh
       ·rcases HA.out.foot k hh with hj | hj
        ·exact .inl hj
        ·exact .inr ⟨hj.1, hj.2.1, hj.2.2, HFAR.out k hk⟩
       ·exact .inl (HFX.out k hh)
       ·have h1 := HSZ.out
        have h2 := H23.out
        have h3 := HA.out.below.size
        exact .inr ⟨by omega, by omega, by omega, HFAR.out k hk⟩⟩
      refine hK.out _ _ hb9 (fun hHeld => ?_)
      clear hK K
      try simp only [actS]
      refine wpAnyH_take (i := 11) (oi := ⟨some 6, _, _, _, _, _⟩) (v := ?vzkna11) rfl (by kernel_rfl) (by kernel_rfl) (by kernel_rfl) (fun _ _ _ h => h) (Or.inl ⟨by rfl, ?yzkna11⟩) hHeld ?rzkna11
      case yzkna11 =>
       intro wx hSx
       go_simp
       try with_reducible rfl
      try simp only [actS]
      refine wpAnyH_done (by kernel_rfl) ?_ _
      go_wp2_with fail
      go_meet
      exact ⟨B5, _, _, rfl, HB5⟩
   case rest =>
    obtain ⟨B5, u', ds', rfl, HY⟩ := hcut
    obtain ⟨A', c', hu', -⟩ := id HY.out.dss.1
    subst hu'
    have x0 : wc.cell? ⟨B5, 0, none⟩ = some (.slice A' ds'.length c') := cell_at HY.out.b5 0
    have y0 : wc.cell? ⟨B3, 0, none⟩ = some (.slice Au ds.length cu) := cell_at HY.out.b3 0
    have z0 : wc.frozen? ⟨B3, 0, none⟩ = false := free_at HY.out.b3 0
    have HAN := Lib.hid (one_at HY.out.b3 (.slice A' ds'.length c') _ rfl)
    have HTK : Hid (foldV (evs (xs.take (a + 1))) = addV (vws ds) x.ev) := Lib.hid (by
     rw [List.take_add_one, HX.out]
     show foldV (List.map EvV.ev (xs.take a ++ [x])) = _
     rw [List.map_append, HA.out.is]
     exact foldV_snoc _ _)
    have HBN : Hid (∀ W, wc.heap[B3]? = some (.cells #[.slice Au ds.length cu] 39 (0, 0)) → (W.heap[B3]? = some (.cells #[.slice A' ds'.length c'] 39 (0, 0)) ∧ wc.grownBy W (some B3)) → BuV w W (.slice A xs.length cap) xs B2 B3 (.slice A' ds'.length c') ds' (a + 1)) := Lib.hid (fun W h3 h9 => by
     have hst : ∀ k, k < wc.heap.size → k ≠ B3 → W.heap[k]? = wc.heap[k]? := fun k hk hne => h9.2.block k hk (fun e => hne (by injection e))
     have hf3 : ∀ k, footD (.slice A' ds'.length c') ds' k → k ≠ B3 := fun k hk => by
      rcases HY.out.foot k hk with hh | hh
      ·have := HOLD.out k hh
       have := HA.out.low.2.1
       omega
      ·exact hh.2.2.1
     refine ⟨HY.out.below.grown h9.2 HY.out.below.size (fun k hk => by injection hk with hk; have := HA.out.low.2.1; omega), (hst B2 (smem_lt HY.out.b2) HA.out.low.2.2).trans HY.out.b2, h9.1, HA.out.low, HY.out.dss.stay h9.2.size (fun k hk hf => hst k hk (hf3 k hf)), HY.out.is.trans HTK.out.symm, fun k hk => ?_⟩
     rcases HY.out.foot k hk with hh | hh
     ·exact .inl hh
     ·exact .inr ⟨hh.1, hh.2.1, hh.2.2.1⟩)
    go_wp2_with fail
    refine ⟨⟨a + 1, by go_num, by omega, Lib.hid ⟨_, _, HBN.out _ HY.out.b3 HAN.out⟩⟩, ?_⟩
    simp [intOf]; omega
  ·have q1 : decide ((a : Int) < (xs.length : Int)) = false := decide_eq_false (by omega)
   have HIS : Hid (vws ds = foldV (evs xs)) := Lib.hid (by rw [HA.out.is, List.take_of_length_le (by omega)])
   have x0 : wr.cell? ⟨B3, 0, none⟩ = some (.slice Au ds.length cu) := cell_at HA.out.b3 0
   have y0 : wr.cell? ⟨B2, 0, none⟩ = some (.slice none 0 0) := cell_at HA.out.b2 0
   have z0 : wr.frozen? ⟨B2, 0, none⟩ = false := free_at HA.out.b2 0
   have HAN := Lib.hid (one_at HA.out.b2 (.slice Au ds.length cu) _ rfl)
   go_wp2_with fail
   clear x0 y0 z0
   generalize World.setCell _ _ _ = w9 at HAN ⊢
   have s0 : w9.cell? ⟨B2, 0, none⟩ = some (.slice Au ds.length cu) := cell_at HAN.out.1 0
   refine bodyPost_ret (v := .agg #[.slice Au ds.length cu]) ?_ rfl ?_
   ·simp [results, Tryz.results27, go_sem, s0]
   ·have hst : ∀ k, k < wr.heap.size → k ≠ B2 → w9.heap[k]? = wr.heap[k]? := fun k hk hne => HAN.out.2.block k hk (fun e => hne (by injection e))
    refine ⟨_, ds, rfl, HA.out.dss.stay HAN.out.2.size (fun k hk hf => hst k hk (fun e => ?_)), HIS.out, fun k hk => ?_, HA.out.below.grown HAN.out.2 HA.out.below.size (fun k hk => by injection hk with hk; have := HA.out.low.1; omega)⟩
    ·rcases HA.out.foot k hf with hh | hh
     ·have := HOLD.out k hh
      have := HA.out.low.1
      omega
     ·exact hh.2.1 e
    ·rcases HA.out.foot k hk with hh | hh
     ·exact .inl hh
     ·exact .inr hh.1
end Go.Proofs.YtnnapkakbdpkaaaGreat
