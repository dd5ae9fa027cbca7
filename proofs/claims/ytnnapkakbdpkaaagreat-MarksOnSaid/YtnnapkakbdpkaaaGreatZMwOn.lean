/-
  The statement MarksOn.
-/
import Derived.Test.YtnnapkakbdpkaaaGreatZA29
import Derived.Test.YtnnapkakbdpkaaaGreatZA30
set_option linter.unusedVariables false
set_option linter.unusedSimpArgs false
namespace Go.Proofs.YtnnapkakbdpkaaaGreat
set_option maxRecDepth 20000
open Go.RowKit
set_option maxHeartbeats 6400000 in
theorem marksOn_walk (va vb vl : Value) (gs hs : List GV) (l : List Edu) (w : World) (ha : GsS w va gs) (hb : GsS w vb hs) (hl : EsS w vl l) : Calls Tryz.prog 5 #[va, vb, vl] w fun x w' => x = .returned (.bool true) ∧ Below w.heap.size w w' := by
 obtain ⟨Al, cl, rfl, hl1, hl2, -⟩ := id hl.1
 unfold maxLen at hl2
 have HL := Lib.hid hl.1
 have HLW := Lib.hid hl.2
 have HGA := Lib.hid ha
 have HGB := Lib.hid hb
 have HN := Lib.hid (marksNew_yes 8 (by decide) (by decide) (Km.start (C := codeDags) w))
 clear ha hb hl
 go_enter Tryz.func5, Tryz.ntmps5
 go_wp2_with fail
 go_at_call 9
 refine HN.out.mono ?_
 rintro a w2 ⟨X, rfl, hX, hk⟩
 have HX := Lib.hid hX
 have HK1 := Lib.hid hk
 have HV := Lib.hid (viewNew_any hk.kv)
 clear HN hX hk
 go_wp2_with fail
 go_at_call 10
 refine HV.out.mono ?_
 rintro a w3 ⟨v, rfl, hv, hk⟩
 have HK2 := Lib.hid (HK1.out.ofKv hk)
 have HV0 := Lib.hid hv
 have HMD := Lib.hid (refMade10_any va vb gs hs w3 (HGA.out.below HK2.out.below) (HGB.out.below HK2.out.below))
 clear HV hk hv HK1
 go_wp2_with fail
 go_at_call 11
 refine HMD.out.mono ?_
 rintro a w4 ⟨ve, zs, rfl, hes, hzs, hmi, hb, hft⟩
 have HZ := Lib.hid hzs
 obtain ⟨Az, cz, rfl, hz1, hz2, -⟩ := hmi.shape
 unfold maxLen at hz2
 have HK3 := Lib.hid (HK2.out.add (t := Th.evs (.slice Az zs.length cz) zs) hb hes (fun k hk => .inl (hft k hk)))
 have HZL : Hid (zs.length ≤ 18) := Lib.hid (by
  have h5 := madeL_len gs hs
  rw [← hzs, evs_len] at h5
  exact h5)
 have HOK : Hid (AllOk (evs zs)) := Lib.hid (by rw [hzs]; exact madeL_ok gs hs)
 clear hes hmi hb hft HMD HK2 hzs HGA HGB
 obtain ⟨gx, hgx⟩ : ∃ g, X.g = g := ⟨_, rfl⟩
 obtain ⟨gv, hgv⟩ : ∃ g, v.g = g := ⟨_, rfl⟩
 obtain ⟨evt, hevt⟩ : ∃ t, Th.evs (.slice Az zs.length cz) zs = t := ⟨_, rfl⟩
 have H0 : Hid (∃ vi : VI, vi.g = gv ∧ vi.V = foldV ((evs zs).take 0) ∧ Km codeDags w w4 [vi] [X.park, X.tab] [evt, X.box]) := Lib.hid ⟨v, hgv, HV0.out, by rw [← hevt]; exact HK3.out⟩
 have HEVT := Lib.hid hevt
 rw [hgx, hgv]
 have HGX := Lib.hid hgx
 clear HK3 hgx hgv hevt HV0
 go_wp2_with fail
 go_loopw [11] (fun n wz => ∃ a : Nat, n = .int .i64 (a : Int) ∧ a ≤ zs.length ∧ Hid (∃ vi : VI, vi.g = gv ∧ vi.V = foldV ((evs zs).take a) ∧ Km codeDags w wz [vi] [X.park, X.tab] [evt, X.box])) (fun n _ => zs.length - (intOf n).toNat)
 case atStart => exact ⟨0, rfl, Nat.zero_le _, H0⟩
 case round =>
  obtain ⟨a, rfl, ha, HD⟩ := hrel
  clear H0
  obtain ⟨vi, hvg, hvV, hk⟩ := HD.out
  have HK := Lib.hid hk
  have HVI := Lib.hid (And.intro hvg hvV)
  clear hvg hvV hk HD
  by_cases hax : a < zs.length
  ·have q1 : decide ((a : Int) < (zs.length : Int)) = true := decide_eq_true (by omega)
   have hx : zs[a]? = some zs[a] := List.getElem?_eq_getElem hax
   generalize zs[a] = y at hx
   have HES := Lib.hid (show EvsS wr (.slice Az zs.length cz) zs from by
    have h5 := HK.out.isT (t := evt) List.mem_cons_self
    rw [← HEVT.out] at h5
    exact h5)
   obtain ⟨b2, f2, hA, hb2, hr2⟩ := ev_at HES.out hx
   have hi2 := index_any (P := Tryz.prog) knV (by decide) (b := b2) (off := f2) (cap := cz) hax
   simp only [LV] at hi2
   rw [← hA] at hi2
   obtain ⟨e0, e1, e2, e3, e4, e5⟩ := ev_cells hr2
   unfold EvV.pv at e2
   have HYD : Hid ((evs zs)[a]? = some y.ev) := Lib.hid (evs_get hx)
   have HRM : Hid (y.ev.room.size ≤ 40) := Lib.hid (by
    obtain ⟨i, hi⟩ := List.getElem?_of_mem (List.mem_of_getElem? HYD.out)
    exact (may_short (err_zero (HOK.out i _ hi)).1).2.1)
   have HKX := Lib.hid (HK.out.evOf (v := .slice Az zs.length cz) (zs := zs) (y := y) (by rw [HEVT.out]; exact List.mem_cons_self) (List.mem_of_getElem? hx))
   have HQ := Lib.hid (viewAdd_any codeRms HKX.out.kv (i := 0) rfl (by
    rw [HVI.out.2]
    refine (foldV_ok _).mono ?_
    have := HZL.out
    rw [List.length_take]
    omega) y (List.mem_append_right _ List.mem_cons_self) HRM.out)
   rw [HVI.out.1, HVI.out.2, ← foldV_take HYD.out] at HQ
   unfold EvV.val EvV.pv at HQ
   clear hx hr2 hb2 HK HRM HES hA
   go_wp2_with fail
   go_at_call 16
   refine HQ.out.mono ?_
   rintro b w6 ⟨v2, rfl, hg2, hv2, hk2⟩
   have HK2 := Lib.hid ((HKX.out.ofKv hk2).less (ts' := [evt, X.box]) (fun t ht => List.mem_cons_of_mem _ ht))
   have HE := Lib.hid (And.intro hg2 hv2)
   clear hg2 hv2 hk2 HKX HQ hi2 e0 e1 e2 e3 e4 e5
   go_wp2_with fail
   refine ⟨⟨a + 1, by go_num, by omega, Lib.hid ⟨v2, HE.out.1, HE.out.2, HK2.out⟩⟩, ?_⟩
   simp [intOf]; omega
  ·have q1 : decide ((a : Int) < (zs.length : Int)) = false := decide_eq_false (by omega)
   obtain rfl : a = zs.length := by omega
   have hfull : (evs zs).take zs.length = evs zs := by rw [← evs_len zs, List.take_length]
   rw [hfull] at HVI
   clear hfull
   obtain ⟨V, hV⟩ : ∃ V, foldV (evs zs) = V := ⟨_, rfl⟩
   have HL0 : Hid (X.r.l = [] ∧ X.p = ⟨8, [], 0⟩) := Lib.hid ⟨congrArg Ms.l HX.out, congrArg Ms.p HX.out⟩
   have HG : Hid (vi.V = V) := Lib.hid (by rw [HVI.out.2, hV])
   obtain ⟨bx, hbx⟩ : ∃ b, X.box = b := ⟨_, rfl⟩
   obtain ⟨gw, hgw⟩ : ∃ g, vi.g = g := ⟨_, rfl⟩
   have hgv2 : gv = gw := by rw [← hgw, HVI.out.1]
   have HGW := Lib.hid hgw
   have H0 : Hid (∃ y : MkI, y.g = gx ∧ y.box = bx ∧ RowM y.r.l ∧ y.r.l.length ≤ 0 ∧ y.p.l.length ≤ 0 ∧ y.p.lost ≤ 0 ∧ y.p.most = 8 ∧ Km codeDags w wr [vi] [y.park, y.tab] [bx]) := Lib.hid ⟨X, HGX.out, hbx, by rw [HL0.out.1]; exact row_nilM, by rw [HL0.out.1]; exact Nat.le_refl _, by rw [HL0.out.2]; exact Nat.le_refl _, by rw [HL0.out.2]; exact Nat.le_refl _, by rw [HL0.out.2], HK.out.less (fun t ht => by
    rw [List.mem_singleton.1 ht, ← hbx]
    exact List.mem_cons_of_mem _ List.mem_cons_self)⟩
   rw [hgv2]
   clear HK hV hbx hgw hgv2 HL0 HX HGX HEVT HOK HZ HVI HZL
   go_wp2_with fail
   go_loopw [12, 13, 14, 15, 16, 17, 18, 19, 20, 21] (fun n _ _ _ _ _ _ _ _ _ wz => ∃ a : Nat, n = .int .i64 (a : Int) ∧ a ≤ 12 ∧ a ≤ l.length ∧ Hid (∃ y : MkI, y.g = gx ∧ y.box = bx ∧ RowM y.r.l ∧ y.r.l.length ≤ a ∧ y.p.l.length ≤ a ∧ y.p.lost ≤ a ∧ y.p.most = 8 ∧ Km codeDags w wz [vi] [y.park, y.tab] [bx])) (fun n _ _ _ _ _ _ _ _ _ _ => 12 - (intOf n).toNat)
   case atStart => exact ⟨0, rfl, by omega, Nat.zero_le _, H0⟩
   case round =>
    obtain ⟨a, rfl, ha1, ha2, HD⟩ := hrel
    clear H0
    obtain ⟨Y, hyg, hyb, hyr, hyl, hyp, hyc, hym, hk⟩ := HD.out
    have HK := Lib.hid hk
    have HY := Lib.hid (And.intro hyr (And.intro hyl (And.intro hyp (And.intro hyc hym))))
    have HAM : Hid (∀ t, AtM Y 0 1 [Y.park, Y.tab] (t :: [bx])) := Lib.hid (fun t => ⟨rfl, rfl, by decide, by rw [hyb]; exact List.mem_cons_of_mem _ List.mem_cons_self⟩)
    have HYG := Lib.hid hyg
    have HYB := Lib.hid hyb
    clear hyr hyl hyp hyc hym hk hyb HD hyg
    by_cases hax : a < l.length
    case neg =>
     have q1 : decide ((a : Int) < (l.length : Int)) = false := decide_eq_false (by omega)
     have HLV := Lib.hid (fun W => lives13_any W)
     have HBZ := Lib.hid HK.out.below
     clear HK
     go_wp2_with fail
     go_at_call 25
     refine (HLV.out _).mono ?_
     rintro b w5 ⟨rfl, hb⟩
     replace HBZ := Lib.hid (HBZ.out.trans (hb.mono HBZ.out.size))
     clear hb HLV
     go_wp2_with fail
     go_ret
     exact ⟨rfl, HBZ.out⟩
    have q1 : decide ((a : Int) < (l.length : Int)) = true := decide_eq_true (by omega)
    by_cases hax2 : a < 12
    case neg =>
     have q2 : decide ((a : Int) < 12) = false := decide_eq_false (by omega)
     have HLV := Lib.hid (fun W => lives13_any W)
     have HBZ := Lib.hid HK.out.below
     clear HK
     go_wp2_with fail
     go_at_call 25
     refine (HLV.out _).mono ?_
     rintro b w5 ⟨rfl, hb⟩
     replace HBZ := Lib.hid (HBZ.out.trans (hb.mono HBZ.out.size))
     clear hb HLV
     go_wp2_with fail
     go_ret
     exact ⟨rfl, HBZ.out⟩
    have q2 : decide ((a : Int) < 12) = true := decide_eq_true (by omega)
    have hx : l[a]? = some l[a] := List.getElem?_eq_getElem hax
    generalize l[a] = z at hx
    obtain ⟨bo, oo, hA, hbo, hco⟩ := (HL.out.below HK.out.below).at hx
    have hiy := index_any (P := Tryz.prog) knE (by decide) (b := bo) (off := oo) (cap := cl) hax
    simp only [LE] at hiy hco
    rw [← hA] at hiy
    clear hA
    obtain ⟨a0, a1, a2, a3, a4, a5, a6, a7, a8, a9, a10⟩ := range11 hco
    have HWT := Lib.hid (fun W => waits_any z W (HLW.out z (List.mem_of_getElem? hx)))
    have HZS := Lib.hid (wait_small z)
    generalize waitE z = e at *
    obtain ⟨k, r, u, z, t, pr, o, s, y, c, m⟩ := z
    simp only [Edu.val] at HWT
    clear hx hco hbo
    go_wp2_with fail
    go_at_call 12
    refine (HWT.out _).mono ?_
    rintro b w5 ⟨rfl, hb⟩
    have HK5 := Lib.hid (HK.out.later hb)
    clear hb HWT HK a0 a1 a2 a3 a4 a5 a6 a7 a8 a9 a10 hiy
    have HOFM := Lib.hid (fun W => ofM_any e HZS.out.brief W)
    have HKOK : Hid ((keyE e).ok) := Lib.hid ⟨HZS.out.brief.1, HZS.out.brief.2.1, HZS.out.brief.2.2.2⟩
    have HPUT := Lib.hid (fun W ts' (hkW : Km codeDags w W [vi] [Y.park, Y.tab] ts') (hbx : bx ∈ ts') => marksPut_any hkW (q := 0) rfl (show AtM Y 0 1 [Y.park, Y.tab] ts' from ⟨rfl, rfl, by decide, by rw [HYB.out]; exact hbx⟩) (by have := HY.out.2.1; omega) (by have := HY.out.2.2.1; omega) (by have := HY.out.2.2.2.1; omega) (by rw [HY.out.2.2.2.2]; decide) e HZS.out)
    have HPN := Lib.hid (msput_on (s := Y.ms) (V := vi.V) (e := e) HY.out.1)
    have HPF := Lib.hid (fun h => msput_off (s := Y.ms) (V := vi.V) (e := e) h)
    have HPR := Lib.hid (msput_row Y.ms vi.V e HY.out.1)
    have HPL := Lib.hid (msput_len Y.ms vi.V e)
    have HPV : Hid ((bif hasE (ofL vi.V e.room) e.event then posL (ofL vi.V e.room) e.event else ⟨0, ⟨#[]⟩⟩) = posV vi.V e.room e.event) := Lib.hid rfl
    have HPOS := Lib.hid (fun W ms' ts' (hkW : Km codeDags w W [vi] ms' ts') => viewPosition_any hkW.kv (i := 0) rfl e.room e.event HZS.out.room (maxLen_40 HZS.out.event))
    rw [HPV.out] at HPOS
    clear HPV
    rw [HYG.out, HG.out, HGW.out] at HPUT
    rw [HGW.out] at HPOS
    rw [HG.out] at HPN HPF HPR HPL HPOS
    generalize hon : Y.ms.on V e = on at *
    generalize Ms.err V e = er at *
    generalize hS : Y.ms.put V e = S at *
    generalize hasE (ofL V e.room) e.event = kn at *
    generalize posV V e.room e.event = pq at *
    clear hon hS
    obtain ⟨ke, hke⟩ : ∃ k, keyE e = k := ⟨_, rfl⟩
    have HKE := Lib.hid hke
    rw [hke] at HOFM HKOK HPN
    clear hke
    obtain ⟨kr, ku, kt, kp⟩ := ke
    have HGET := Lib.hid (fun W (y : MkI) (h : CRs W y.r) => rcGet_any h ⟨kr, ku, kt, kp⟩ HKOK.out)
    obtain ⟨xk, xr, xu, xz, xt, xp, xo, xs, xy, xc, xm⟩ := e
    simp only [Edu.val, Rk.val] at HOFM HPUT HGET
    have HK6 := Lib.hid (HK5.out.add (t := Th.box w5.heap.size (.cells #[.int .i64 xk, .string xr, .string xu, .string xz, .string xt, .bool xp, .bool xo, .int .i64 xs, .int .i64 xy, .int .i64 xc, .int .i64 xm] 43 (0, 0))) (below_new w5 _) (heap_alloc_new w5 _) (fun k hk => .inl (Nat.le_of_eq hk.symm)))
    go_upto_region 14 with (fail)
    generalize World.alloc _ _ = w6 at HK6 ⊢
    generalize w5.heap.size = g13 at HK6 ⊢
    clear HK5
    have HOBY : Hid (∀ W vs' ms' ts', Km codeDags w W vs' ms' ts' → bx ∈ ts' → W.heap[gx]? = some (.cells (mkO Y.r.g Y.b) 71 (0, 0))) := Lib.hid (fun W vs' ms' ts' hk hb => by
     have h5 := hk.isT hb
     rw [← HYB.out, MkI.box, HYG.out] at h5
     exact h5)
    obtain ⟨tsA, htsA⟩ : ∃ tsA, tsA = Th.box g13 (.cells #[.int .i64 xk, .string xr, .string xu, .string xz, .string xt, .bool xp, .bool xo, .int .i64 xs, .int .i64 xy, .int .i64 xc, .int .i64 xm] 43 (0, 0)) :: [bx] := ⟨_, rfl⟩
    have HM13 : Hid (Th.box g13 (.cells #[.int .i64 xk, .string xr, .string xu, .string xz, .string xt, .bool xp, .bool xo, .int .i64 xs, .int .i64 xy, .int .i64 xc, .int .i64 xm] 43 (0, 0)) ∈ tsA) := Lib.hid (by rw [htsA]; exact List.mem_cons_self)
    have HMB : Hid (bx ∈ tsA) := Lib.hid (by rw [htsA]; exact List.mem_cons_of_mem _ List.mem_cons_self)
    have HKQ := Lib.hid (show Km codeDags w w6 [vi] [Y.park, Y.tab] tsA from by rw [htsA]; exact HK6.out)
    have HOB := Lib.hid (fun W (hk : Km codeDags w W [vi] [Y.park, Y.tab] tsA) => HOBY.out W _ _ _ hk HMB.out)
    obtain ⟨⟨pd, pi⟩, hpo⟩ : ∃ p, gotP Y.r.l ⟨kr, ku, kt, kp⟩ = p := ⟨_, rfl⟩
    obtain ⟨hd, hhd⟩ : ∃ b, (getM Y.r.l ⟨kr, ku, kt, kp⟩).isSome = b := ⟨_, rfl⟩
    have HGP := Lib.hid (And.intro hpo hhd)
    have HTSA := Lib.hid htsA
    clear HK6 hpo hhd htsA
    go_cut [14, 15] from 67 to 78 (fun sa sb wx => ∃ Bq, sa = .pointer (some ⟨Bq, 0, none⟩) ∧ sb = .bool hd ∧ Hid (Km codeDags w wx [vi] [Y.park, Y.tab] (Th.box Bq (.cells #[.int .i64 pd, .string pi] 83 (0, 0)) :: tsA)))
    case first =>
     refine wp_region_held_drew (S := fun W => Km codeDags w W [vi] [Y.park, Y.tab] tsA) (by kernel_rfl) (HKQ.out.later (below_drew _)) (fun hHeld => ?_)
     clear HKQ
     generalize World.drew _ = wd at hHeld ⊢
     refine wpAnyH_take (i := 0) (oi := ⟨some 68, _, _, _, _, _⟩) (v := ?vga0) rfl (by kernel_rfl) (by kernel_rfl) (by kernel_rfl) (fun _ _ _ h => h) (Or.inl ⟨by rfl, ?yga0⟩) hHeld ?rga0
     case yga0 =>
      intro wx hSx
      go_simp
      try with_reducible rfl
     try simp only [actS]
     refine wpAnyH_take (i := 1) (oi := ⟨some 69, _, _, _, _, _⟩) (v := ?vga1) rfl (by kernel_rfl) (by kernel_rfl) (by kernel_rfl) (fun _ _ _ h => h) (Or.inl ⟨by rfl, ?yga1⟩) hHeld ?rga1
     case yga1 =>
      intro wx hSx
      go_simp
      try with_reducible rfl
     try simp only [actS]
     refine wpAnyH_take (i := 2) (oi := ⟨some 70, _, _, _, _, _⟩) (v := ?vga2) rfl (by kernel_rfl) (by kernel_rfl) (by kernel_rfl) (fun _ _ _ h => h) (Or.inl ⟨by rfl, ?yga2⟩) hHeld ?rga2
     case yga2 =>
      intro wx hSx
      go_simp
      try with_reducible rfl
     try simp only [actS]
     refine wpAnyH_take (i := 3) (oi := ⟨some 71, _, _, _, _, _⟩) (v := ?vga3) rfl (by kernel_rfl) (by kernel_rfl) (by kernel_rfl) (fun _ _ _ h => h) (Or.inl ⟨by rfl, ?yga3⟩) hHeld ?rga3
     case yga3 =>
      intro wx hSx
      obtain ⟨e0, e1, e2, e3⟩ := mkO_at (x := Y) (HOB.out wx hSx)
      go_simp
      try with_reducible rfl
     try simp only [actS]
     refine wpAnyH_take (i := 4) (oi := ⟨some 72, _, _, _, _, _⟩) (v := ?vga4) rfl (by kernel_rfl) (by kernel_rfl) (by kernel_rfl) (fun _ _ _ h => h) (Or.inl ⟨by rfl, ?yga4⟩) hHeld ?rga4
     case yga4 =>
      intro wx hSx
      obtain ⟨d0, d1, d2, d3, d4, d5, d6, d7, d8, d9, d10⟩ := cells11 (hSx.isT HM13.out)
      go_simp
      try with_reducible rfl
     try simp only [actS]
     refine wpAnyH_take (i := 6) (oi := ⟨some 74, _, _, _, _, _⟩) (v := ?vga6) rfl (by kernel_rfl) (by kernel_rfl) (by kernel_rfl) (fun _ _ _ h => h) (Or.inl ⟨by rfl, ?yga6⟩) hHeld ?rga6
     case yga6 =>
      intro wx hSx
      go_simp
      try with_reducible rfl
     try simp only [actS]
     refine wpAnyH_take (i := 7) (oi := ⟨some 75, _, _, _, _, _⟩) (v := ?vga7) rfl (by kernel_rfl) (by kernel_rfl) (by kernel_rfl) (fun _ _ _ h => h) (Or.inl ⟨by rfl, ?yga7⟩) hHeld ?rga7
     case yga7 =>
      intro wx hSx
      go_simp
      try with_reducible rfl
     try simp only [actS]
     refine wpAnyH_ready (rs := [5, 12]) (by kernel_rfl) (by simp) ?_
     refine AllReadyH.cons (o := ⟨some 73, _, _, _, _, _⟩) rfl (fun K hK => ?wayAa) (AllReadyH.cons (o := ⟨some 14, _, _, _, _, _⟩) rfl (fun K hK => ?wayBa) AllReadyH.nil)
     case wayAa =>
      go_simp
      refine (HOFM.out _).mono ?_
      rintro b wof ⟨rfl, hb⟩
      skip
      refine hK.out _ _ (hHeld.later hb) (fun hHeld => ?_)
      clear hK K hb
      try simp only [actS]
      refine wpAnyH_ready (rs := [8, 12]) (by kernel_rfl) (by simp) ?_
      refine AllReadyH.cons (o := ⟨some 76, _, _, _, _, _⟩) rfl (fun K hK => ?wayCa) (AllReadyH.cons (o := ⟨some 14, _, _, _, _, _⟩) rfl (fun K hK => ?wayDa) AllReadyH.nil)
      case wayCa =>
       have HG1 := HGET.out _ Y (hHeld.isM (i := 1) rfl)
       rw [HGP.out.1, HGP.out.2] at HG1
       simp only [Po.val] at HG1
       go_simp
       try go_invoke
       refine HG1.mono ?_
       rintro b wgt ⟨rfl, hb⟩
       skip
       refine hK.out _ _ (hHeld.later hb) (fun hHeld => ?_)
       clear hK K hb HG1
       try simp only [actS]
       refine wpAnyH_take (i := 9) (oi := ⟨some 67, _, _, _, _, _⟩) (v := ?via9) rfl (by kernel_rfl) (by kernel_rfl) (by kernel_rfl) (fun _ _ _ h => h) (Or.inl ⟨by rfl, ?yia9⟩) hHeld ?ria9
       case yia9 =>
        intro wx hSx
        go_simp
        try with_reducible rfl
       try simp only [actS]
       refine wpAnyH_take (i := 10) (oi := ⟨some 77, _, _, _, _, _⟩) (v := ?via10) rfl (by kernel_rfl) (by kernel_rfl) (by kernel_rfl) (fun _ _ _ h => h) (Or.inl ⟨by rfl, ?yia10⟩) hHeld ?ria10
       case yia10 =>
        intro wx hSx
        go_simp
        try with_reducible rfl
       try simp only [actS]
       refine wpAnyH_take (i := 11) (oi := ⟨some 78, _, _, _, _, _⟩) (v := ?via11) rfl (by kernel_rfl) (by kernel_rfl) (by kernel_rfl) (fun _ _ _ h => h) (Or.inl ⟨by rfl, ?yia11⟩) hHeld ?ria11
       case yia11 =>
        intro wx hSx
        go_simp
        try with_reducible rfl
       try simp only [actS]
       refine wpAnyH_ready (rs := [12]) (by kernel_rfl) (by simp) ?_
       refine AllReadyH.cons (o := ⟨some 14, _, _, _, _, _⟩) rfl (fun K hK => ?_) AllReadyH.nil
       have hq := heap_alloc_new wgt (.cells #[.int .i64 0, .string ⟨#[]⟩] 83)
       have HKB := Lib.hid (hHeld.made (m := Th.box wgt.heap.size (.cells #[.int .i64 0, .string ⟨#[]⟩] 83 (0, 0))) (below_new wgt _) hq (fun k hk => Nat.le_of_eq hk.symm))
       have hH := hHeld.later (below_new wgt (.cells #[.int .i64 0, .string ⟨#[]⟩] 83))
       go_simp
       generalize World.alloc _ _ = wal at hq hH HKB ⊢
       generalize wgt.heap.size = gq at hq HKB ⊢
       refine hK.out _ _ hH (fun hHeld => ?_)
       clear hK K hH hq
       try simp only [actS]
       refine wpAnyH_ready (rs := [13]) (by kernel_rfl) (by simp) ?_
       refine AllReadyH.cons (o := ⟨none, _, _, _, _, _⟩) rfl (fun K hK => ?_) AllReadyH.nil
       have hq := HKB.out.isM (i := 2) rfl
       rw [if_pos (by rfl)]
       refine wp_store_row 83 (.tmp 14) (.tmp 77) rfl gq #[.int .i64 pd, .string pi] rfl rfl 83 _ hq pos_info rfl (one2 _ _) ?_
       have HKC := Lib.hid (HKB.out.rebox (i := 2) (cs' := #[.int .i64 pd, .string pi]) rfl)
       refine hK.out _ _ (Km.drop (m := Th.box gq (.cells #[.int .i64 pd, .string pi] 83 (0, 0))) HKC.out) (fun hHeld => ?_)
       clear hK K hq HKB
       generalize World.setRow _ _ _ = wst at hHeld HKC ⊢
       try simp only [actS]
       refine wpAnyH_take (i := 14) (oi := ⟨some 15, _, _, _, _, _⟩) (v := ?via14) rfl (by kernel_rfl) (by kernel_rfl) (by kernel_rfl) (fun _ _ _ h => h) (Or.inl ⟨by rfl, ?yia14⟩) hHeld ?ria14
       case yia14 =>
        intro wx hSx
        go_simp
        try with_reducible rfl
       try simp only [actS]
       refine wpAnyH_done (by kernel_rfl) ?_ _
       have HKE2 := Lib.hid (Km.keep (ms := [Y.park, Y.tab]) (m := Th.box gq (.cells #[.int .i64 pd, .string pi] 83 (0, 0))) HKC.out)
       clear hHeld HKC
       go_wp2_with fail
       go_meet
       exact ⟨gq, rfl, rfl, HKE2⟩
      case wayDa =>
       have hq := heap_alloc_new wof (.cells #[.int .i64 0, .string ⟨#[]⟩] 83)
       have HKB := Lib.hid (hHeld.made (m := Th.box wof.heap.size (.cells #[.int .i64 0, .string ⟨#[]⟩] 83 (0, 0))) (below_new wof _) hq (fun k hk => Nat.le_of_eq hk.symm))
       have hH := hHeld.later (below_new wof (.cells #[.int .i64 0, .string ⟨#[]⟩] 83))
       go_simp
       generalize World.alloc _ _ = wal at hq hH HKB ⊢
       generalize wof.heap.size = gq at hq HKB ⊢
       refine hK.out _ _ hH (fun hHeld => ?_)
       clear hK K hH hq
       try simp only [actS]
       refine wpAnyH_ready (rs := [8]) (by kernel_rfl) (by simp) ?_
       refine AllReadyH.cons (o := ⟨some 76, _, _, _, _, _⟩) rfl (fun K hK => ?_) AllReadyH.nil
       have HG1 := HGET.out _ Y (hHeld.isM (i := 1) rfl)
       rw [HGP.out.1, HGP.out.2] at HG1
       simp only [Po.val] at HG1
       go_simp
       try go_invoke
       refine HG1.mono ?_
       rintro b wgt ⟨rfl, hb⟩
       replace HKB := Lib.hid (HKB.out.later hb)
       refine hK.out _ _ (hHeld.later hb) (fun hHeld => ?_)
       clear hK K hb HG1
       try simp only [actS]
       refine wpAnyH_take (i := 9) (oi := ⟨some 67, _, _, _, _, _⟩) (v := ?vja9) rfl (by kernel_rfl) (by kernel_rfl) (by kernel_rfl) (fun _ _ _ h => h) (Or.inl ⟨by rfl, ?yja9⟩) hHeld ?rja9
       case yja9 =>
        intro wx hSx
        go_simp
        try with_reducible rfl
       try simp only [actS]
       refine wpAnyH_take (i := 10) (oi := ⟨some 77, _, _, _, _, _⟩) (v := ?vja10) rfl (by kernel_rfl) (by kernel_rfl) (by kernel_rfl) (fun _ _ _ h => h) (Or.inl ⟨by rfl, ?yja10⟩) hHeld ?rja10
       case yja10 =>
        intro wx hSx
        go_simp
        try with_reducible rfl
       try simp only [actS]
       refine wpAnyH_take (i := 11) (oi := ⟨some 78, _, _, _, _, _⟩) (v := ?vja11) rfl (by kernel_rfl) (by kernel_rfl) (by kernel_rfl) (fun _ _ _ h => h) (Or.inl ⟨by rfl, ?yja11⟩) hHeld ?rja11
       case yja11 =>
        intro wx hSx
        go_simp
        try with_reducible rfl
       try simp only [actS]
       refine wpAnyH_ready (rs := [13]) (by kernel_rfl) (by simp) ?_
       refine AllReadyH.cons (o := ⟨none, _, _, _, _, _⟩) rfl (fun K hK => ?_) AllReadyH.nil
       have hq := HKB.out.isM (i := 2) rfl
       rw [if_pos (by rfl)]
       refine wp_store_row 83 (.tmp 14) (.tmp 77) rfl gq #[.int .i64 pd, .string pi] rfl rfl 83 _ hq pos_info rfl (one2 _ _) ?_
       have HKC := Lib.hid (HKB.out.rebox (i := 2) (cs' := #[.int .i64 pd, .string pi]) rfl)
       refine hK.out _ _ (Km.drop (m := Th.box gq (.cells #[.int .i64 pd, .string pi] 83 (0, 0))) HKC.out) (fun hHeld => ?_)
       clear hK K hq HKB
       generalize World.setRow _ _ _ = wst at hHeld HKC ⊢
       try simp only [actS]
       refine wpAnyH_take (i := 14) (oi := ⟨some 15, _, _, _, _, _⟩) (v := ?vja14) rfl (by kernel_rfl) (by kernel_rfl) (by kernel_rfl) (fun _ _ _ h => h) (Or.inl ⟨by rfl, ?yja14⟩) hHeld ?rja14
       case yja14 =>
        intro wx hSx
        go_simp
        try with_reducible rfl
       try simp only [actS]
       refine wpAnyH_done (by kernel_rfl) ?_ _
       have HKE2 := Lib.hid (Km.keep (ms := [Y.park, Y.tab]) (m := Th.box gq (.cells #[.int .i64 pd, .string pi] 83 (0, 0))) HKC.out)
       clear hHeld HKC
       go_wp2_with fail
       go_meet
       exact ⟨gq, rfl, rfl, HKE2⟩
     case wayBa =>
      have hq := heap_alloc_new wd (.cells #[.int .i64 0, .string ⟨#[]⟩] 83)
      have HKB := Lib.hid (hHeld.made (m := Th.box wd.heap.size (.cells #[.int .i64 0, .string ⟨#[]⟩] 83 (0, 0))) (below_new wd _) hq (fun k hk => Nat.le_of_eq hk.symm))
      have hH := hHeld.later (below_new wd (.cells #[.int .i64 0, .string ⟨#[]⟩] 83))
      go_simp
      generalize World.alloc _ _ = wal at hq hH HKB ⊢
      generalize wd.heap.size = gq at hq HKB ⊢
      refine hK.out _ _ hH (fun hHeld => ?_)
      clear hK K hH hq
      try simp only [actS]
      refine wpAnyH_ready (rs := [5]) (by kernel_rfl) (by simp) ?_
      refine AllReadyH.cons (o := ⟨some 73, _, _, _, _, _⟩) rfl (fun K hK => ?_) AllReadyH.nil
      go_simp
      refine (HOFM.out _).mono ?_
      rintro b wof ⟨rfl, hb⟩
      replace HKB := Lib.hid (HKB.out.later hb)
      refine hK.out _ _ (hHeld.later hb) (fun hHeld => ?_)
      clear hK K hb
      try simp only [actS]
      refine wpAnyH_ready (rs := [8]) (by kernel_rfl) (by simp) ?_
      refine AllReadyH.cons (o := ⟨some 76, _, _, _, _, _⟩) rfl (fun K hK => ?_) AllReadyH.nil
      have HG1 := HGET.out _ Y (hHeld.isM (i := 1) rfl)
      rw [HGP.out.1, HGP.out.2] at HG1
      simp only [Po.val] at HG1
      go_simp
      try go_invoke
      refine HG1.mono ?_
      rintro b wgt ⟨rfl, hb⟩
      replace HKB := Lib.hid (HKB.out.later hb)
      refine hK.out _ _ (hHeld.later hb) (fun hHeld => ?_)
      clear hK K hb HG1
      try simp only [actS]
      refine wpAnyH_take (i := 9) (oi := ⟨some 67, _, _, _, _, _⟩) (v := ?vka9) rfl (by kernel_rfl) (by kernel_rfl) (by kernel_rfl) (fun _ _ _ h => h) (Or.inl ⟨by rfl, ?yka9⟩) hHeld ?rka9
      case yka9 =>
       intro wx hSx
       go_simp
       try with_reducible rfl
      try simp only [actS]
      refine wpAnyH_take (i := 10) (oi := ⟨some 77, _, _, _, _, _⟩) (v := ?vka10) rfl (by kernel_rfl) (by kernel_rfl) (by kernel_rfl) (fun _ _ _ h => h) (Or.inl ⟨by rfl, ?yka10⟩) hHeld ?rka10
      case yka10 =>
       intro wx hSx
       go_simp
       try with_reducible rfl
      try simp only [actS]
      refine wpAnyH_take (i := 11) (oi := ⟨some 78, _, _, _, _, _⟩) (v := ?vka11) rfl (by kernel_rfl) (by kernel_rfl) (by kernel_rfl) (fun _ _ _ h => h) (Or.inl ⟨by rfl, ?yka11⟩) hHeld ?rka11
      case yka11 =>
       intro wx hSx
       go_simp
       try with_reducible rfl
      try simp only [actS]
      refine wpAnyH_ready (rs := [13]) (by kernel_rfl) (by simp) ?_
      refine AllReadyH.cons (o := ⟨none, _, _, _, _, _⟩) rfl (fun K hK => ?_) AllReadyH.nil
      have hq := HKB.out.isM (i := 2) rfl
      rw [if_pos (by rfl)]
      refine wp_store_row 83 (.tmp 14) (.tmp 77) rfl gq #[.int .i64 pd, .string pi] rfl rfl 83 _ hq pos_info rfl (one2 _ _) ?_
      have HKC := Lib.hid (HKB.out.rebox (i := 2) (cs' := #[.int .i64 pd, .string pi]) rfl)
      refine hK.out _ _ (Km.drop (m := Th.box gq (.cells #[.int .i64 pd, .string pi] 83 (0, 0))) HKC.out) (fun hHeld => ?_)
      clear hK K hq HKB
      generalize World.setRow _ _ _ = wst at hHeld HKC ⊢
      try simp only [actS]
      refine wpAnyH_take (i := 14) (oi := ⟨some 15, _, _, _, _, _⟩) (v := ?vka14) rfl (by kernel_rfl) (by kernel_rfl) (by kernel_rfl) (fun _ _ _ h => h) (Or.inl ⟨by rfl, ?yka14⟩) hHeld ?rka14
      case yka14 =>
       intro wx hSx
       go_simp
       try with_reducible rfl
      try simp only [actS]
      refine wpAnyH_done (by kernel_rfl) ?_ _
      have HKE2 := Lib.hid (Km.keep (ms := [Y.park, Y.tab]) (m := Th.box gq (.cells #[.int .i64 pd, .string pi] 83 (0, 0))) HKC.out)
      clear hHeld HKC
      go_wp2_with fail
      go_meet
      exact ⟨gq, rfl, rfl, HKE2⟩
    case rest =>
     obtain ⟨B14, rfl, rfl, HK7⟩ := hcut
     have HE14 := Lib.hid (show Th.box B14 (.cells #[.int .i64 pd, .string pi] 83 (0, 0)) ∈ Th.box B14 (.cells #[.int .i64 pd, .string pi] 83 (0, 0)) :: tsA from List.mem_cons_self)
     have HSA : Hid (∀ t ∈ tsA, t ∈ Th.box B14 (.cells #[.int .i64 pd, .string pi] 83 (0, 0)) :: tsA) := Lib.hid (fun t ht => List.mem_cons_of_mem _ ht)
     generalize Th.box B14 (.cells #[.int .i64 pd, .string pi] 83 (0, 0)) :: tsA = tsB at HE14 HSA HK7
     obtain ⟨d0, d1, d2, d3, d4, d5, d6, d7, d8, d9, d10⟩ := cells11 (HK7.out.isT (HSA.out _ HM13.out))
     clear HKQ
     go_wp2_with fail
     go_at_call 15
     refine (HPUT.out _ _ HK7.out (HSA.out _ HMB.out)).mono ?_
     rintro b w8 ⟨Y2, rfl, hto, hk⟩
     have HT := Lib.hid hto
     have HKR := Lib.hid (show Km codeDags w w8 [vi] [Y2.park, Y2.tab] tsB from hk)
     clear hto hk HK7 d0 d1 d2 d3 d4 d5 d6 d7 d8 d9 d10 HPUT
     have HOB2 : Hid (∀ W, Km codeDags w W [vi] [Y2.park, Y2.tab] tsB → W.heap[gx]? = some (.cells (mkO Y2.r.g Y2.b) 71 (0, 0))) := Lib.hid (fun W hk => by
      have h5 := hk.isT (HSA.out _ HMB.out)
      rw [← HYB.out, ← HT.out.box, MkI.box, HT.out.g, HYG.out] at h5
      exact h5)
     have HM23 := Lib.hid (HSA.out _ HM13.out)
     obtain ⟨⟨pe, pj⟩, hpo⟩ : ∃ p, gotP Y2.r.l ⟨kr, ku, kt, kp⟩ = p := ⟨_, rfl⟩
     obtain ⟨he, hhe⟩ : ∃ b, (getM Y2.r.l ⟨kr, ku, kt, kp⟩).isSome = b := ⟨_, rfl⟩
     have HGP2 := Lib.hid (And.intro hpo hhe)
     clear hpo hhe
     go_upto_region 16 with (fail)
     go_cut [18, 19] from 86 to 97 (fun sa sb wx => ∃ Bq, sa = .pointer (some ⟨Bq, 0, none⟩) ∧ sb = .bool he ∧ Hid (Km codeDags w wx [vi] [Y2.park, Y2.tab] (Th.box Bq (.cells #[.int .i64 pe, .string pj] 83 (0, 0)) :: tsB)))
     case first =>
      refine wp_region_held_drew (S := fun W => Km codeDags w W [vi] [Y2.park, Y2.tab] tsB) (by kernel_rfl) (HKR.out.later (below_drew _)) (fun hHeld => ?_)
      clear HKR
      generalize World.drew _ = wd at hHeld ⊢
      refine wpAnyH_take (i := 0) (oi := ⟨some 87, _, _, _, _, _⟩) (v := ?vgb0) rfl (by kernel_rfl) (by kernel_rfl) (by kernel_rfl) (fun _ _ _ h => h) (Or.inl ⟨by rfl, ?ygb0⟩) hHeld ?rgb0
      case ygb0 =>
       intro wx hSx
       go_simp
       try with_reducible rfl
      try simp only [actS]
      refine wpAnyH_take (i := 1) (oi := ⟨some 88, _, _, _, _, _⟩) (v := ?vgb1) rfl (by kernel_rfl) (by kernel_rfl) (by kernel_rfl) (fun _ _ _ h => h) (Or.inl ⟨by rfl, ?ygb1⟩) hHeld ?rgb1
      case ygb1 =>
       intro wx hSx
       go_simp
       try with_reducible rfl
      try simp only [actS]
      refine wpAnyH_take (i := 2) (oi := ⟨some 89, _, _, _, _, _⟩) (v := ?vgb2) rfl (by kernel_rfl) (by kernel_rfl) (by kernel_rfl) (fun _ _ _ h => h) (Or.inl ⟨by rfl, ?ygb2⟩) hHeld ?rgb2
      case ygb2 =>
       intro wx hSx
       go_simp
       try with_reducible rfl
      try simp only [actS]
      refine wpAnyH_take (i := 3) (oi := ⟨some 90, _, _, _, _, _⟩) (v := ?vgb3) rfl (by kernel_rfl) (by kernel_rfl) (by kernel_rfl) (fun _ _ _ h => h) (Or.inl ⟨by rfl, ?ygb3⟩) hHeld ?rgb3
      case ygb3 =>
       intro wx hSx
       obtain ⟨e0, e1, e2, e3⟩ := mkO_at (x := Y2) (HOB2.out wx hSx)
       go_simp
       try with_reducible rfl
      try simp only [actS]
      refine wpAnyH_take (i := 4) (oi := ⟨some 91, _, _, _, _, _⟩) (v := ?vgb4) rfl (by kernel_rfl) (by kernel_rfl) (by kernel_rfl) (fun _ _ _ h => h) (Or.inl ⟨by rfl, ?ygb4⟩) hHeld ?rgb4
      case ygb4 =>
       intro wx hSx
       obtain ⟨d0, d1, d2, d3, d4, d5, d6, d7, d8, d9, d10⟩ := cells11 (hSx.isT HM23.out)
       go_simp
       try with_reducible rfl
      try simp only [actS]
      refine wpAnyH_take (i := 6) (oi := ⟨some 93, _, _, _, _, _⟩) (v := ?vgb6) rfl (by kernel_rfl) (by kernel_rfl) (by kernel_rfl) (fun _ _ _ h => h) (Or.inl ⟨by rfl, ?ygb6⟩) hHeld ?rgb6
      case ygb6 =>
       intro wx hSx
       go_simp
       try with_reducible rfl
      try simp only [actS]
      refine wpAnyH_take (i := 7) (oi := ⟨some 94, _, _, _, _, _⟩) (v := ?vgb7) rfl (by kernel_rfl) (by kernel_rfl) (by kernel_rfl) (fun _ _ _ h => h) (Or.inl ⟨by rfl, ?ygb7⟩) hHeld ?rgb7
      case ygb7 =>
       intro wx hSx
       go_simp
       try with_reducible rfl
      try simp only [actS]
      refine wpAnyH_ready (rs := [5, 12]) (by kernel_rfl) (by simp) ?_
      refine AllReadyH.cons (o := ⟨some 92, _, _, _, _, _⟩) rfl (fun K hK => ?wayAb) (AllReadyH.cons (o := ⟨some 18, _, _, _, _, _⟩) rfl (fun K hK => ?wayBb) AllReadyH.nil)
      case wayAb =>
       go_simp
       refine (HOFM.out _).mono ?_
       rintro b wof ⟨rfl, hb⟩
       skip
       refine hK.out _ _ (hHeld.later hb) (fun hHeld => ?_)
       clear hK K hb
       try simp only [actS]
       refine wpAnyH_ready (rs := [8, 12]) (by kernel_rfl) (by simp) ?_
       refine AllReadyH.cons (o := ⟨some 95, _, _, _, _, _⟩) rfl (fun K hK => ?wayCb) (AllReadyH.cons (o := ⟨some 18, _, _, _, _, _⟩) rfl (fun K hK => ?wayDb) AllReadyH.nil)
       case wayCb =>
        have HG1 := HGET.out _ Y2 (hHeld.isM (i := 1) rfl)
        rw [HGP2.out.1, HGP2.out.2] at HG1
        simp only [Po.val] at HG1
        go_simp
        try go_invoke
        refine HG1.mono ?_
        rintro b wgt ⟨rfl, hb⟩
        skip
        refine hK.out _ _ (hHeld.later hb) (fun hHeld => ?_)
        clear hK K hb HG1
        try simp only [actS]
        refine wpAnyH_take (i := 9) (oi := ⟨some 86, _, _, _, _, _⟩) (v := ?vib9) rfl (by kernel_rfl) (by kernel_rfl) (by kernel_rfl) (fun _ _ _ h => h) (Or.inl ⟨by rfl, ?yib9⟩) hHeld ?rib9
        case yib9 =>
         intro wx hSx
         go_simp
         try with_reducible rfl
        try simp only [actS]
        refine wpAnyH_take (i := 10) (oi := ⟨some 96, _, _, _, _, _⟩) (v := ?vib10) rfl (by kernel_rfl) (by kernel_rfl) (by kernel_rfl) (fun _ _ _ h => h) (Or.inl ⟨by rfl, ?yib10⟩) hHeld ?rib10
        case yib10 =>
         intro wx hSx
         go_simp
         try with_reducible rfl
        try simp only [actS]
        refine wpAnyH_take (i := 11) (oi := ⟨some 97, _, _, _, _, _⟩) (v := ?vib11) rfl (by kernel_rfl) (by kernel_rfl) (by kernel_rfl) (fun _ _ _ h => h) (Or.inl ⟨by rfl, ?yib11⟩) hHeld ?rib11
        case yib11 =>
         intro wx hSx
         go_simp
         try with_reducible rfl
        try simp only [actS]
        refine wpAnyH_ready (rs := [12]) (by kernel_rfl) (by simp) ?_
        refine AllReadyH.cons (o := ⟨some 18, _, _, _, _, _⟩) rfl (fun K hK => ?_) AllReadyH.nil
        have hq := heap_alloc_new wgt (.cells #[.int .i64 0, .string ⟨#[]⟩] 83)
        have HKB := Lib.hid (hHeld.made (m := Th.box wgt.heap.size (.cells #[.int .i64 0, .string ⟨#[]⟩] 83 (0, 0))) (below_new wgt _) hq (fun k hk => Nat.le_of_eq hk.symm))
        have hH := hHeld.later (below_new wgt (.cells #[.int .i64 0, .string ⟨#[]⟩] 83))
        go_simp
        generalize World.alloc _ _ = wal at hq hH HKB ⊢
        generalize wgt.heap.size = gq at hq HKB ⊢
        refine hK.out _ _ hH (fun hHeld => ?_)
        clear hK K hH hq
        try simp only [actS]
        refine wpAnyH_ready (rs := [13]) (by kernel_rfl) (by simp) ?_
        refine AllReadyH.cons (o := ⟨none, _, _, _, _, _⟩) rfl (fun K hK => ?_) AllReadyH.nil
        have hq := HKB.out.isM (i := 2) rfl
        rw [if_pos (by rfl)]
        refine wp_store_row 83 (.tmp 18) (.tmp 96) rfl gq #[.int .i64 pe, .string pj] rfl rfl 83 _ hq pos_info rfl (one2 _ _) ?_
        have HKC := Lib.hid (HKB.out.rebox (i := 2) (cs' := #[.int .i64 pe, .string pj]) rfl)
        refine hK.out _ _ (Km.drop (m := Th.box gq (.cells #[.int .i64 pe, .string pj] 83 (0, 0))) HKC.out) (fun hHeld => ?_)
        clear hK K hq HKB
        generalize World.setRow _ _ _ = wst at hHeld HKC ⊢
        try simp only [actS]
        refine wpAnyH_take (i := 14) (oi := ⟨some 19, _, _, _, _, _⟩) (v := ?vib14) rfl (by kernel_rfl) (by kernel_rfl) (by kernel_rfl) (fun _ _ _ h => h) (Or.inl ⟨by rfl, ?yib14⟩) hHeld ?rib14
        case yib14 =>
         intro wx hSx
         go_simp
         try with_reducible rfl
        try simp only [actS]
        refine wpAnyH_done (by kernel_rfl) ?_ _
        have HKE2 := Lib.hid (Km.keep (ms := [Y2.park, Y2.tab]) (m := Th.box gq (.cells #[.int .i64 pe, .string pj] 83 (0, 0))) HKC.out)
        clear hHeld HKC
        go_wp2_with fail
        go_meet
        exact ⟨gq, rfl, rfl, HKE2⟩
       case wayDb =>
        have hq := heap_alloc_new wof (.cells #[.int .i64 0, .string ⟨#[]⟩] 83)
        have HKB := Lib.hid (hHeld.made (m := Th.box wof.heap.size (.cells #[.int .i64 0, .string ⟨#[]⟩] 83 (0, 0))) (below_new wof _) hq (fun k hk => Nat.le_of_eq hk.symm))
        have hH := hHeld.later (below_new wof (.cells #[.int .i64 0, .string ⟨#[]⟩] 83))
        go_simp
        generalize World.alloc _ _ = wal at hq hH HKB ⊢
        generalize wof.heap.size = gq at hq HKB ⊢
        refine hK.out _ _ hH (fun hHeld => ?_)
        clear hK K hH hq
        try simp only [actS]
        refine wpAnyH_ready (rs := [8]) (by kernel_rfl) (by simp) ?_
        refine AllReadyH.cons (o := ⟨some 95, _, _, _, _, _⟩) rfl (fun K hK => ?_) AllReadyH.nil
        have HG1 := HGET.out _ Y2 (hHeld.isM (i := 1) rfl)
        rw [HGP2.out.1, HGP2.out.2] at HG1
        simp only [Po.val] at HG1
        go_simp
        try go_invoke
        refine HG1.mono ?_
        rintro b wgt ⟨rfl, hb⟩
        replace HKB := Lib.hid (HKB.out.later hb)
        refine hK.out _ _ (hHeld.later hb) (fun hHeld => ?_)
        clear hK K hb HG1
        try simp only [actS]
        refine wpAnyH_take (i := 9) (oi := ⟨some 86, _, _, _, _, _⟩) (v := ?vjb9) rfl (by kernel_rfl) (by kernel_rfl) (by kernel_rfl) (fun _ _ _ h => h) (Or.inl ⟨by rfl, ?yjb9⟩) hHeld ?rjb9
        case yjb9 =>
         intro wx hSx
         go_simp
         try with_reducible rfl
        try simp only [actS]
        refine wpAnyH_take (i := 10) (oi := ⟨some 96, _, _, _, _, _⟩) (v := ?vjb10) rfl (by kernel_rfl) (by kernel_rfl) (by kernel_rfl) (fun _ _ _ h => h) (Or.inl ⟨by rfl, ?yjb10⟩) hHeld ?rjb10
        case yjb10 =>
         intro wx hSx
         go_simp
         try with_reducible rfl
        try simp only [actS]
        refine wpAnyH_take (i := 11) (oi := ⟨some 97, _, _, _, _, _⟩) (v := ?vjb11) rfl (by kernel_rfl) (by kernel_rfl) (by kernel_rfl) (fun _ _ _ h => h) (Or.inl ⟨by rfl, ?yjb11⟩) hHeld ?rjb11
        case yjb11 =>
         intro wx hSx
         go_simp
         try with_reducible rfl
        try simp only [actS]
        refine wpAnyH_ready (rs := [13]) (by kernel_rfl) (by simp) ?_
        refine AllReadyH.cons (o := ⟨none, _, _, _, _, _⟩) rfl (fun K hK => ?_) AllReadyH.nil
        have hq := HKB.out.isM (i := 2) rfl
        rw [if_pos (by rfl)]
        refine wp_store_row 83 (.tmp 18) (.tmp 96) rfl gq #[.int .i64 pe, .string pj] rfl rfl 83 _ hq pos_info rfl (one2 _ _) ?_
        have HKC := Lib.hid (HKB.out.rebox (i := 2) (cs' := #[.int .i64 pe, .string pj]) rfl)
        refine hK.out _ _ (Km.drop (m := Th.box gq (.cells #[.int .i64 pe, .string pj] 83 (0, 0))) HKC.out) (fun hHeld => ?_)
        clear hK K hq HKB
        generalize World.setRow _ _ _ = wst at hHeld HKC ⊢
        try simp only [actS]
        refine wpAnyH_take (i := 14) (oi := ⟨some 19, _, _, _, _, _⟩) (v := ?vjb14) rfl (by kernel_rfl) (by kernel_rfl) (by kernel_rfl) (fun _ _ _ h => h) (Or.inl ⟨by rfl, ?yjb14⟩) hHeld ?rjb14
        case yjb14 =>
         intro wx hSx
         go_simp
         try with_reducible rfl
        try simp only [actS]
        refine wpAnyH_done (by kernel_rfl) ?_ _
        have HKE2 := Lib.hid (Km.keep (ms := [Y2.park, Y2.tab]) (m := Th.box gq (.cells #[.int .i64 pe, .string pj] 83 (0, 0))) HKC.out)
        clear hHeld HKC
        go_wp2_with fail
        go_meet
        exact ⟨gq, rfl, rfl, HKE2⟩
      case wayBb =>
       have hq := heap_alloc_new wd (.cells #[.int .i64 0, .string ⟨#[]⟩] 83)
       have HKB := Lib.hid (hHeld.made (m := Th.box wd.heap.size (.cells #[.int .i64 0, .string ⟨#[]⟩] 83 (0, 0))) (below_new wd _) hq (fun k hk => Nat.le_of_eq hk.symm))
       have hH := hHeld.later (below_new wd (.cells #[.int .i64 0, .string ⟨#[]⟩] 83))
       go_simp
       generalize World.alloc _ _ = wal at hq hH HKB ⊢
       generalize wd.heap.size = gq at hq HKB ⊢
       refine hK.out _ _ hH (fun hHeld => ?_)
       clear hK K hH hq
       try simp only [actS]
       refine wpAnyH_ready (rs := [5]) (by kernel_rfl) (by simp) ?_
       refine AllReadyH.cons (o := ⟨some 92, _, _, _, _, _⟩) rfl (fun K hK => ?_) AllReadyH.nil
       go_simp
       refine (HOFM.out _).mono ?_
       rintro b wof ⟨rfl, hb⟩
       replace HKB := Lib.hid (HKB.out.later hb)
       refine hK.out _ _ (hHeld.later hb) (fun hHeld => ?_)
       clear hK K hb
       try simp only [actS]
       refine wpAnyH_ready (rs := [8]) (by kernel_rfl) (by simp) ?_
       refine AllReadyH.cons (o := ⟨some 95, _, _, _, _, _⟩) rfl (fun K hK => ?_) AllReadyH.nil
       have HG1 := HGET.out _ Y2 (hHeld.isM (i := 1) rfl)
       rw [HGP2.out.1, HGP2.out.2] at HG1
       simp only [Po.val] at HG1
       go_simp
       try go_invoke
       refine HG1.mono ?_
       rintro b wgt ⟨rfl, hb⟩
       replace HKB := Lib.hid (HKB.out.later hb)
       refine hK.out _ _ (hHeld.later hb) (fun hHeld => ?_)
       clear hK K hb HG1
       try simp only [actS]
       refine wpAnyH_take (i := 9) (oi := ⟨some 86, _, _, _, _, _⟩) (v := ?vkb9) rfl (by kernel_rfl) (by kernel_rfl) (by kernel_rfl) (fun _ _ _ h => h) (Or.inl ⟨by rfl, ?ykb9⟩) hHeld ?rkb9
       case ykb9 =>
        intro wx hSx
        go_simp
        try with_reducible rfl
       try simp only [actS]
       refine wpAnyH_take (i := 10) (oi := ⟨some 96, _, _, _, _, _⟩) (v := ?vkb10) rfl (by kernel_rfl) (by kernel_rfl) (by kernel_rfl) (fun _ _ _ h => h) (Or.inl ⟨by rfl, ?ykb10⟩) hHeld ?rkb10
       case ykb10 =>
        intro wx hSx
        go_simp
        try with_reducible rfl
       try simp only [actS]
       refine wpAnyH_take (i := 11) (oi := ⟨some 97, _, _, _, _, _⟩) (v := ?vkb11) rfl (by kernel_rfl) (by kernel_rfl) (by kernel_rfl) (fun _ _ _ h => h) (Or.inl ⟨by rfl, ?ykb11⟩) hHeld ?rkb11
       case ykb11 =>
        intro wx hSx
        go_simp
        try with_reducible rfl
       try simp only [actS]
       refine wpAnyH_ready (rs := [13]) (by kernel_rfl) (by simp) ?_
       refine AllReadyH.cons (o := ⟨none, _, _, _, _, _⟩) rfl (fun K hK => ?_) AllReadyH.nil
       have hq := HKB.out.isM (i := 2) rfl
       rw [if_pos (by rfl)]
       refine wp_store_row 83 (.tmp 18) (.tmp 96) rfl gq #[.int .i64 pe, .string pj] rfl rfl 83 _ hq pos_info rfl (one2 _ _) ?_
       have HKC := Lib.hid (HKB.out.rebox (i := 2) (cs' := #[.int .i64 pe, .string pj]) rfl)
       refine hK.out _ _ (Km.drop (m := Th.box gq (.cells #[.int .i64 pe, .string pj] 83 (0, 0))) HKC.out) (fun hHeld => ?_)
       clear hK K hq HKB
       generalize World.setRow _ _ _ = wst at hHeld HKC ⊢
       try simp only [actS]
       refine wpAnyH_take (i := 14) (oi := ⟨some 19, _, _, _, _, _⟩) (v := ?vkb14) rfl (by kernel_rfl) (by kernel_rfl) (by kernel_rfl) (fun _ _ _ h => h) (Or.inl ⟨by rfl, ?ykb14⟩) hHeld ?rkb14
       case ykb14 =>
        intro wx hSx
        go_simp
        try with_reducible rfl
       try simp only [actS]
       refine wpAnyH_done (by kernel_rfl) ?_ _
       have HKE2 := Lib.hid (Km.keep (ms := [Y2.park, Y2.tab]) (m := Th.box gq (.cells #[.int .i64 pe, .string pj] 83 (0, 0))) HKC.out)
       clear hHeld HKC
       go_wp2_with fail
       go_meet
       exact ⟨gq, rfl, rfl, HKE2⟩
     case rest =>
      obtain ⟨B18, rfl, rfl, HK9⟩ := hcut
      clear HKR
      have HE18 : Hid (Th.box B18 (.cells #[.int .i64 pe, .string pj] 83 (0, 0)) ∈ Th.box B18 (.cells #[.int .i64 pe, .string pj] 83 (0, 0)) :: tsB) := Lib.hid List.mem_cons_self
      have HE14B : Hid (Th.box B14 (.cells #[.int .i64 pd, .string pi] 83 (0, 0)) ∈ Th.box B18 (.cells #[.int .i64 pe, .string pj] 83 (0, 0)) :: tsB) := Lib.hid (List.mem_cons_of_mem _ HE14.out)
      have HMX : Hid (bx ∈ Th.box B18 (.cells #[.int .i64 pe, .string pj] 83 (0, 0)) :: tsB) := Lib.hid (List.mem_cons_of_mem _ (HSA.out _ HMB.out))
      have HM3 : Hid (Th.box g13 (.cells #[.int .i64 xk, .string xr, .string xu, .string xz, .string xt, .bool xp, .bool xo, .int .i64 xs, .int .i64 xy, .int .i64 xc, .int .i64 xm] 43 (0, 0)) ∈ Th.box B18 (.cells #[.int .i64 pe, .string pj] 83 (0, 0)) :: tsB) := Lib.hid (List.mem_cons_of_mem _ HM23.out)
      generalize Th.box B18 (.cells #[.int .i64 pe, .string pj] 83 (0, 0)) :: tsB = tsC at *
      obtain ⟨d0, d1, d2, d3, d4, d5, d6, d7, d8, d9, d10⟩ := cells11 (HK9.out.isT HM3.out)
      go_wp2_with fail
      go_at_call 29
      refine (HPOS.out _ _ _ HK9.out).mono ?_
      rintro b w10 ⟨p20, rfl, rfl, hk⟩
      have HK10 := Lib.hid (HK9.out.ofKv hk)
      clear hk HK9 d0 d1 d2 d3 d4 d5 d6 d7 d8 d9 d10 HPOS
      have hbs := HT.out.ms
      have hgl : gotP Y2.r.l ⟨kr, ku, kt, kp⟩ = ⟨pe, pj⟩ ∧ (getM Y2.r.l ⟨kr, ku, kt, kp⟩).isSome = he := HGP2.out
      have hsl : Y2.r.l = S.l := congrArg Ms.l hbs
      have HEND : Hid (∀ W, Km codeDags w W [vi] [Y2.park, Y2.tab] tsC → ∃ y : MkI, y.g = gx ∧ y.box = bx ∧ RowM y.r.l ∧ y.r.l.length ≤ a + 1 ∧ y.p.l.length ≤ a + 1 ∧ y.p.lost ≤ a + 1 ∧ y.p.most = 8 ∧ Km codeDags w W [vi] [y.park, y.tab] [bx]) := Lib.hid (fun W hkW => by
       have hsp : Y2.p = S.p := congrArg Ms.p hbs
       have h5 := HPL.out
       have h6 := HY.out
       have h7 : Y.ms.l = Y.r.l := rfl
       have h8 : Y.ms.p = Y.p := rfl
       rw [h7, h8] at h5
       refine ⟨Y2, HT.out.g.trans HYG.out, HT.out.box.trans HYB.out, by rw [hsl]; exact HPR.out, by rw [hsl]; omega, by rw [hsp]; omega, by rw [hsp]; omega, by rw [hsp, h5.2.2.2]; exact h6.2.2.2.2, hkW.less (fun t ht => by
        rw [List.mem_singleton.1 ht]
        exact HMX.out)⟩)
      rw [hsl] at hgl
      have hgl0 := HGP.out
      cases on
      ·have h5 := HPF.out rfl
       rw [h5] at hgl
       have e1 : (⟨pd, pi⟩ : Po) = ⟨pe, pj⟩ := hgl0.1.symm.trans hgl.1
       have e2 : hd = he := hgl0.2.symm.trans hgl.2
       injection e1 with e1 e3
       subst e1 e3 e2
       obtain ⟨p1, p2⟩ := p20
       simp only [Po.val]
       have hn := heap_alloc_new w10 (.cells #[.int .i64 0, .string ⟨#[]⟩] 83)
       have HK11 := Lib.hid (HK10.out.later (below_setRow (below_new w10 (.cells #[.int .i64 0, .string ⟨#[]⟩] 83)) (Nat.le_refl _) #[.int .i64 p1, .string p2]))
       clear h5 hgl hgl0 hsl hbs HPN HPF HPL HPR HK10
       go_upto_region 18 with (refine wpList_store_row rfl 83 (.tmp 20) (.tmp 105) rfl w10.heap.size #[.int .i64 p1, .string p2] rfl rfl 83 _ hn pos_info rfl (one2 _ _) ?_)
       clear hn
       generalize World.setRow _ _ _ = w11 at HK11 ⊢
       have y0 := cell_at (HK11.out.isT HE14B.out) 0
       have y1 := cell_at (HK11.out.isT HE14B.out) 1
       have z0 := cell_at (HK11.out.isT HE18.out) 0
       have z1 := cell_at (HK11.out.isT HE18.out) 1
       simp only [List.getElem?_toArray, List.getElem?_cons_succ, List.getElem?_cons_zero] at y0 y1 z0 z1
       have hqp := eqlP ⟨pd, pi⟩ ⟨pd, pi⟩
       have q7 : (hd != hd) = false := by simp
       have HF := Lib.hid (HEND.out _ HK11.out)
       clear HEND HK11
       go_wp2_with fail
       refine ⟨⟨a + 1, by go_num, by omega, by omega, HF⟩, ?_⟩
       simp [intOf]; omega
      ·obtain ⟨n1, n2, n3, n4⟩ := HPN.out rfl
       have e1 : gotP S.l ⟨kr, ku, kt, kp⟩ = p20 := by unfold gotP; rw [n3]; rfl
       rw [n3] at hgl
       have e1 : p20 = ⟨pe, pj⟩ := e1.symm.trans hgl.1
       have e2 : he = true := hgl.2.symm
       subst e1 e2 n1 n2
       have HBF := Lib.hid (fun W => refBefore_any ⟨pd, pi⟩ ⟨pe, pj⟩ W)
       have hhad : hd = true → beforeP ⟨pd, pi⟩ ⟨pe, pj⟩ = true := fun hh => by
        rw [hh] at hgl0
        cases hg : getM Y.r.l ⟨kr, ku, kt, kp⟩ with
        | none =>
         rw [hg] at hgl0
         cases hgl0.2
        | some old =>
         have h9 := n4 old hg
         have h10 := hgl0.1
         unfold gotP at h10
         rw [hg] at h10
         have h10 : old = ⟨pd, pi⟩ := h10
         rw [h10] at h9
         exact h9
       have HHAD := Lib.hid hhad
       simp only [Po.val]
       have hn := heap_alloc_new w10 (.cells #[.int .i64 0, .string ⟨#[]⟩] 83)
       have HK11 := Lib.hid (HK10.out.add (t := Th.box w10.heap.size (.cells #[.int .i64 pe, .string pj] 83 (0, 0))) (below_setRow (below_new w10 (.cells #[.int .i64 0, .string ⟨#[]⟩] 83)) (Nat.le_refl _) #[.int .i64 pe, .string pj]) (setRow_heap _ _ _ _ _ _ hn) (fun k hk => .inl (Nat.le_of_eq hk.symm)))
       clear hgl hgl0 hsl hbs n3 n4 hhad HPN HPF HPL HPR HK10
       go_upto_region 18 with (refine wpList_store_row rfl 83 (.tmp 20) (.tmp 105) rfl w10.heap.size #[.int .i64 pe, .string pj] rfl rfl 83 _ hn pos_info rfl (one2 _ _) ?_)
       clear hn
       generalize World.setRow _ _ _ = w11 at HK11 ⊢
       generalize w10.heap.size = g20 at HK11 ⊢
       have y0 := cell_at (HK11.out.isT (List.mem_cons_of_mem _ HE14B.out)) 0
       have y1 := cell_at (HK11.out.isT (List.mem_cons_of_mem _ HE14B.out)) 1
       have z0 := cell_at (HK11.out.isT (List.mem_cons_of_mem _ HE18.out)) 0
       have z1 := cell_at (HK11.out.isT (List.mem_cons_of_mem _ HE18.out)) 1
       have x0 := cell_at (HK11.out.isT List.mem_cons_self) 0
       have x1 := cell_at (HK11.out.isT List.mem_cons_self) 1
       simp only [List.getElem?_toArray, List.getElem?_cons_succ, List.getElem?_cons_zero] at y0 y1 z0 z1 x0 x1
       have hqp := eqlP ⟨pe, pj⟩ ⟨pe, pj⟩
       cases hd
       ·have HF := Lib.hid (HEND.out _ (HK11.out.less (fun t ht => List.mem_cons_of_mem _ ht)))
        clear HEND HK11 HBF HHAD
        go_wp2_with fail
        refine ⟨⟨a + 1, by go_num, by omega, by omega, HF⟩, ?_⟩
        simp [intOf]; omega
       ·have HB2 := Lib.hid (HHAD.out rfl)
        go_wp2_with fail
        go_at_call 30
        refine (HBF.out _).mono ?_
        rintro b w12 ⟨rfl, hb⟩
        rw [HB2.out]
        have HF := Lib.hid (HEND.out _ ((HK11.out.less (fun t ht => List.mem_cons_of_mem _ ht)).later hb.below))
        clear HEND HK11 HBF HHAD hb y0 y1 z0 z1 x0 x1 HB2
        go_wp2_with fail
        refine ⟨⟨a + 1, by go_num, by omega, by omega, HF⟩, ?_⟩
        simp [intOf]; omega
end Go.Proofs.YtnnapkakbdpkaaaGreat
