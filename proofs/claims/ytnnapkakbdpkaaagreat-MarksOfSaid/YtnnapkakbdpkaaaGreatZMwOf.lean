/-
  The statement MarksOf.
-/
import Derived.Test.YtnnapkakbdpkaaaGreatZA29
import Derived.Test.YtnnapkakbdpkaaaGreatZA30
set_option linter.unusedVariables false
set_option linter.unusedSimpArgs false
namespace Go.Proofs.YtnnapkakbdpkaaaGreat
set_option maxRecDepth 20000
open Go.RowKit
set_option maxHeartbeats 800000 in
theorem marksNew_no (w : World) : Calls Tryz.prog 9 #[.int .i64 0] w fun e w' => e = .returned (.tuple #[.pointer none, .int .i64 1]) ∧ Below w.heap.size w w' := by
 have HP := Lib.hid (pkNew_no 0 w (by decide))
 go_enter Tryz.func9, Tryz.ntmps9
 go_wp2_with fail
 go_at_call 36
 refine HP.out.mono ?_
 rintro e w1 ⟨rfl, hb⟩
 have HB := Lib.hid hb
 clear hb HP
 go_wp2_with fail
 refine bodyPost_ret (v := .tuple #[.pointer none, .int .i64 1]) ?_ rfl ⟨rfl, HB.out⟩
 simp [results, Tryz.results9, go_sem]
theorem fit_none (e : Edu) : fitV [] e = 4 := fit_known.2 rfl
theorem put_none (s : Ms) (e : Edu) : (s.put [] e).l = s.l ∧ (s.put [] e).p = (bif mayR e then s.p.put e else s.p) ∧ Ms.err [] e = (bif mayR e then 0 else 1) := by
 cases hm : mayR e
 ·obtain ⟨h1, h2, h3⟩ := Ms.put_no (s := s) (V := []) hm
  rw [h1, h3]
  exact ⟨rfl, rfl, rfl⟩
 ·obtain ⟨h1, h2, h3⟩ := Ms.put_wait (s := s) (V := []) hm (fit_none e)
  rw [h1, h3]
  exact ⟨rfl, rfl, rfl⟩
theorem pkput_len (p : Pk) (e : Edu) : (p.put e).l.length ≤ p.l.length + 1 ∧ (p.put e).lost ≤ p.lost + 1 := by
 unfold Pk.put
 cases hasP p.l e <;> cases p.over <;> simp
set_option maxHeartbeats 6400000 in
theorem marksOf_walk (e : Edu) (w : World) (he : e.well) : Calls Tryz.prog 7 #[e.val] w fun x w' => x = .returned (.bool true) ∧ Below w.heap.size w w' := by
 obtain ⟨hf, her, heu, hev, het⟩ := he
 have HFEW := Lib.hid (fun W => refFew_any e W her heu hev het)
 have HGOOD := Lib.hid (fun W => good_any e W hf hev het)
 have HF1 := Lib.hid (few_small e)
 have HF2 := Lib.hid (good_small e)
 clear hf her heu hev het
 generalize fewEd e = e1 at *
 generalize goodE e = e2 at *
 obtain ⟨xk, xr, xu, xz, xt, xp, xo, xs, xy, xc, xm⟩ := e1
 obtain ⟨yk, yr, yu, yz, yt, yp, yo, ys, yy, yc, ym⟩ := e2
 obtain ⟨k, r, u, z, t, pr, o, s, y, c, m⟩ := e
 simp only [Edu.val] at HFEW HGOOD ⊢
 have h1 := heap_alloc_new w (.cells #[.int .i64 k, .string r, .string u, .string z, .string t, .bool pr, .bool o, .int .i64 s, .int .i64 y, .int .i64 c, .int .i64 m] 43)
 have HB := Lib.hid (below_new w (.cells #[.int .i64 k, .string r, .string u, .string z, .string t, .bool pr, .bool o, .int .i64 s, .int .i64 y, .int .i64 c, .int .i64 m] 43))
 go_enter Tryz.func7, Tryz.ntmps7
 go_upto_region 1 with (fail)
 generalize World.alloc _ _ = w1 at h1 HB ⊢
 generalize w.heap.size = g1 at h1 ⊢
 refine wp_region_held_drew (S := fun W => Below w1.heap.size w1 W) (by kernel_rfl) (below_drew w1) (fun hHeld => ?_)
 generalize World.drew _ = wd at hHeld ⊢
 refine wpAnyH_take (i := 0) (oi := ⟨some 14, _, _, _, _, _⟩) (v := ?vra0) rfl (by kernel_rfl) (by kernel_rfl) (by kernel_rfl) (fun _ _ _ h => h) (Or.inl ⟨by rfl, ?yra0⟩) hHeld ?rra0
 case yra0 =>
  intro wx hSx
  obtain ⟨d0, d1, d2, d3, d4, d5, d6, d7, d8, d9, d10⟩ := cells11 ((hSx.block _ (smem_lt h1)).trans h1)
  go_simp
  try with_reducible rfl
 try simp only [actS]
 refine wpAnyH_take (i := 2) (oi := ⟨some 16, _, _, _, _, _⟩) (v := ?vra2) rfl (by kernel_rfl) (by kernel_rfl) (by kernel_rfl) (fun _ _ _ h => h) (Or.inl ⟨by rfl, ?yra2⟩) hHeld ?rra2
 case yra2 =>
  intro wx hSx
  obtain ⟨d0, d1, d2, d3, d4, d5, d6, d7, d8, d9, d10⟩ := cells11 ((hSx.block _ (smem_lt h1)).trans h1)
  go_simp
  try with_reducible rfl
 try simp only [actS]
 refine wpAnyH_ready (rs := [1]) (by kernel_rfl) (by simp) ?_
 refine AllReadyH.cons (o := ⟨some 15, _, _, _, _, _⟩) rfl (fun K hK => ?_) AllReadyH.nil
 go_simp
 refine (HFEW.out _).mono ?_
 rintro a wa ⟨rfl, hb⟩
 refine hK.out _ _ (hHeld.trans (hb.mono hHeld.size)) (fun hHeld => ?_)
 clear hK K hb
 try simp only [actS]
 refine wpAnyH_ready (rs := [3]) (by kernel_rfl) (by simp) ?_
 refine AllReadyH.cons (o := ⟨some 17, _, _, _, _, _⟩) rfl (fun K hK => ?_) AllReadyH.nil
 go_simp
 refine (HGOOD.out _).mono ?_
 rintro a wb ⟨rfl, hb⟩
 refine hK.out _ _ (hHeld.trans (hb.mono hHeld.size)) (fun hHeld => ?_)
 clear hK K hb
 try simp only [actS]
 refine wpAnyH_ready (rs := [4]) (by kernel_rfl) (by simp) ?_
 refine AllReadyH.cons (o := ⟨some 18, _, _, _, _, _⟩) rfl (fun K hK => ?_) AllReadyH.nil
 have hsl : LE.Slice (wb.alloc (.cells #[.int .i64 xk, .string xr, .string xu, .string xz, .string xt, .bool xp, .bool xo, .int .i64 xs, .int .i64 xy, .int .i64 xc, .int .i64 xm, .int .i64 yk, .string yr, .string yu, .string yz, .string yt, .bool yp, .bool yo, .int .i64 ys, .int .i64 yy, .int .i64 yc, .int .i64 ym] 43)) (.slice (some ⟨wb.heap.size, 0, none⟩) 2 2) [⟨xk, xr, xu, xz, xt, xp, xo, xs, xy, xc, xm⟩, ⟨yk, yr, yu, yz, yt, yp, yo, ys, yy, yc, ym⟩] := lit_many (L := LE) wb [⟨xk, xr, xu, xz, xt, xp, xo, xs, xy, xc, xm⟩, ⟨yk, yr, yu, yz, yt, yp, yo, ys, yy, yc, ym⟩] wb.heap.size 2 rfl rfl (by unfold maxLen; omega) #[.int .i64 xk, .string xr, .string xu, .string xz, .string xt, .bool xp, .bool xo, .int .i64 xs, .int .i64 xy, .int .i64 xc, .int .i64 xm, .int .i64 yk, .string yr, .string yu, .string yz, .string yt, .bool yp, .bool yo, .int .i64 ys, .int .i64 yy, .int .i64 yc, .int .i64 ym] rfl
 have hbw := hHeld.trans ((below_new wb (.cells #[.int .i64 xk, .string xr, .string xu, .string xz, .string xt, .bool xp, .bool xo, .int .i64 xs, .int .i64 xy, .int .i64 xc, .int .i64 xm, .int .i64 yk, .string yr, .string yu, .string yz, .string yt, .bool yp, .bool yo, .int .i64 ys, .int .i64 yy, .int .i64 yc, .int .i64 ym] 43)).mono hHeld.size)
 have hg3 : w1.heap.size ≤ wb.heap.size := hHeld.size
 go_simp
 generalize World.alloc _ _ = wc at hsl hbw ⊢
 generalize wb.heap.size = g3 at hsl hg3 ⊢
 refine hK.out _ _ hbw (fun hHeld => ?_)
 clear hK K
 try simp only [actS]
 refine wpAnyH_take (i := 5) (oi := ⟨some 3, _, _, _, _, _⟩) (v := ?vra5) rfl (by kernel_rfl) (by kernel_rfl) (by kernel_rfl) (fun _ _ _ h => h) (Or.inl ⟨by rfl, ?yra5⟩) hHeld ?rra5
 case yra5 =>
  intro wx hSx
  go_simp
  try with_reducible rfl
 try simp only [actS]
 refine wpAnyH_done (by kernel_rfl) ?_ _
 obtain ⟨L, hL⟩ : ∃ L : List Edu, L = [⟨xk, xr, xu, xz, xt, xp, xo, xs, xy, xc, xm⟩, ⟨yk, yr, yu, yz, yt, yp, yo, ys, yy, yc, ym⟩] := ⟨_, rfl⟩
 have HLS : Hid (∀ z ∈ L, z.small) := Lib.hid (fun z hz => by
  rw [hL] at hz
  rcases List.mem_cons.1 hz with rfl | hz
  ·exact HF1.out
  ·rw [List.mem_singleton.1 hz]; exact HF2.out)
 have hll : L.length = 2 := by rw [hL]; rfl
 rw [← hL] at hsl
 have HK0 := Lib.hid (((Km.start (C := codeDags) w).later HB.out).add (t := Th.row LE (.slice (some ⟨g3, 0, none⟩) 2 2) L) hbw hsl (fun k hk => .inl (by
  have h5 : g3 = k := by injection hk.2
  omega)))
 clear hL hsl hbw hHeld h1 HFEW HGOOD HF1 HF2 hg3 HB
 have HN := Lib.hid (marksNew_yes 3 (by decide) (by decide) HK0.out)
 go_wp2_with fail
 go_at_call 9
 refine HN.out.mono ?_
 rintro a w2 ⟨X, rfl, hX, hk⟩
 have HX := Lib.hid hX
 have HK1 := Lib.hid hk
 have HV := Lib.hid (viewNew_any hk.kv)
 clear HN hX hk HK0
 go_wp2_with fail
 go_at_call 10
 refine HV.out.mono ?_
 rintro a w3 ⟨v, rfl, hv, hk⟩
 have HK2 := Lib.hid (HK1.out.ofKv hk)
 have HV0 := Lib.hid hv
 clear HV hk hv HK1
 obtain ⟨gx, hgx⟩ : ∃ g, X.g = g := ⟨_, rfl⟩
 obtain ⟨bx, hbx⟩ : ∃ b, X.box = b := ⟨_, rfl⟩
 obtain ⟨row, hrow⟩ : ∃ t, Th.row LE (.slice (some ⟨g3, 0, none⟩) 2 2) L = t := ⟨_, rfl⟩
 have H0 : Hid (∃ y : MkI, y.g = gx ∧ y.box = bx ∧ y.r.l = [] ∧ y.p.l.length ≤ 0 ∧ y.p.lost ≤ 0 ∧ y.p.most = 3 ∧ Km codeDags w w3 [v] [y.park, y.tab] [bx, row]) := Lib.hid ⟨X, hgx, hbx, congrArg Ms.l HX.out, by
  rw [show X.p = ⟨3, [], 0⟩ from congrArg Ms.p HX.out]
  exact ⟨Nat.le_refl _, Nat.le_refl _, rfl, by rw [← hbx, ← hrow]; exact HK2.out⟩⟩
 have HROW := Lib.hid hrow
 rw [hgx]
 clear HK2 HX hgx hbx hrow
 go_wp2_with fail
 go_loopw [7, 8, 9, 10, 11] (fun n _ _ _ _ wz => ∃ a : Nat, n = .int .i64 (a : Int) ∧ a ≤ 2 ∧ Hid (∃ y : MkI, y.g = gx ∧ y.box = bx ∧ y.r.l = [] ∧ y.p.l.length ≤ a ∧ y.p.lost ≤ a ∧ y.p.most = 3 ∧ Km codeDags w wz [v] [y.park, y.tab] [bx, row])) (fun n _ _ _ _ _ => 2 - (intOf n).toNat)
 case atStart => exact ⟨0, rfl, Nat.zero_le _, H0⟩
 case round =>
  obtain ⟨a, rfl, ha, HD⟩ := hrel
  clear H0
  obtain ⟨Y, hyg, hyb, hyl, hyp, hyc, hym, hk⟩ := HD.out
  have HK := Lib.hid hk
  have HY := Lib.hid (And.intro hyl (And.intro hyp (And.intro hyc hym)))
  have HAM : Hid (AtM Y 0 1 [Y.park, Y.tab] [bx, row]) := Lib.hid ⟨rfl, rfl, by decide, by rw [hyb]; exact List.mem_cons_self⟩
  have HYG := Lib.hid hyg
  have HYB := Lib.hid hyb
  clear hyl hyp hyc hym hk hyb HD hyg
  by_cases hax : a < 2
  ·have q1 : decide ((a : Int) < 2) = true := decide_eq_true (by omega)
   have hx : L[a]? = some L[a] := List.getElem?_eq_getElem (by omega)
   generalize L[a] = z at hx
   have HZ := Lib.hid (HLS.out z (List.mem_of_getElem? hx))
   have HXX := Lib.hid (fun (W : World) ms' (hkW : Km codeDags w W [v] ms' [bx, row]) => show W.rangeAt g3 (a * 11) (Edu.cells z) from by
    have hs : LE.Slice W (.slice (some ⟨g3, 0, none⟩) 2 2) L := by
     have h5 := hkW.isT (t := row) (List.mem_cons_of_mem _ List.mem_cons_self)
     rw [← HROW.out] at h5
     exact h5
    obtain ⟨bo2, oo2, e1, -, hco2⟩ := hs.at hx
    injection e1 with e1
    injection e1 with e2 e3 _
    subst e2 e3
    simpa [LE] using hco2)
   have hiy := index_any (P := Tryz.prog) knE (by decide) (b := g3) (off := 0) (cap := 2) (show a < 2 from hax)
   simp only [LE, Nat.zero_add] at hiy
   clear hx
   have HOM := Lib.hid (fun W => ofM_any z HZ.out.brief W)
   have HOF := Lib.hid (fun W => refOf13_any z W)
   have HLC := Lib.hid (fun W => refLocal3_any z W (maxLen_40 HZ.out.room) (maxLen_40 HZ.out.user) (maxLen_40 HZ.out.event) (maxLen_40 HZ.out.thread))
   have hqk := eqlK (keyE z) (keyE z)
   have HPN := Lib.hid (put_none Y.ms z)
   have HPL := Lib.hid (pkput_len Y.p z)
   have HMY : Hid (mayR z = (decide (z.kind = 1) && localB z)) := Lib.hid rfl
   have HPUT := Lib.hid (fun W (hkW : Km codeDags w W [v] [Y.park, Y.tab] [bx, row]) => marksPut_any hkW (q := 0) rfl HAM.out (by rw [HY.out.1]; decide) (by have := HY.out.2.1; omega) (by have := HY.out.2.2.1; omega) (by rw [HY.out.2.2.2]; decide) z HZ.out)
   rw [HV0.out, HPN.out.2.2, HYG.out] at HPUT
   generalize keyE z = ke at *
   generalize localB z = lb at *
   generalize hmr : mayR z = mr at *
   obtain ⟨kr, ku, kt, kp⟩ := ke
   obtain ⟨zk, zr, zu, zz, zt, zp, zo, zs, zy, zc, zm⟩ := z
   simp only [Edu.val, Rk.val] at HOM HOF HLC HPUT HXX hqk HMY
   go_upto_region 9 with (fail)
   have HK1 := Lib.hid (HK.out.later (below_drew _))
   refine wp_region_held_drew (S := fun W => Km codeDags w W [v] [Y.park, Y.tab] [bx, row]) (by kernel_rfl) HK1.out (fun hHeld => ?_)
   clear HK HK1
   generalize World.drew _ = wd at hHeld ⊢
   refine wpAnyH_take (i := 0) (oi := ⟨some 38, _, _, _, _, _⟩) (v := ?vrb0) rfl (by kernel_rfl) (by kernel_rfl) (by kernel_rfl) (fun _ _ _ h => h) (Or.inl ⟨by rfl, ?yrb0⟩) hHeld ?rrb0
   case yrb0 =>
    intro wx hSx
    go_simp
    try with_reducible rfl
   try simp only [actS]
   refine wpAnyH_take (i := 1) (oi := ⟨some 39, _, _, _, _, _⟩) (v := ?vrb1) rfl (by kernel_rfl) (by kernel_rfl) (by kernel_rfl) (fun _ _ _ h => h) (Or.inl ⟨by rfl, ?yrb1⟩) hHeld ?rrb1
   case yrb1 =>
    intro wx hSx
    go_simp
    try with_reducible rfl
   try simp only [actS]
   refine wpAnyH_take (i := 2) (oi := ⟨some 40, _, _, _, _, _⟩) (v := ?vrb2) rfl (by kernel_rfl) (by kernel_rfl) (by kernel_rfl) (fun _ _ _ h => h) (Or.inl ⟨by rfl, ?yrb2⟩) hHeld ?rrb2
   case yrb2 =>
    intro wx hSx
    go_simp
    try with_reducible rfl
   try simp only [actS]
   refine wpAnyH_take (i := 3) (oi := ⟨some 41, _, _, _, _, _⟩) (v := ?vrb3) rfl (by kernel_rfl) (by kernel_rfl) (by kernel_rfl) (fun _ _ _ h => h) (Or.inl ⟨by rfl, ?yrb3⟩) hHeld ?rrb3
   case yrb3 =>
    intro wx hSx
    obtain ⟨a0, a1, a2, a3, a4, a5, a6, a7, a8, a9, a10⟩ := range11 (HXX.out wx _ hSx)
    go_simp
    try with_reducible rfl
   try simp only [actS]
   refine wpAnyH_take (i := 5) (oi := ⟨some 43, _, _, _, _, _⟩) (v := ?vrb5) rfl (by kernel_rfl) (by kernel_rfl) (by kernel_rfl) (fun _ _ _ h => h) (Or.inl ⟨by rfl, ?yrb5⟩) hHeld ?rrb5
   case yrb5 =>
    intro wx hSx
    go_simp
    try with_reducible rfl
   try simp only [actS]
   refine wpAnyH_take (i := 6) (oi := ⟨some 44, _, _, _, _, _⟩) (v := ?vrb6) rfl (by kernel_rfl) (by kernel_rfl) (by kernel_rfl) (fun _ _ _ h => h) (Or.inl ⟨by rfl, ?yrb6⟩) hHeld ?rrb6
   case yrb6 =>
    intro wx hSx
    go_simp
    try with_reducible rfl
   try simp only [actS]
   refine wpAnyH_take (i := 7) (oi := ⟨some 45, _, _, _, _, _⟩) (v := ?vrb7) rfl (by kernel_rfl) (by kernel_rfl) (by kernel_rfl) (fun _ _ _ h => h) (Or.inl ⟨by rfl, ?yrb7⟩) hHeld ?rrb7
   case yrb7 =>
    intro wx hSx
    go_simp
    try with_reducible rfl
   try simp only [actS]
   refine wpAnyH_take (i := 8) (oi := ⟨some 46, _, _, _, _, _⟩) (v := ?vrb8) rfl (by kernel_rfl) (by kernel_rfl) (by kernel_rfl) (fun _ _ _ h => h) (Or.inl ⟨by rfl, ?yrb8⟩) hHeld ?rrb8
   case yrb8 =>
    intro wx hSx
    obtain ⟨a0, a1, a2, a3, a4, a5, a6, a7, a8, a9, a10⟩ := range11 (HXX.out wx _ hSx)
    go_simp
    try with_reducible rfl
   try simp only [actS]
   refine wpAnyH_ready (rs := [4]) (by kernel_rfl) (by simp) ?_
   refine AllReadyH.cons (o := ⟨some 42, _, _, _, _, _⟩) rfl (fun K hK => ?_) AllReadyH.nil
   go_simp
   refine (HOM.out _).mono ?_
   rintro b wa ⟨rfl, hb⟩
   refine hK.out _ _ (hHeld.later hb) (fun hHeld => ?_)
   clear hK K hb
   try simp only [actS]
   refine wpAnyH_ready (rs := [9]) (by kernel_rfl) (by simp) ?_
   refine AllReadyH.cons (o := ⟨some 47, _, _, _, _, _⟩) rfl (fun K hK => ?_) AllReadyH.nil
   go_simp
   refine (HOF.out _).mono ?_
   rintro b wa2 ⟨rfl, hb⟩
   refine hK.out _ _ (hHeld.later hb) (fun hHeld => ?_)
   clear hK K hb
   try simp only [actS]
   refine wpAnyH_take (i := 10) (oi := ⟨some 48, _, _, _, _, _⟩) (v := ?vrb10) rfl (by kernel_rfl) (by kernel_rfl) (by kernel_rfl) (fun _ _ _ h => h) (Or.inl ⟨by rfl, ?yrb10⟩) hHeld ?rrb10
   case yrb10 =>
    intro wx hSx
    go_simp
    try with_reducible rfl
   try simp only [actS]
   refine wpAnyH_done (by kernel_rfl) ?_ _
   have HK := Lib.hid hHeld
   clear hHeld hqk HOM HOF
   have HWT := Lib.hid (fun W ms' (y : MkI) (hkW : Km codeDags w W [v] ms' [bx, row]) (hay : AtM y 0 1 ms' [bx, row]) (hl : y.p.l.length ≤ 100000) => marksWaits_any hkW hay hl)
   have HW1 := Lib.hid (HWT.out _ _ Y HK.out HAM.out (by have := HY.out.2.1; omega))
   rw [HYG.out] at HW1
   go_wp2_with fail
   go_at_call 24
   refine HW1.out.mono ?_
   rintro b w4 ⟨u, rfl, hu, hb⟩
   have HK4 := Lib.hid (HK.out.later hb)
   obtain ⟨Au, cu, rfl, -⟩ := hu.shape
   clear hu hb HW1 HK
   obtain ⟨a0, a1, a2, a3, a4, a5, a6, a7, a8, a9, a10⟩ := range11 (HXX.out _ _ HK4.out)
   go_wp2_with fail
   go_at_call 35
   refine (HLC.out _).mono ?_
   rintro b w5 ⟨rfl, hb⟩
   have HK5 := Lib.hid (HK4.out.later hb)
   clear hb HLC HK4 a0 a1 a2 a3 a4 a5 a6 a7 a8 a9 a10
   obtain ⟨a0, a1, a2, a3, a4, a5, a6, a7, a8, a9, a10⟩ := range11 (HXX.out _ _ HK5.out)
   go_wp2_with fail
   go_at_call 15
   refine (HPUT.out _ HK5.out).mono ?_
   rintro b w6 ⟨Y2, rfl, hto, hk⟩
   have HT := Lib.hid hto
   have HK6 := Lib.hid (show Km codeDags w w6 [v] [Y2.park, Y2.tab] [bx, row] from hk)
   have HAM2 : Hid (AtM Y2 0 1 [Y2.park, Y2.tab] [bx, row]) := Lib.hid ⟨rfl, rfl, by decide, by rw [hto.box]; exact HAM.out.hb⟩
   clear hto hk HK5 HPUT a0 a1 a2 a3 a4 a5 a6 a7 a8 a9 a10
   have hyl2 : Y2.r.l = [] := by
    have h5 := congrArg Ms.l HT.out.ms
    rw [HPN.out.1] at h5
    exact h5.trans HY.out.1
   have hyp2 : Y2.p = (bif mr then Y.p.put ⟨zk, zr, zu, zz, zt, zp, zo, zs, zy, zc, zm⟩ else Y.p) := by
    have h5 := congrArg Ms.p HT.out.ms
    rw [HPN.out.2.1] at h5
    exact h5
   have hYg2 : Y2.g = gx := HT.out.g.trans HYG.out
   have hYb2 : Y2.box = bx := HT.out.box.trans HYB.out
   obtain ⟨a0, a1, a2, a3, a4, a5, a6, a7, a8, a9, a10⟩ := range11 (HXX.out _ _ HK6.out)
   have hbd := HY.out
   have hpl := HPL.out
   have hmost := Pk.put_most Y.p ⟨zk, zr, zu, zz, zt, zp, zo, zs, zy, zc, zm⟩
   cases mr
   ·simp only [cond_false] at hyp2
    have HEND : Hid (∀ W, Km codeDags w W [v] [Y2.park, Y2.tab] [bx, row] → ∃ y : MkI, y.g = gx ∧ y.box = bx ∧ y.r.l = [] ∧ y.p.l.length ≤ a + 1 ∧ y.p.lost ≤ a + 1 ∧ y.p.most = 3 ∧ Km codeDags w W [v] [y.park, y.tab] [bx, row]) := Lib.hid (fun W hkW => ⟨Y2, hYg2, hYb2, hyl2, by rw [hyp2]; omega, by rw [hyp2]; omega, by rw [hyp2]; exact hbd.2.2.2, hkW⟩)
    have HW2 := Lib.hid (HWT.out _ _ Y2 HK6.out HAM2.out (by rw [hyp2]; omega))
    rw [hYg2, hyp2] at HW2
    have q8 : ((Y.p.l.length : Int) != (Y.p.l.length : Int)) = false := by simp
    have HM2 := Lib.hid HMY.out.symm
    clear hyl2 hyp2 hYg2 hYb2 hbd hpl hmost HPN HPL HWT hmr HMY
    cases lb
    ·clear HM2
     go_wp2_with fail
     go_at_call 24
     refine HW2.out.mono ?_
     rintro b w7 ⟨u, rfl, hu, hb⟩
     have HK7 := Lib.hid (HEND.out _ (HK6.out.later hb))
     obtain ⟨Av, cv, rfl, -⟩ := hu.shape
     clear hu hb HW2 HK6 a0 a1 a2 a3 a4 a5 a6 a7 a8 a9 a10
     go_wp2_with fail
     refine ⟨⟨a + 1, by go_num, by omega, HK7⟩, ?_⟩
     simp [intOf]; omega
    ·have q5 : decide (zk = 1) = false := by have := HM2.out; simpa using this
     have q6 : (zk == 1) = false := by rw [beq_eq_false_iff_ne]; exact of_decide_eq_false q5
     clear HM2
     go_wp2_with fail
     go_at_call 24
     refine HW2.out.mono ?_
     rintro b w7 ⟨u, rfl, hu, hb⟩
     have HK7 := Lib.hid (HEND.out _ (HK6.out.later hb))
     obtain ⟨Av, cv, rfl, -⟩ := hu.shape
     clear hu hb HW2 HK6 a0 a1 a2 a3 a4 a5 a6 a7 a8 a9 a10
     go_wp2_with fail
     refine ⟨⟨a + 1, by go_num, by omega, HK7⟩, ?_⟩
     simp [intOf]; omega
   ·simp only [cond_true] at hyp2
    have hm2 := HMY.out.symm
    rw [Bool.and_eq_true] at hm2
    obtain ⟨hz1, hlb⟩ := hm2
    have hz1 := of_decide_eq_true hz1
    try simp only at hz1
    subst hz1 hlb
    have HEND : Hid (∃ y : MkI, y.g = gx ∧ y.box = bx ∧ y.r.l = [] ∧ y.p.l.length ≤ a + 1 ∧ y.p.lost ≤ a + 1 ∧ y.p.most = 3 ∧ Km codeDags w w6 [v] [y.park, y.tab] [bx, row]) := Lib.hid ⟨Y2, hYg2, hYb2, hyl2, by rw [hyp2]; omega, by rw [hyp2]; omega, by rw [hyp2, hmost]; exact hbd.2.2.2, HK6.out⟩
    clear hyl2 hyp2 hYg2 hYb2 hbd hpl hmost HPN HPL HWT hmr HMY HK6
    go_wp2_with fail
    refine ⟨⟨a + 1, by go_num, by omega, HEND⟩, ?_⟩
    simp [intOf]; omega
  ·have q1 : decide ((a : Int) < 2) = false := decide_eq_false (by omega)
   have HNO := Lib.hid (fun W => marksNew_no W)
   have HLV := Lib.hid (fun W => lives13_any W)
   have HBZ := Lib.hid HK.out.below
   clear HK
   go_wp2_with fail
   go_at_call 9
   refine (HNO.out _).mono ?_
   rintro b w4 ⟨rfl, hb⟩
   replace HBZ := Lib.hid (HBZ.out.trans (hb.mono HBZ.out.size))
   clear hb HNO
   go_wp2_with fail
   go_at_call 25
   refine (HLV.out _).mono ?_
   rintro b w5 ⟨rfl, hb⟩
   replace HBZ := Lib.hid (HBZ.out.trans (hb.mono HBZ.out.size))
   clear hb HLV
   go_wp2_with fail
   go_ret
   exact ⟨rfl, HBZ.out⟩
end Go.Proofs.YtnnapkakbdpkaaaGreat
