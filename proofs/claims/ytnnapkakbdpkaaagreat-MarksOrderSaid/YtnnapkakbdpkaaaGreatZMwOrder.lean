/-
  The statement MarksOrder.
-/
import Derived.Test.YtnnapkakbdpkaaaGreatZO1
import Derived.Test.YtnnapkakbdpkaaaGreatZO2
set_option linter.unusedVariables false
set_option linter.unusedSimpArgs false
namespace Go.Proofs.YtnnapkakbdpkaaaGreat
set_option maxRecDepth 20000
open Go.RowKit
set_option linter.unusedVariables false
set_option linter.unusedSimpArgs false

theorem knI13 : Kn Tryz.prog LI 78 (.int .i64 0) 8 := ⟨Tryz.underlying78, by kernel_rfl, rfl, by decide⟩
/-- The numbers, so many rounds behind the first ones. -/
def ordL (pre : List Nat) (n c : Nat) : List Nat := pre ++ (List.replicate c (List.range n)).flatten
theorem ordL_next (pre : List Nat) (n c : Nat) : ordL pre n (c + 1) = ordL pre n c ++ List.range n := by
  unfold ordL
  rw [List.replicate_succ', List.flatten_append, List.append_assoc]
  simp
theorem ordL_len (pre : List Nat) (n c : Nat) : (ordL pre n c).length = pre.length + c * n := by
  unfold ordL
  simp [List.length_append, List.length_flatten, List.map_replicate]
theorem Km.rowNew {α : Type} (L : Lies α) {C : Dags} {w wr : World} {vs : List VI} {ts ms : List Th} (h : Km C w wr vs ms ts) : ∃ B, Km C w wr vs (ms ++ [Th.mine L B (.slice none 0 0) []]) (Th.low B :: ts) :=
  ⟨wr.heap.size, (h.made (m := Th.mine L wr.heap.size (.slice none 0 0) []) (Below.refl _ _) (Lies.Mine.nil _ _) (fun k hk => by cases hk)).add (t := Th.low wr.heap.size) (Below.refl _ _) (Nat.le_refl _) (fun k hk => hk.elim)⟩

set_option maxHeartbeats 6400000 in
theorem marksOrder_walk (va vb vl vo : Value) (gs hs : List GV) (l : List Edu) (os : List Int) (w : World) (ha : GsS w va gs) (hb : GsS w vb hs) (hl : EsS w vl l) (ho : LI.Slice w vo os) (hob : ∀ y ∈ os, i64B y) : Calls Tryz.prog 4 #[va, vb, vl, vo] w fun x w' => x = .returned (.bool true) ∧ Below w.heap.size w w' := by
  obtain ⟨Al, cl, rfl, hl1, hl2, -⟩ := id hl.1
  unfold maxLen at hl2
  have HL := Lib.hid hl.1
  have HLW := Lib.hid hl.2
  have HGA := Lib.hid ha
  have HGB := Lib.hid hb
  have HN := Lib.hid (marksNew_yes 1000 (by decide) (by decide) (Km.start (C := codeDags) w))
  obtain ⟨Ao, co, rfl, ho1, ho2, -⟩ := id ho
  unfold maxLen at ho2
  have HO := Lib.hid ho
  have HOB := Lib.hid hob
  clear ha hb hl ho hob
  go_enter Tryz.func4, Tryz.ntmps4
  go_wp2_with fail
  go_at_call 9
  refine HN.out.mono ?_
  rintro a w2 ⟨X, rfl, hX, hk⟩
  have HX := Lib.hid hX
  have HK1 := Lib.hid hk
  have HV := Lib.hid (viewNew_any hk.kv)
  clear HN hX hk
  go_wp2_with fail
  go_at_call 10
  refine HV.out.mono ?_
  rintro a w3 ⟨v, rfl, hv, hk⟩
  have HK2 := Lib.hid (HK1.out.ofKv hk)
  have HV0 := Lib.hid hv
  have HMD := Lib.hid (refMade10_any va vb gs hs w3 (HGA.out.below HK2.out.below) (HGB.out.below HK2.out.below))
  clear HV hk hv HK1
  go_wp2_with fail
  go_at_call 11
  refine HMD.out.mono ?_
  rintro a w4 ⟨ve, zs, rfl, hes, hzs, hmi, hb, hft⟩
  have HZ := Lib.hid hzs
  obtain ⟨Az, cz, rfl, hz1, hz2, -⟩ := hmi.shape
  unfold maxLen at hz2
  have HK3 := Lib.hid (HK2.out.add (t := Th.evs (.slice Az zs.length cz) zs) hb hes (fun k hk => .inl (hft k hk)))
  have HZL : Hid (zs.length ≤ 18) := Lib.hid (by
    have h5 := madeL_len gs hs
    rw [← hzs, evs_len] at h5
    exact h5)
  have HOK : Hid (AllOk (evs zs)) := Lib.hid (by rw [hzs]; exact madeL_ok gs hs)
  have hlow4 : w.heap.size ≤ w4.heap.size := HK3.out.below.size
  clear hes hmi hb hft HMD HK2 hzs HGA HGB
  obtain ⟨gx, hgx⟩ : ∃ g, X.g = g := ⟨_, rfl⟩
  obtain ⟨gv, hgv⟩ : ∃ g, v.g = g := ⟨_, rfl⟩
  obtain ⟨bx, hbx⟩ : ∃ b, X.box = b := ⟨_, rfl⟩
  obtain ⟨evt, hevt⟩ : ∃ t, Th.evs (.slice Az zs.length cz) zs = t := ⟨_, rfl⟩
  have HEVT := Lib.hid hevt
  have HBX := Lib.hid hbx
  have HGX := Lib.hid hgx
  have HGV := Lib.hid hgv
  have HK4 := Lib.hid ((HK3.out.made (m := Th.mine LE w4.heap.size (.slice none 0 0) []) (Below.refl _ _) (Lies.Mine.nil _ _) (fun k hk => by cases hk)).add (t := Th.low w4.heap.size) (Below.refl _ _) (Nat.le_refl _) (fun k hk => hk.elim))
  have HK4b : Hid (Km codeDags w w4 [v] [X.park, X.tab, Th.mine LE w4.heap.size (.slice none 0 0) ((l.take 0).map waitE)] [Th.low w4.heap.size, evt, bx]) := Lib.hid (by rw [← hevt, ← hbx]; exact HK4.out)
  generalize w4.heap.size = B4 at HK4b hlow4
  rw [hgx, hgv]
  clear HK3 HK4 hgx hgv hevt hbx
  go_upto_block 0 with (fail)
  go_cut [14, 13] (fun s14 s13 wx => ∃ (R : List Edu) (Ar : Option Addr) (cr : Nat), s13 = .slice Ar R.length cr ∧ R.length ≤ cr ∧ cr ≤ 9223372036854775807 ∧ R.length ≤ 8 ∧ Hid (∀ r ∈ R, r.small ∧ mayR r = true) ∧ Hid (Km codeDags w wx [v] [X.park, X.tab] [Th.mine LE B4 (.slice Ar R.length cr) R, Th.low B4, evt, bx]))
  case first =>
   go_wp2_with fail
   go_loopw [14, 13] (fun n u wz => ∃ a : Nat, n = .int .i64 (a : Int) ∧ a ≤ 8 ∧ a ≤ l.length ∧ Hid (Km codeDags w wz [v] [X.park, X.tab, Th.mine LE B4 u ((l.take a).map waitE)] [Th.low B4, evt, bx])) (fun n _ _ => 8 - (intOf n).toNat)
   case atStart => exact ⟨0, rfl, by omega, Nat.zero_le _, HK4b⟩
   case round =>
     obtain ⟨a, rfl, ha8, hal, HK⟩ := hrel
     clear HK4b
     by_cases hax : a < l.length ∧ a < 8
     · obtain ⟨hax, ha8'⟩ := hax
       have q1 : decide ((a : Int) < (l.length : Int)) = true := decide_eq_true (by omega)
       have q2 : decide ((a : Int) < 8) = true := decide_eq_true (by omega)
       have hx : l[a]? = some l[a] := List.getElem?_eq_getElem hax
       generalize l[a] = z at hx
       have HTK := Lib.hid (show (l.take (a + 1)).map waitE = (l.take a).map waitE ++ [waitE z] from by rw [List.take_add_one, hx, List.map_append]; rfl)
       obtain ⟨bo, oo, hA, hbo, hco⟩ := (HL.out.below HK.out.below).at hx
       have hiy := index_any (P := Tryz.prog) knE (by decide) (b := bo) (off := oo) (cap := cl) hax
       simp only [LE] at hiy hco
       rw [← hA] at hiy
       clear hA
       obtain ⟨a0, a1, a2, a3, a4, a5, a6, a7, a8, a9, a10⟩ := range11 hco
       have HWT := Lib.hid (fun W => waits_any z W (HLW.out z (List.mem_of_getElem? hx)))
       generalize waitE z = e at *
       obtain ⟨k, r, u, z, t, pr, o, s, y, c, m⟩ := z
       obtain ⟨xk, xr, xu, xz, xt, xp, xo, xs, xy, xc, xm⟩ := e
       simp only [Edu.val] at HWT
       clear hx hco hbo
       go_wp2_with fail
       go_at_call 12
       refine (HWT.out _).mono ?_
       rintro b w5 ⟨rfl, hb⟩
       have HK5 := Lib.hid (HK.out.later hb)
       clear hb HWT HK a0 a1 a2 a3 a4 a5 a6 a7 a8 a9 a10 hiy
       have hsr : LE.Slice (w5.alloc (.cells #[.int .i64 xk, .string xr, .string xu, .string xz, .string xt, .bool xp, .bool xo, .int .i64 xs, .int .i64 xy, .int .i64 xc, .int .i64 xm] 43)) (.slice (some ⟨w5.heap.size, 0, none⟩) 1 1) [(⟨xk, xr, xu, xz, xt, xp, xo, xs, xy, xc, xm⟩ : Edu)] := lit_slice (L := LE) w5 ⟨xk, xr, xu, xz, xt, xp, xo, xs, xy, xc, xm⟩ w5.heap.size rfl #[.int .i64 xk, .string xr, .string xu, .string xz, .string xt, .bool xp, .bool xo, .int .i64 xs, .int .i64 xy, .int .i64 xc, .int .i64 xm] rfl
       have HSR := Lib.hid (hsr.srcN knE (n := 1) rfl)
       have HK7 := Lib.hid (HK5.out.later (below_new w5 (.cells #[.int .i64 xk, .string xr, .string xu, .string xz, .string xt, .bool xp, .bool xo, .int .i64 xs, .int .i64 xy, .int .i64 xc, .int .i64 xm] 43)))
       have HMI : Hid (LE.Mine (w5.alloc (.cells #[.int .i64 xk, .string xr, .string xu, .string xz, .string xt, .bool xp, .bool xo, .int .i64 xs, .int .i64 xy, .int .i64 xc, .int .i64 xm] 43)) B4 u13 ((l.take a).map waitE)) := Lib.hid (HK7.out.isM (i := 2) rfl)
       have HB4 : Hid (B4 ≤ (w5.alloc (.cells #[.int .i64 xk, .string xr, .string xu, .string xz, .string xt, .bool xp, .bool xo, .int .i64 xs, .int .i64 xy, .int .i64 xc, .int .i64 xm] 43)).heap.size) := Lib.hid (HK7.out.isT List.mem_cons_self)
       have hl5 : ((l.take a).map waitE).length + 1 ≤ 1000000 := by rw [List.length_map, List.length_take]; omega
       clear hsr HK5
       go_wp2_with (refine wpList_puts rfl knE (.tmp 50) (.tmp 56) 23 rfl rfl HMI.out HB4.out (.slice (some ⟨w5.heap.size, 0, none⟩) 1 1) [⟨xk, xr, xu, xz, xt, xp, xo, xs, xy, xc, xm⟩] 1 rfl rfl HSR.out hl5 (fun A2 cap2 w8 hm8 hg8 ho8 => ?_))
       have hln : ((l.take a).map waitE).length = a := by rw [List.length_map, List.length_take]; omega
       rw [hln] at hm8 ho8
       have HF := Lib.hid (show Km codeDags w w8 [v] [X.park, X.tab, Th.mine LE B4 _ ((l.take (a + 1)).map waitE)] [Th.low B4, evt, bx] from by
         rw [HTK.out]
         exact HK7.out.puts (i := 2) rfl hg8 hm8 (fun k hk => ho8 k hk))
       refine ⟨⟨a + 1, by go_num, by omega, by omega, HF⟩, ?_⟩
       simp [intOf]; omega
     · have HRL : Hid (∃ R : List Edu, (l.take a).map waitE = R ∧ R.length ≤ 8 ∧ ∀ r ∈ R, r.small ∧ mayR r = true) := Lib.hid ⟨_, rfl, by rw [List.length_map, List.length_take]; omega, fun r hr => by
         obtain ⟨z, -, rfl⟩ := List.mem_map.1 hr
         exact ⟨wait_small z, wait_may z⟩⟩
       obtain ⟨R, hR, hR8, hRs⟩ := HRL.out
       rw [hR] at HK
       have HRS := Lib.hid hRs
       have HRK := Lib.hid hR
       obtain ⟨Ar, cr, hur, hr1, hr2, -⟩ := (show LE.Mine _ B4 u13 R from HK.out.isM (i := 2) rfl).shape
       subst hur
       unfold maxLen at hr2
       have HK6 := Lib.hid (Km.keep (ms := [X.park, X.tab]) (m := Th.mine LE B4 (.slice Ar R.length cr) R) HK.out)
       clear HRL hR hRs HK
       by_cases h1 : a < l.length
       · have q1 : decide ((a : Int) < (l.length : Int)) = true := decide_eq_true (by omega)
         have q2 : decide ((a : Int) < 8) = false := decide_eq_false (by omega)
         go_wp2_with fail
         go_meet
         exact ⟨R, Ar, cr, rfl, hr1, by omega, hR8, HRS, HK6⟩
       · have q1 : decide ((a : Int) < (l.length : Int)) = false := decide_eq_false (by omega)
         go_wp2_with fail
         go_meet
         exact ⟨R, Ar, cr, rfl, hr1, by omega, hR8, HRS, HK6⟩
  case rest =>
    obtain ⟨R, Ar, cr, rfl, hr1, hr2, hR8, HRS, HK6⟩ := hcut
    clear HK4b
    obtain ⟨nn, hnn⟩ : ∃ nn : Nat, nn = zs.length + R.length := ⟨_, rfl⟩
    have hnc : (zs.length : Int) + (R.length : Int) = (nn : Int) := by omega
    have HNC := Lib.hid hnc
    have hn26 : nn ≤ 26 := by have := HZL.out; omega
    have HNN := Lib.hid hnn
    clear hnn hnc
    obtain ⟨B5, hk7⟩ := HK6.out.rowNew LI
    have HK7 := Lib.hid hk7
    clear hk7
    obtain ⟨ts1, hts1⟩ : ∃ ts1, ts1 = [Th.mine LE B4 (.slice Ar R.length cr) R, Th.low B4, evt, bx] := ⟨_, rfl⟩
    have HT1 := Lib.hid hts1
    rw [← hts1] at HK7
    have H0 : Hid (∃ pre : List Nat, pre.length = 0 ∧ (∀ i ∈ pre, i < nn) ∧ Km codeDags w _ [v] [X.park, X.tab, Th.mine LI B5 (.slice none 0 0) (pre.map Int.ofNat)] (Th.low B5 :: ts1)) := Lib.hid ⟨[], rfl, fun i hi => (List.not_mem_nil hi).elim, HK7.out⟩
    clear HK6 HK7 hts1
    go_upto_region 12 with (fail)
    rw [HNC.out]
    rw [show wrap64 (nn : Int) = (nn : Int) from by go_arith]
    go_upto_block 2 with (fail)
    go_cut [17, 16] (fun s17 s16 wx => ∃ (pre : List Nat) (Ac : Option Addr) (cc : Nat), s16 = .slice Ac pre.length cc ∧ pre.length ≤ 20 ∧ (∀ i ∈ pre, i < nn) ∧ Hid (Km codeDags w wx [v] [X.park, X.tab, Th.mine LI B5 (.slice Ac pre.length cc) (pre.map Int.ofNat)] (Th.low B5 :: ts1)))
    case first =>
      go_wp2_with fail
      go_loopw [17, 16] (fun n u wz => ∃ a : Nat, n = .int .i64 (a : Int) ∧ a ≤ 20 ∧ a ≤ os.length ∧ Hid (∃ pre : List Nat, pre.length = a ∧ (∀ i ∈ pre, i < nn) ∧ Km codeDags w wz [v] [X.park, X.tab, Th.mine LI B5 u (pre.map Int.ofNat)] (Th.low B5 :: ts1))) (fun n _ _ => 20 - (intOf n).toNat)
      case atStart => exact ⟨0, rfl, by omega, Nat.zero_le _, H0⟩
      case round =>
        obtain ⟨a, rfl, ha20, hal, HD⟩ := hrel
        clear H0
        obtain ⟨pre, hpl, hpn, hk⟩ := HD.out
        have HK := Lib.hid hk
        have HPN := Lib.hid hpn
        clear hk hpn HD
        by_cases hc : a < os.length ∧ a < 20 ∧ 0 < nn
        · obtain ⟨hax, ha2, hn0⟩ := hc
          have q1 : decide ((a : Int) < (os.length : Int)) = true := decide_eq_true (by omega)
          have q2 : decide ((a : Int) < 20) = true := decide_eq_true (by omega)
          have q3 : decide ((0 : Int) < (nn : Int)) = true := decide_eq_true (by omega)
          have q3' : decide (0 < nn) = true := decide_eq_true (by omega)
          have hx : os[a]? = some os[a] := List.getElem?_eq_getElem hax
          generalize os[a] = o at hx
          obtain ⟨bo, oo, hA, hbo, hco⟩ := (HO.out.below HK.out.below).at hx
          have hiy := index_any (P := Tryz.prog) knI13 (by decide) (b := bo) (off := oo) (cap := co) hax
          simp only [LI, Nat.mul_one] at hiy hco
          rw [← hA] at hiy
          clear hA
          have a0 : wr.cell? ⟨bo, oo + a, none⟩ = some (.int .i64 o) := hco 0 _ rfl
          have hob := HOB.out o (List.mem_of_getElem? hx)
          have HAR := Lib.hid (fun W => around_any o (nn : Int) W hob.1 hob.2 (by omega) (by omega))
          obtain ⟨r, hr, hrn⟩ : ∃ r : Nat, aroundI o (nn : Int) = (r : Int) ∧ r < nn := by
            have h5 := aroundI_bd o (nn : Int) (by omega)
            exact ⟨(aroundI o (nn : Int)).toNat, by omega, by omega⟩
          rw [hr] at HAR
          clear hx hco hbo hob hr
          go_wp2_with fail
          go_at_call 8
          refine (HAR.out _).mono ?_
          rintro b w5 ⟨rfl, rfl⟩
          clear HAR
          have hsr : LI.Slice (wr.alloc (.cells #[.int .i64 (r : Int)] 3)) (.slice (some ⟨wr.heap.size, 0, none⟩) 1 1) [(r : Int)] := lit_slice (L := LI) wr (r : Int) wr.heap.size rfl #[.int .i64 (r : Int)] rfl
          have HSR := Lib.hid (hsr.srcN knI13 (n := 1) rfl)
          have HK7 := Lib.hid (HK.out.later (below_new wr (.cells #[.int .i64 (r : Int)] 3)))
          have HMI : Hid (LI.Mine (wr.alloc (.cells #[.int .i64 (r : Int)] 3)) B5 u16 (pre.map Int.ofNat)) := Lib.hid (HK7.out.isM (i := 2) rfl)
          have HB4 : Hid (B5 ≤ (wr.alloc (.cells #[.int .i64 (r : Int)] 3)).heap.size) := Lib.hid (HK7.out.isT List.mem_cons_self)
          have hl5 : (pre.map Int.ofNat).length + 1 ≤ 1000000 := by rw [List.length_map]; omega
          have hln : (pre.map Int.ofNat).length = a := by rw [List.length_map]; exact hpl
          have HTK : Hid ((pre ++ [r]).map Int.ofNat = pre.map Int.ofNat ++ [(r : Int)]) := Lib.hid (by rw [List.map_append]; rfl)
          have HLN := Lib.hid hln
          clear hsr HK hln
          go_wp2_with (refine wpList_puts rfl knI13 (.tmp 77) (.tmp 84) 78 rfl rfl HMI.out HB4.out (.slice (some ⟨wr.heap.size, 0, none⟩) 1 1) [(r : Int)] 1 rfl rfl HSR.out hl5 (fun A2 cap2 w8 hm8 hg8 ho8 => ?_))
          rw [HLN.out] at hm8 ho8
          have HF : Hid (∃ pre : List Nat, pre.length = a + 1 ∧ (∀ i ∈ pre, i < nn) ∧ Km codeDags w w8 [v] [X.park, X.tab, Th.mine LI B5 (.slice A2 (a + 1) cap2) (pre.map Int.ofNat)] (Th.low B5 :: ts1)) := Lib.hid ⟨pre ++ [r], by simp [hpl], fun i hi => by
            rcases List.mem_append.1 hi with hi | hi
            · exact HPN.out i hi
            · rw [List.mem_singleton.1 hi]; exact hrn, by
            rw [HTK.out]
            exact HK7.out.puts (i := 2) rfl hg8 hm8 (fun k hk => ho8 k hk)⟩
          refine ⟨⟨a + 1, by go_num, by omega, by omega, HF⟩, ?_⟩
          simp [intOf]; omega
        · obtain ⟨Ac, cc, hu, -⟩ := (show LI.Mine _ B5 u16 (pre.map Int.ofNat) from HK.out.isM (i := 2) rfl).shape
          subst hu
          rw [List.length_map] at HK ⊢
          have HPL : Hid (pre.length ≤ 20) := Lib.hid (by omega)
          by_cases h1 : a < os.length
          · have q1 : decide ((a : Int) < (os.length : Int)) = true := decide_eq_true (by omega)
            by_cases h2 : a < 20
            · have q2 : decide ((a : Int) < 20) = true := decide_eq_true (by omega)
              have q3 : decide ((0 : Int) < (nn : Int)) = false := decide_eq_false (by omega)
              have q3' : decide (0 < nn) = false := decide_eq_false (by omega)
              go_wp2_with fail
              go_meet
              exact ⟨pre, Ac, cc, rfl, HPL.out, HPN.out, HK⟩
            · have q2 : decide ((a : Int) < 20) = false := decide_eq_false (by omega)
              go_wp2_with fail
              go_meet
              exact ⟨pre, Ac, cc, rfl, HPL.out, HPN.out, HK⟩
          · have q1 : decide ((a : Int) < (os.length : Int)) = false := decide_eq_false (by omega)
            go_wp2_with fail
            go_meet
            exact ⟨pre, Ac, cc, rfl, HPL.out, HPN.out, HK⟩
    case rest =>
      obtain ⟨pre, Ac, cc, rfl, hpl, hpn, HK8⟩ := hcut
      have HPN := Lib.hid hpn
      clear H0 hpn
      have H0 : Hid (Km codeDags w _ [v] [X.park, X.tab, Th.mine LI B5 (.slice Ac pre.length cc) ((ordL pre nn 0).map Int.ofNat)] (Th.low B5 :: ts1)) := Lib.hid (by
        rw [show ordL pre nn 0 = pre from by unfold ordL; simp]
        exact HK8.out)
      clear HK8
      go_wp2_with fail
      go_loopw [18, 16, 19] (fun n u _ wz => ∃ c : Nat, n = .int .i64 (c : Int) ∧ c ≤ 2 ∧ Hid (Km codeDags w wz [v] [X.park, X.tab, Th.mine LI B5 u ((ordL pre nn c).map Int.ofNat)] (Th.low B5 :: ts1))) (fun n _ _ _ => 2 - (intOf n).toNat)
      case atStart => exact ⟨0, rfl, by omega, H0⟩
      case round =>
        obtain ⟨c, rfl, hc2, HK⟩ := hrel
        clear H0
        by_cases hcx : c < 2
        · have q1 : decide ((c : Int) < 2) = true := decide_eq_true (by omega)
          have H1 : Hid (Km codeDags w wr [v] [X.park, X.tab, Th.mine LI B5 u16 ((ordL pre nn c ++ List.range 0).map Int.ofNat)] (Th.low B5 :: ts1)) := Lib.hid (by
            rw [List.range_zero, List.append_nil]
            exact HK.out)
          clear HK
          go_wp2_with fail
          go_loopw [19, 16] (fun n u wz => ∃ k : Nat, n = .int .i64 (k : Int) ∧ k ≤ nn ∧ Hid (Km codeDags w wz [v] [X.park, X.tab, Th.mine LI B5 u ((ordL pre nn c ++ List.range k).map Int.ofNat)] (Th.low B5 :: ts1))) (fun n _ _ => nn - (intOf n).toNat)
          case atStart => exact ⟨0, rfl, Nat.zero_le _, H1⟩
          case round =>
            obtain ⟨k, rfl, hkn, HK⟩ := hrel
            clear H1
            by_cases hkx : k < nn
            · have q3 : decide ((k : Int) < (nn : Int)) = true := decide_eq_true (by omega)
              have hsr : LI.Slice (wr.alloc (.cells #[.int .i64 (k : Int)] 3)) (.slice (some ⟨wr.heap.size, 0, none⟩) 1 1) [(k : Int)] := lit_slice (L := LI) wr (k : Int) wr.heap.size rfl #[.int .i64 (k : Int)] rfl
              have HSR := Lib.hid (hsr.srcN knI13 (n := 1) rfl)
              have HK7 := Lib.hid (HK.out.later (below_new wr (.cells #[.int .i64 (k : Int)] 3)))
              have hln : ((ordL pre nn c ++ List.range k).map Int.ofNat).length ≤ 100 := by
                rw [List.length_map, List.length_append, ordL_len, List.length_range]
                have : c * nn ≤ 1 * nn := Nat.mul_le_mul_right _ (by omega)
                omega
              generalize hpre : (ordL pre nn c ++ List.range k).map Int.ofNat = xs at *
              have HXS := Lib.hid hpre
              have HMI : Hid (LI.Mine (wr.alloc (.cells #[.int .i64 (k : Int)] 3)) B5 u16 xs) := Lib.hid (HK7.out.isM (i := 2) rfl)
              have HB4 : Hid (B5 ≤ (wr.alloc (.cells #[.int .i64 (k : Int)] 3)).heap.size) := Lib.hid (HK7.out.isT List.mem_cons_self)
              have hl5 : xs.length + 1 ≤ 1000000 := by omega
              clear hsr HK hpre hln
              go_wp2_with (refine wpList_puts rfl knI13 (.tmp 95) (.tmp 97) 78 rfl rfl HMI.out HB4.out (.slice (some ⟨wr.heap.size, 0, none⟩) 1 1) [(k : Int)] 1 rfl rfl HSR.out hl5 (fun A2 cap2 w8 hm8 hg8 ho8 => ?_))
              have HF : Hid (Km codeDags w w8 [v] [X.park, X.tab, Th.mine LI B5 (.slice A2 (xs.length + 1) cap2) ((ordL pre nn c ++ List.range (k + 1)).map Int.ofNat)] (Th.low B5 :: ts1)) := Lib.hid (by
                rw [List.range_succ, ← List.append_assoc, List.map_append, HXS.out]
                exact HK7.out.puts (i := 2) rfl hg8 hm8 (fun k hk => ho8 k hk))
              refine ⟨⟨k + 1, by go_num, by omega, HF⟩, ?_⟩
              simp [intOf]; omega
            · have q3 : decide ((k : Int) < (nn : Int)) = false := decide_eq_false (by omega)
              obtain rfl : k = nn := by omega
              rw [← ordL_next] at HK
              go_wp2_with fail
              refine ⟨⟨c + 1, by go_num, by omega, HK⟩, ?_⟩
              simp [intOf]; omega
        · have q1 : decide ((c : Int) < 2) = false := decide_eq_false (by omega)
          obtain rfl : c = 2 := by omega
          obtain ⟨As, cs, hu, hs1, hs2, -⟩ := (show LI.Mine _ B5 u16 ((ordL pre nn 2).map Int.ofNat) from HK.out.isM (i := 2) rfl).shape
          subst hu
          unfold maxLen at hs2
          have HISL : Hid ((ordL pre nn 2).length ≤ 72) := Lib.hid (by rw [ordL_len]; omega)
          have HIS : Hid (∀ i ∈ ordL pre nn 2, i < nn) := Lib.hid (fun i hi => by
            unfold ordL at hi
            rcases List.mem_append.1 hi with hi | hi
            · exact HPN.out i hi
            · obtain ⟨s, hs, hi⟩ := List.mem_flatten.1 hi
              rw [List.eq_of_mem_replicate hs] at hi
              exact List.mem_range.1 hi)
          have HALL : Hid ((runO (evs zs) R (ordL pre nn 2)).2.l = foldE (foldV (evs zs)) R ∧ (runO (evs zs) R (ordL pre nn 2)).2.p.lost = 0) := Lib.hid (order_all HOK.out (fun r hr => (HRS.out r hr).2) _ pre (List.range nn) (by
            unfold ordL
            rw [HNN.out, evs_len]
            simp [List.replicate_succ]) (by have := HISL.out; omega))
          have HRUN := Lib.hid (run_ord HOK.out (fun r hr => (HRS.out r hr).2) (ordL pre nn 2) (by have := HISL.out; omega))
          rw [List.length_map] at HK hs1 ⊢
          generalize ordL pre nn 2 = is at *
          have HK9 := Lib.hid (Km.keep (ms := [X.park, X.tab]) (m := Th.mine LI B5 (.slice As is.length cs) (is.map Int.ofNat)) HK.out)
          clear HK HPN
          obtain ⟨tsZ, htsZ⟩ : ∃ tsZ, tsZ = Th.mine LI B5 (.slice As is.length cs) (is.map Int.ofNat) :: Th.low B5 :: ts1 := ⟨_, rfl⟩
          rw [← htsZ] at HK9
          have HMI : Hid (Th.mine LI B5 (.slice As is.length cs) (is.map Int.ofNat) ∈ tsZ) := Lib.hid (by rw [htsZ]; exact List.mem_cons_self)
          have HMR : Hid (Th.mine LE B4 (.slice Ar R.length cr) R ∈ tsZ) := Lib.hid (by rw [htsZ, HT1.out]; simp)
          have HME : Hid (evt ∈ tsZ) := Lib.hid (by rw [htsZ, HT1.out]; simp)
          have HMX : Hid (bx ∈ tsZ) := Lib.hid (by rw [htsZ, HT1.out]; simp)
          have HEZ : Hid ((evs zs).length = zs.length) := Lib.hid (evs_len zs)
          have H0 : Hid (∃ (vi : VI) (Y : MkI), vi.g = gv ∧ Y.g = gx ∧ Y.box = bx ∧ vi.V = (runO (evs zs) R (is.take 0)).1 ∧ Y.ms = (runO (evs zs) R (is.take 0)).2 ∧ Km codeDags w _ [vi] [Y.park, Y.tab] tsZ) := Lib.hid ⟨v, X, HGV.out, HGX.out, HBX.out, HV0.out, HX.out, HK9.out⟩
          clear HK9 htsZ HT1
          have q1b : decide ((2 : Int) < 2) = false := rfl
          rw [show ((2 : Nat) : Int) = (2 : Int) from rfl]
          clear q1
          go_wp2_with fail
          go_loopw [20, 21] (fun n _ wz => ∃ a : Nat, n = .int .i64 (a : Int) ∧ a ≤ is.length ∧ Hid (∃ (vi : VI) (Y : MkI), vi.g = gv ∧ Y.g = gx ∧ Y.box = bx ∧ vi.V = (runO (evs zs) R (is.take a)).1 ∧ Y.ms = (runO (evs zs) R (is.take a)).2 ∧ Km codeDags w wz [vi] [Y.park, Y.tab] tsZ)) (fun n _ _ => is.length - (intOf n).toNat)
          case atStart => exact ⟨0, rfl, Nat.zero_le _, H0⟩
          case round =>
            obtain ⟨a, rfl, hal, HD⟩ := hrel
            clear H0
            obtain ⟨vi, Y, hvg, hyg, hyb, hvV, hyS, hk⟩ := HD.out
            have HK := Lib.hid hk
            have HVG := Lib.hid hvg
            have HYG := Lib.hid hyg
            have HYB := Lib.hid hyb
            have HVV := Lib.hid hvV
            have HYS := Lib.hid hyS
            clear hvg hyg hyb hvV hyS hk HD
            have HOM := Lib.hid (HRUN.out a hal)
            have HAM : Hid (∀ ts', bx ∈ ts' → AtM Y 0 1 [Y.park, Y.tab] ts') := Lib.hid (fun ts' h => ⟨rfl, rfl, by decide, by rw [HYB.out]; exact h⟩)
            have HYL : Hid (Y.r.l.length + Y.p.l.length ≤ 72 ∧ Y.p.lost = 0 ∧ Y.p.most = 1000) := Lib.hid (by
              have h5 := HOM.out.len
              have h6 := HOM.out.lost
              have h7 := HOM.out.most
              rw [← HYS.out] at h5 h6 h7
              have h8 := HISL.out
              exact ⟨Nat.le_trans h5 (by omega), h6, h7⟩)
            by_cases hax : a < is.length
            · have q1 : decide ((a : Int) < (is.length : Int)) = true := decide_eq_true (by omega)
              have hx : is[a]? = some is[a] := List.getElem?_eq_getElem hax
              generalize is[a] = k at hx
              have hkn := HIS.out k (List.mem_of_getElem? hx)
              have HRN := Lib.hid (runO_next (E := evs zs) (R := R) hx)
              obtain ⟨bo, oo, hA, hbo, hco⟩ := (show LI.Mine _ B5 (.slice As is.length cs) (is.map Int.ofNat) from HK.out.isT HMI.out).slice.at (i := a) (x := (k : Int)) (by rw [List.getElem?_map, hx]; rfl)
              have hiy := index_any (P := Tryz.prog) knI13 (by decide) (b := bo) (off := oo) (cap := cs) hax
              simp only [LI, Nat.mul_one] at hiy hco
              rw [← hA] at hiy
              clear hA
              have a0 : wr.cell? ⟨bo, oo + a, none⟩ = some (.int .i64 (k : Int)) := hco 0 _ rfl
              clear hx hco hbo
              generalize runO (evs zs) R (is.take a) = q at *
              by_cases hke : k < zs.length
              · have q3 : decide ((k : Int) < (zs.length : Int)) = true := decide_eq_true (by omega)
                have hz : zs[k]? = some zs[k] := List.getElem?_eq_getElem hke
                generalize zs[k] = y at hz
                have HES := Lib.hid (show EvsS wr (.slice Az zs.length cz) zs from by
                  have h5 := HK.out.isT HME.out
                  rw [← HEVT.out] at h5
                  exact h5)
                obtain ⟨b2, f2, hA, hb2, hr2⟩ := ev_at HES.out hz
                have hi2 := index_any (P := Tryz.prog) knV (by decide) (b := b2) (off := f2) (cap := cz) hke
                simp only [LV] at hi2
                rw [← hA] at hi2
                clear hA
                obtain ⟨e0, e1, e2, e3, e4, e5⟩ := ev_cells hr2
                unfold EvV.pv at e2
                have hyd := evs_get hz
                have hmay := may_short (err_zero (show errA y.ev.room (inRoom ((evs zs).take k) y.ev.room) y.ev = 0 from HOK.out k _ hyd)).1
                have HRM : Hid (y.ev.room.size ≤ 40 ∧ y.ev.id.size ≤ 40) := Lib.hid ⟨hmay.2.1, hmay.1⟩
                have HYD := Lib.hid hyd
                have HVO : Hid (VOk 99 vi.V) := Lib.hid (by
                  rw [HVV.out]
                  refine HOM.out.ord.ok.mono ?_
                  have := HZL.out
                  rw [HEZ.out]
                  omega)
                have HZM := Lib.hid (List.mem_of_getElem? hz)
                have HKB := Lib.hid ((HK.out.add (t := Th.box wr.heap.size (.cells #[.string y.ev.id, .string y.ev.room, .slice y.A y.ev.parents.length y.cap, .string y.ev.thread, .string y.ev.user, .int .i64 y.ev.does] 52 (0, 0))) (below_new wr _) (heap_alloc_new wr _) (fun k hk => .inl (Nat.le_of_eq hk.symm))).evOf (v := .slice Az zs.length cz) (zs := zs) (y := y) (by rw [HEVT.out]; exact List.mem_cons_of_mem _ HME.out) HZM.out)
                clear hz hr2 hb2 HES hyd hmay HK
                go_upto_region 29 with (fail)
                generalize World.alloc _ _ = w5 at HKB ⊢
                generalize wr.heap.size = g21 at HKB ⊢
                clear a0 e0 e1 e2 e3 e4 e5 hi2 hiy
                have hbx : w5.heap[g21]? = some (.cells #[.string y.ev.id, .string y.ev.room, .slice y.A y.ev.parents.length y.cap, .string y.ev.thread, .string y.ev.user, .int .i64 y.ev.does] 52 (0, 0)) := HKB.out.isT (List.mem_cons_of_mem _ List.mem_cons_self)
                have x0 := cell_at hbx 0
                have x1 := cell_at hbx 1
                have x2 := cell_at hbx 2
                have x3 := cell_at hbx 3
                have x4 := cell_at hbx 4
                have x5 := cell_at hbx 5
                simp only [List.getElem?_toArray, List.getElem?_cons_succ, List.getElem?_cons_zero] at x0 x1 x2 x3 x4 x5
                have HQ := Lib.hid (viewAdd_any codeRms HKB.out.kv (i := 0) rfl HVO.out y (List.mem_append_right _ List.mem_cons_self) HRM.out.1)
                rw [HVG.out, HVV.out] at HQ
                unfold EvV.val EvV.pv at HQ
                clear hbx
                go_wp2_with fail
                go_at_call 16
                refine HQ.out.mono ?_
                rintro b w6 ⟨v2, rfl, hg2, hv2, hk2⟩
                have HK6 := Lib.hid ((HKB.out.ofKv hk2).less (ts' := Th.box g21 (.cells #[.string y.ev.id, .string y.ev.room, .slice y.A y.ev.parents.length y.cap, .string y.ev.thread, .string y.ev.user, .int .i64 y.ev.does] 52 (0, 0)) :: tsZ) (fun t ht => List.mem_cons_of_mem _ ht))
                have HV2 := Lib.hid (And.intro hg2 hv2)
                clear hg2 hv2 hk2 HKB HQ x0 x1 x2 x3 x4 x5
                have HST : Hid (stepO (evs zs) R q k = (addV q.1 y.ev, bif decide (errV q.1 y.ev = 0) then (q.2.arr (addV q.1 y.ev) y.ev.room y.ev.id).1 else q.2)) := Lib.hid (by unfold stepO; rw [HYD.out])
                by_cases h0 : errV q.1 y.ev = 0
                · have HARR := Lib.hid (marksArrive_any HK6.out (q := 0) rfl (HAM.out _ (List.mem_cons_of_mem _ HMX.out)) (by have := HYL.out; omega) (fun e he => (HRS.out e (by
                    have h5 := HOM.out.inP e (by rw [← HYS.out]; exact he)
                    obtain ⟨jj, -, hj⟩ := h5.1
                    exact List.mem_of_getElem? hj)).1) y.ev.room y.ev.id HRM.out.1 (maxLen_40 HRM.out.2))
                  rw [HV2.out.1, HV2.out.2, HYG.out, HYS.out] at HARR
                  rw [h0]
                  have hbx : w6.heap[g21]? = some (.cells #[.string y.ev.id, .string y.ev.room, .slice y.A y.ev.parents.length y.cap, .string y.ev.thread, .string y.ev.user, .int .i64 y.ev.does] 52 (0, 0)) := HK6.out.isT List.mem_cons_self
                  have x0 := cell_at hbx 0
                  have x1 := cell_at hbx 1
                  simp only [List.getElem?_toArray, List.getElem?_cons_succ, List.getElem?_cons_zero] at x0 x1
                  clear hbx HK6
                  have h0' := Lib.hid h0
                  clear h0
                  go_wp2_with fail
                  go_at_call 20
                  refine HARR.out.mono ?_
                  rintro b w7 ⟨Y2, u, rfl, hto, hu, hk⟩
                  have HF : Hid (∃ (vi : VI) (Y : MkI), vi.g = gv ∧ Y.g = gx ∧ Y.box = bx ∧ vi.V = (runO (evs zs) R (is.take (a + 1))).1 ∧ Y.ms = (runO (evs zs) R (is.take (a + 1))).2 ∧ Km codeDags w w7 [vi] [Y.park, Y.tab] tsZ) := Lib.hid ⟨v2, Y2, HV2.out.1, hto.g.trans HYG.out, hto.box.trans HYB.out, by rw [HRN.out, HST.out]; exact HV2.out.2, by rw [HRN.out, HST.out, decide_eq_true h0'.out, cond_true]; exact hto.ms, (show Km codeDags w w7 [v2] [Y2.park, Y2.tab] _ from hk).less (fun t ht => List.mem_cons_of_mem _ ht)⟩
                  clear hto hu hk HARR x0 x1
                  go_wp2_with fail
                  refine ⟨⟨a + 1, by go_num, by omega, HF⟩, ?_⟩
                  simp [intOf]; omega
                · have q5 : decide (errV q.1 y.ev = 0) = false := decide_eq_false h0
                  have q6 : (errV q.1 y.ev == 0) = false := by rw [beq_eq_false_iff_ne]; exact h0
                  have HF : Hid (∃ (vi : VI) (Y : MkI), vi.g = gv ∧ Y.g = gx ∧ Y.box = bx ∧ vi.V = (runO (evs zs) R (is.take (a + 1))).1 ∧ Y.ms = (runO (evs zs) R (is.take (a + 1))).2 ∧ Km codeDags w w6 [vi] [Y.park, Y.tab] tsZ) := Lib.hid ⟨v2, Y, HV2.out.1, HYG.out, HYB.out, by rw [HRN.out, HST.out]; exact HV2.out.2, by rw [HRN.out, HST.out, q5, cond_false]; exact HYS.out, HK6.out.less (fun t ht => List.mem_cons_of_mem _ ht)⟩
                  clear HK6 h0
                  go_wp2_with fail
                  refine ⟨⟨a + 1, by go_num, by omega, HF⟩, ?_⟩
                  simp [intOf]; omega
              · have q3 : decide ((k : Int) < (zs.length : Int)) = false := decide_eq_false (by omega)
                have HRL : Hid (nn = zs.length + R.length) := Lib.hid HNN.out
                obtain ⟨j, hj⟩ : ∃ j, k - zs.length = j := ⟨_, rfl⟩
                have hjR : j < R.length := by have := HNN.out; omega
                have q9 : wrap64 ((k : Int) - (zs.length : Int)) = (j : Int) := by
                  rw [show (k : Int) - (zs.length : Int) = (j : Int) by omega]
                  go_arith
                have q10 : (k : Int) - (zs.length : Int) = (j : Int) := by omega
                have hz : R[j]? = some R[j] := List.getElem?_eq_getElem hjR
                generalize R[j] = r at hz
                obtain ⟨b2, f2, hA, hb2, hco⟩ := (show LE.Mine wr B4 (.slice Ar R.length cr) R from HK.out.isT HMR.out).slice.at hz
                have hi2 := index_any (P := Tryz.prog) knE (by decide) (b := b2) (off := f2) (cap := cr) hjR
                simp only [LE] at hi2 hco
                rw [← hA] at hi2
                clear hA
                obtain ⟨d0, d1, d2, d3, d4, d5, d6, d7, d8, d9, d10⟩ := range11 hco
                have hrm := HRS.out r (List.mem_of_getElem? hz)
                have HST : Hid (stepO (evs zs) R q k = (q.1, q.2.put q.1 r)) := Lib.hid (by
                  unfold stepO
                  rw [List.getElem?_eq_none (by rw [evs_len]; omega), show k - (evs zs).length = j by rw [evs_len]; exact hj, hz])
                have HPUT := Lib.hid (marksPut_any HK.out (q := 0) rfl (HAM.out _ HMX.out) (by have := HYL.out; omega) (by have := HYL.out; omega) (by have := HYL.out; omega) (by have := HYL.out; omega) r hrm.1)
                rw [HYG.out, HVG.out, HVV.out, HYS.out] at HPUT
                obtain ⟨xk, xr, xu, xz, xt, xp, xo, xs, xy, xc, xm⟩ := r
                simp only [Edu.val] at HPUT
                clear hz hb2 hco hrm hj hjR HK
                go_wp2_with fail
                go_at_call 15
                refine HPUT.out.mono ?_
                rintro b w7 ⟨Y2, rfl, hto, hk⟩
                have HF : Hid (∃ (vi : VI) (Y : MkI), vi.g = gv ∧ Y.g = gx ∧ Y.box = bx ∧ vi.V = (runO (evs zs) R (is.take (a + 1))).1 ∧ Y.ms = (runO (evs zs) R (is.take (a + 1))).2 ∧ Km codeDags w w7 [vi] [Y.park, Y.tab] tsZ) := Lib.hid ⟨vi, Y2, HVG.out, hto.g.trans HYG.out, hto.box.trans HYB.out, by rw [HRN.out, HST.out]; exact HVV.out, by rw [HRN.out, HST.out]; exact hto.ms, hk⟩
                clear hto hk HPUT d0 d1 d2 d3 d4 d5 d6 d7 d8 d9 d10 a0 hiy hi2 q9 q10
                go_wp2_with fail
                refine ⟨⟨a + 1, by go_num, by omega, HF⟩, ?_⟩
                simp [intOf]; omega
            · have q1 : decide ((a : Int) < (is.length : Int)) = false := decide_eq_false (by omega)
              obtain rfl : a = is.length := by omega
              rw [List.take_length] at HVV HYS
              have hyl : Y.r.l = foldE (foldV (evs zs)) R := (congrArg Ms.l HYS.out).trans HALL.out.1
              have hlost : Y.p.lost = 0 := HYL.out.2.1
              obtain ⟨e0, e1, e2, e3⟩ := mkO_at (x := Y) (g := gx) (by
                have h5 := HK.out.isT HMX.out
                rw [← HYB.out, MkI.box, HYG.out] at h5
                exact h5)
              have HLO := Lib.hid (pkLost_any (show CPk _ Y.B Y.b Y.v Y.p from HK.out.isM (i := 0) rfl))
              rw [hlost] at HLO
              have HHL := Lib.hid hyl
              clear hlost hyl
              go_wp2_with fail
              refine HLO.out.mono ?_
              rintro b w6 ⟨rfl, hb⟩
              have HK6 := Lib.hid (HK.out.later hb)
              clear hb HLO HK e0 e1 e2 e3
              obtain ⟨e0, e1, e2, e3⟩ := mkO_at (x := Y) (g := gx) (by
                have h5 := HK6.out.isT HMX.out
                rw [← HYB.out, MkI.box, HYG.out] at h5
                exact h5)
              have HAL := Lib.hid (rcAll_any (show CRs _ Y.r from HK6.out.isM (i := 1) rfl) (by have := HYL.out; omega))
              go_wp2_with fail
              refine HAL.out.mono ?_
              rintro b w7 ⟨u, rfl, hu, hb⟩
              have HK7 := Lib.hid (HK6.out.later hb)
              have HU := Lib.hid hu
              clear hb hu HAL HK6 e0 e1 e2 e3
              have HES := Lib.hid (show EvsS _ (.slice Az zs.length cz) zs from by
                have h5 := HK7.out.isT HME.out
                rw [← HEVT.out] at h5
                exact h5)
              have HBD := Lib.hid (refBuild10_any _ zs _ HES.out (by have := HZL.out; omega))
              go_wp2_with fail
              go_at_call 27
              refine HBD.out.mono ?_
              rintro b w8 ⟨u2, ds, rfl, hds, hvs, -, hb⟩
              have HK8 := Lib.hid (HK7.out.later hb)
              have HU8 := Lib.hid (HU.out.below hb)
              have HFD := Lib.hid (fold13_any hds (by rw [hvs]; exact (foldV_ok _).mono (by have := HZL.out; rw [HEZ.out]; omega)) (show LE.Mine _ B4 (.slice Ar R.length cr) R from HK8.out.isT HMR.out).slice (by omega))
              rw [hvs] at HFD
              clear hds hvs hb HBD HES HK7 HU
              go_wp2_with fail
              go_at_call 26
              refine HFD.out.mono ?_
              rintro b w9 ⟨u3, rfl, hu3, hb⟩
              have HB9 := Lib.hid (HK8.out.later hb).below
              have HLK := Lib.hid (like13_any u u3 Y.r.l (foldE (foldV (evs zs)) R) w9 (HU8.out.below hb).slice hu3)
              rw [HHL.out, decide_eq_true rfl] at HLK
              have HLV := Lib.hid (fun W => lives13_any W)
              clear hu3 hb HFD HK8 HU8
              go_wp2_with fail
              go_at_call 21
              refine HLK.out.mono ?_
              rintro b w10 ⟨rfl, hgr⟩
              have HB10 := Lib.hid (HB9.out.trans (hgr.below.mono HB9.out.size))
              clear hgr HLK HB9
              go_wp2_with fail
              go_at_call 25
              refine (HLV.out _).mono ?_
              rintro b w11 ⟨rfl, hb⟩
              have HB11 := Lib.hid (HB10.out.trans (hb.mono HB10.out.size))
              clear hb HLV HB10
              go_wp2_with fail
              go_ret
              exact ⟨rfl, HB11.out⟩
end Go.Proofs.YtnnapkakbdpkaaaGreat
