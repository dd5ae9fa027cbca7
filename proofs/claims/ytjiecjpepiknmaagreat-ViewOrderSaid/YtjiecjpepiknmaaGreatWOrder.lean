/-
  The walk of ViewOrder.
-/
import Derived.Test.YtjiecjpepiknmaaGreatV3
import Derived.Test.YtjiecjpepiknmaaGreatV5
namespace Go.Proofs.YtjiecjpepiknmaaGreat
set_option maxRecDepth 20000
open Go.RowKit
set_option linter.unusedVariables false
set_option linter.unusedSimpArgs false
section
variable {C : Dags}
theorem two_views {C : Dags} {w wr : World} {v x : VI} {ts : List Th} (h : Kv C w wr ([v] ++ [x]) ts) : Kv C w wr [v, x] ts := h

set_option maxHeartbeats 6400000 in
theorem viewOrder_walk (C : Dags) (CR : DagRms C) (CA : DagAlls C) (CS : DagSms C) (va vb : Value) (gs hs : List GV) (w : World) (ha : GsS w va gs) (hb : GsS w vb hs) :
    Calls Tryz.prog 7 #[va, vb] w fun e w' => e = .returned (.bool true) ∧ Below w.heap.size w w' := by
  have HA := Lib.hid ha
  have HB := Lib.hid hb
  have HBU := Lib.hid (build10_any CR va vb gs hs (Kv.start (C := C) w) ha hb)
  obtain ⟨Aa, ca, rfl, -⟩ := id ha.1
  obtain ⟨Ab, cb, rfl, -⟩ := id hb.1
  have HOK := Lib.hid (madeL_ok gs hs)
  have HML := Lib.hid (madeL_len gs hs)
  have HFW := Lib.hid (made_few gs hs)
  have HMK := Lib.hid (fun W (hb' : Below w.heap.size w W) => refMade10_any _ _ gs hs W (ha.below hb') (hb.below hb'))
  clear ha hb
  generalize madeL gs hs = ml at HMK HOK HML HFW HBU ⊢
  go_enter Tryz.func7, Tryz.ntmps7
  go_wp2_with fail
  go_at_call 8
  refine HBU.out.mono ?_
  rintro e w1 ⟨v, u, ds, rfl, hvV, hds, hk⟩
  have HVV : Hid (v.V = foldV ml) := Lib.hid (hvV.trans hds)
  obtain ⟨Au, cu, rfl, -⟩ := id (show DsS w1 u ds from hk.is List.mem_cons_self).1
  have HK2 : Hid (Kv C w (w1.alloc (.cells #[.slice Au ds.length cu] 28)) [v] []) := Lib.hid ((show Kv C w w1 [v] [] from hk.less (fun t ht => by cases ht)).later (below_new w1 _))
  clear hvV hds hk HBU
  go_wp2_with fail
  generalize World.alloc _ _ = w2 at HK2 ⊢
  have HQ := Lib.hid (viewNew_any HK2.out)
  go_at_call 46
  refine HQ.out.mono ?_
  rintro e w3 ⟨x0, rfl, hx0, hk3⟩
  have HK3 := Lib.hid (two_views hk3)
  have HX0 := Lib.hid hx0
  clear hk3 hx0 HQ HK2
  go_wp2_with fail
  go_at_call 47
  refine (HMK.out _ HK3.out.below).mono ?_
  rintro e w4 ⟨vl, zs, rfl, hes, hev, hm, hb4, hft⟩
  have HK4 := Lib.hid (show Kv C w w4 [v, x0] [Th.evs vl zs] from HK3.out.add (t := Th.evs vl zs) hb4 hes (fun k hk => .inl (hft k hk)))
  obtain ⟨Al, cl, rfl, -, hcl, -⟩ := id hes.1
  unfold maxLen at hcl
  subst hev
  have hzl : zs.length ≤ 18 := by rw [← evs_len]; exact HML.out
  clear hes hm hb4 hft HMK HK3
  go_wp2_with fail
  go_loopw [9] (fun i wr => ∃ k : Nat, i = .int .i64 (k : Int) ∧ k ≤ 9 ∧ Hid (∃ x, x.g = x0.g ∧ OrdV (evs zs) x.V ∧ InV (evs zs) x.V k ∧ Kv C w wr [v, x] [Th.evs (.slice Al zs.length cl) zs])) (fun i _ => 9 - (intOf i).toNat)
  case atStart => exact ⟨0, rfl, Nat.zero_le _, Lib.hid ⟨x0, rfl, by rw [HX0.out]; exact OrdV.nil, by rw [HX0.out]; exact InV.start, HK4.out⟩⟩
  case round =>
    obtain ⟨k, rfl, hk9, HL⟩ := hrel
    obtain ⟨w0, hw0⟩ : ∃ w0, w0 = wr := ⟨_, rfl⟩
    subst hw0
    clear HK4
    by_cases h1 : k < 9
    · have q1 : decide ((k : Int) < 9) = true := decide_eq_true (by omega)
      have q2 : IntKind.i64.wrap ((zs.length : Int) - 1) = (zs.length : Int) - 1 := IntWalk.i64_in _ (by omega)
      go_wp2_with fail
      go_loopw [10] (fun i wr => ∃ (c : Nat) (z : Int), i = .int .i64 z ∧ z = (c : Int) - 1 ∧ c ≤ zs.length ∧ Hid (∃ x, x.g = x0.g ∧ OrdV (evs zs) x.V ∧ InV (evs zs) x.V k ∧ CameV (evs zs) x.V k c ∧ Kv C w wr [v, x] [Th.evs (.slice Al zs.length cl) zs])) (fun i _ => (intOf i + 1).toNat)
      case atStart =>
        obtain ⟨x, hg, ho, hi, hk⟩ := HL.out
        exact ⟨zs.length, _, rfl, rfl, Nat.le_refl _, Lib.hid ⟨x, hg, ho, hi, by rw [← evs_len]; exact CameV.start, hk⟩⟩
      case round =>
        clear HL
        obtain ⟨c, z, rfl, hz, hcl', HL⟩ := hrel
        obtain ⟨x, hg, ho, hi, hc, hk⟩ := HL.out
        have HG := Lib.hid hg
        have HO := Lib.hid ho
        have HI := Lib.hid hi
        have HC := Lib.hid hc
        have HK := Lib.hid hk
        clear HL hg ho hi hc hk
        by_cases h0 : 0 < c
        · obtain ⟨d, rfl⟩ : ∃ d, c = d + 1 := ⟨c - 1, by omega⟩
          obtain rfl : z = (d : Int) := by omega
          clear hz
          have q3 : decide ((0 : Int) ≤ (d : Int)) = true := decide_eq_true (by omega)
          have hdl : d < zs.length := by omega
          have q4 : IntKind.i64.wrap ((d : Int) - 1) = (d : Int) - 1 := IntWalk.i64_in _ (by omega)
          have hx : zs[d]? = some zs[d] := List.getElem?_eq_getElem hdl
          generalize zs[d] = y at hx
          have HES := Lib.hid (show EvsS wr (.slice Al zs.length cl) zs from HK.out.is List.mem_cons_self)
          have HYD : Hid ((evs zs)[d]? = some y.ev) := Lib.hid (evs_get hx)
          have HYM : Hid (y.ev ∈ evs zs) := Lib.hid (List.mem_of_getElem? (evs_get hx))
          obtain ⟨b2, f2, hA, hb2, hr2⟩ := ev_at HES.out hx
          have hi2 := index_any (P := Tryz.prog) knV (by decide) (b := b2) (off := f2) (cap := cl) hdl
          simp only [LV] at hi2
          rw [← hA] at hi2
          obtain ⟨e0, e1, e2, e3, e4, e5⟩ := ev_cells hr2
          unfold EvV.pv at e2
          have HVO : Hid (VOk 99 x.V) := Lib.hid (HO.out.ok.mono (by rw [evs_len]; omega))
          have HRM : Hid (y.ev.room.size ≤ 40) := Lib.hid (by
            obtain ⟨i, hi⟩ := List.getElem?_of_mem HYM.out
            exact (may_short (err_zero (HOK.out i _ hi)).1).2.1)
          have HKX := Lib.hid (HK.out.with (t := Th.ev y) (HES.out.2 y (List.mem_of_getElem? hx)) (fun k' hk' jj u hu => (HK.out.th _ List.mem_cons_self).2 jj u hu k' (.inr ⟨y, List.mem_of_getElem? hx, hk'⟩)))
          have HQ := Lib.hid (viewAdd_any CR HKX.out (i := 1) rfl HVO.out y List.mem_cons_self HRM.out)
          rw [HG.out] at HQ
          unfold EvV.val EvV.pv at HQ
          have HNO := Lib.hid (HO.out.add HYM.out)
          have HNI := Lib.hid (HI.out.stays (e := y.ev) HO.out)
          have HNC := Lib.hid (CameV.step HOK.out HO.out HI.out HC.out HYD.out)
          have hcases := HO.out.err HOK.out HYM.out
          clear hx hA hb2 hr2 HO HI HC HES HKX HVO
          generalize addV x.V y.ev = V' at HQ HNO HNI HNC
          generalize errV x.V y.ev = er at hcases HQ
          rcases hcases with hcase | hcase | hcase
          · rw [hcase] at HQ
            clear hcase
            go_wp2_with fail
            go_at_call 13
            refine HQ.out.mono ?_
            rintro e w4 ⟨x', rfl, hg', hV', hk4⟩
            have HN4 : Hid (∃ x, x.g = x0.g ∧ OrdV (evs zs) x.V ∧ InV (evs zs) x.V k ∧ CameV (evs zs) x.V k d ∧ Kv C w w4 [v, x] [Th.evs (.slice Al zs.length cl) zs]) := Lib.hid ⟨x', hg', by rw [hV']; exact HNO.out, by rw [hV']; exact HNI.out, by rw [hV']; exact HNC.out, hk4.less (fun t ht => List.mem_cons_of_mem _ ht)⟩
            clear hg' hV' hk4 HQ e0 e1 e2 e3 e4 e5 HNO HNI HNC
            go_wp2_with fail
            refine ⟨⟨d, _, by first | rfl | go_num, rfl, by omega, HN4⟩, ?_⟩
            simp [intOf]
          · rw [hcase] at HQ
            clear hcase
            go_wp2_with fail
            go_at_call 13
            refine HQ.out.mono ?_
            rintro e w4 ⟨x', rfl, hg', hV', hk4⟩
            have HN4 : Hid (∃ x, x.g = x0.g ∧ OrdV (evs zs) x.V ∧ InV (evs zs) x.V k ∧ CameV (evs zs) x.V k d ∧ Kv C w w4 [v, x] [Th.evs (.slice Al zs.length cl) zs]) := Lib.hid ⟨x', hg', by rw [hV']; exact HNO.out, by rw [hV']; exact HNI.out, by rw [hV']; exact HNC.out, hk4.less (fun t ht => List.mem_cons_of_mem _ ht)⟩
            clear hg' hV' hk4 HQ e0 e1 e2 e3 e4 e5 HNO HNI HNC
            go_wp2_with fail
            refine ⟨⟨d, _, by first | rfl | go_num, rfl, by omega, HN4⟩, ?_⟩
            simp [intOf]
          · rw [hcase] at HQ
            clear hcase
            go_wp2_with fail
            go_at_call 13
            refine HQ.out.mono ?_
            rintro e w4 ⟨x', rfl, hg', hV', hk4⟩
            have HN4 : Hid (∃ x, x.g = x0.g ∧ OrdV (evs zs) x.V ∧ InV (evs zs) x.V k ∧ CameV (evs zs) x.V k d ∧ Kv C w w4 [v, x] [Th.evs (.slice Al zs.length cl) zs]) := Lib.hid ⟨x', hg', by rw [hV']; exact HNO.out, by rw [hV']; exact HNI.out, by rw [hV']; exact HNC.out, hk4.less (fun t ht => List.mem_cons_of_mem _ ht)⟩
            clear hg' hV' hk4 HQ e0 e1 e2 e3 e4 e5 HNO HNI HNC
            go_wp2_with fail
            refine ⟨⟨d, _, by first | rfl | go_num, rfl, by omega, HN4⟩, ?_⟩
            simp [intOf]
        · obtain rfl : c = 0 := by omega
          have q3 : decide ((0 : Int) ≤ z) = false := decide_eq_false (by omega)
          have HN : Hid (∃ x, x.g = x0.g ∧ OrdV (evs zs) x.V ∧ InV (evs zs) x.V (k + 1) ∧ Kv C w wr [v, x] [Th.evs (.slice Al zs.length cl) zs]) := Lib.hid ⟨x, HG.out, HO.out, HI.out.next HC.out, HK.out⟩
          clear hz
          go_wp2_with fail
          refine ⟨⟨k + 1, by go_num, by omega, HN⟩, ?_⟩
          simp [intOf]; omega
    · have q1 : decide ((k : Int) < 9) = false := decide_eq_false (by omega)
      obtain rfl : k = 9 := by omega
      obtain ⟨x, hg, ho, hi, hk⟩ := HL.out
      have HSM := Lib.hid (order_same HOK.out HFW.out ho hi)
      have HQ := Lib.hid (viewSame_any CA CS hk (i := 0) (j := 1) rfl rfl)
      rw [hg, HVV.out, HSM.out.1] at HQ
      have HQ2 := Lib.hid (fun W (hw : Kv C w W [v, x] [Th.evs (.slice Al zs.length cl) zs]) => viewSame_any CA CS hw (i := 1) (j := 0) rfl rfl)
      rw [hg, HVV.out, HSM.out.2] at HQ2
      have HZ := Lib.hid (fun W (hw : Kv C w W [v, x] [Th.evs (.slice Al zs.length cl) zs]) => lives10_any CR hw)
      clear hg ho hi hk HL
      go_wp2_with fail
      go_at_call 44
      refine HQ.out.mono ?_
      rintro e w5 ⟨rfl, hk5⟩
      have HK5 := Lib.hid hk5
      clear hk5 HQ
      go_wp2_with fail
      go_at_call 44
      refine (HQ2.out _ HK5.out).mono ?_
      rintro e w6 ⟨rfl, hk6⟩
      have HK6 := Lib.hid hk6
      clear hk6 HQ2 HK5
      go_wp2_with fail
      go_at_call 22
      refine (HZ.out _ HK6.out).mono ?_
      rintro e w7 ⟨rfl, hk7⟩
      have HK7 := Lib.hid hk7
      clear hk7 HZ HK6
      go_wp2_with fail
      go_ret
      exact ⟨rfl, HK7.out.below⟩
end
end Go.Proofs.YtjiecjpepiknmaaGreat
