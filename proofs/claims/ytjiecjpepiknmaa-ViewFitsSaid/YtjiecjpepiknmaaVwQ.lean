/-
  A view of made rooms, of both; the document's example (stage 10's statements).
-/
import Derived.Test.YtjiecjpepiknmaaVwO
import Derived.Test.YtjiecjpepiknmaaVwE
namespace Go.Proofs.Ytjiecjpepiknmaa
set_option maxRecDepth 20000
open Go.RowKit
set_option linter.unusedVariables false
set_option linter.unusedSimpArgs false
section
variable {C : Dags} {w wr w' : World} {vs : List VI} {ts : List Th} {v : VI} {i : Nat}
theorem vw_thing {va : Value} {zs : List EvV} {u : Value} {ds : List DV} (h : Kv C w wr vs (Th.evs va zs :: ts)) (hb : Below wr.heap.size wr w') (hd : DsS w' u ds) (hf : ∀ k, footD u ds k → footE va zs k ∨ wr.heap.size ≤ k) : Kv C w w' vs (Th.vw u ds :: ts) :=
  (h.add (t := Th.vw u ds) hb hd (fun k hk => (hf k hk).elim (fun hh => .inr ⟨Th.evs va zs, List.mem_cons_self, hh⟩) .inl)).less (fun t ht => by
    rcases List.mem_cons.1 ht with rfl | ht
    · exact List.mem_cons_self
    · exact List.mem_cons_of_mem _ (List.mem_cons_of_mem _ ht))

set_option maxHeartbeats 6400000 in
theorem build10_any (CR : DagRms C) (va vb : Value) (gs hs : List GV) (h : Kv C w wr vs ts) (ha : GsS wr va gs) (hb : GsS wr vb hs) :
    Calls Try.prog 4 #[va, vb] wr fun e w' => ∃ (v : VI) (u : Value) (ds : List DV), e = .returned (.tuple #[.pointer (some ⟨v.g, 0, none⟩), .agg #[u]]) ∧ v.V = vws ds ∧ vws ds = foldV (madeL gs hs) ∧ Kv C w w' (vs ++ [v]) (Th.vw u ds :: ts) := by
  obtain ⟨wb, hwb⟩ : ∃ wb, wb = wr := ⟨_, rfl⟩
  subst hwb
  have HA := Lib.hid ha
  have HB := Lib.hid hb
  have HTS : Hid (∀ t ∈ ts, ∀ k, t.P k → k < wb.heap.size) := Lib.hid (fun t ht k hk => t.lt wb k (h.is ht) hk)
  have HWB : Hid (w.heap.size ≤ wb.heap.size) := Lib.hid h.below.size
  have HK := Lib.hid (show Kv C w (wb.alloc (.cells #[.slice none 0 0] 26)) vs (Th.box wb.heap.size (.cells #[.slice none 0 0] 26 (0, 0)) :: ts) from h.add (t := Th.box wb.heap.size (.cells #[.slice none 0 0] 26 (0, 0))) (below_new wb _) (heap_alloc_new wb _) (fun k hk => .inl (Nat.le_of_eq hk.symm)))
  have hbn := below_new wb (.cells #[.slice none 0 0] 26)
  have HMK := Lib.hid (refMade10_any va vb gs hs _ (ha.below hbn) (hb.below hbn))
  obtain ⟨Aa, ca, rfl, -⟩ := id ha.1
  obtain ⟨Ab, cb, rfl, -⟩ := id hb.1
  have HOK := Lib.hid (madeL_ok gs hs)
  have HML := Lib.hid (madeL_len gs hs)
  clear h ha hb hbn
  generalize madeL gs hs = ml at HMK HOK HML ⊢
  go_enter Try.func4, Try.ntmps4
  go_upto_region 1 with (fail)
  generalize World.alloc _ _ = w0 at HK HMK ⊢
  have HB5 : Hid (wb.heap.size ≤ wb.heap.size) := Lib.hid (Nat.le_refl _)
  generalize hB5 : wb.heap.size = B5 at HK HTS HWB HB5 ⊢
  clear hB5 HB5
  go_wp2_with fail
  go_at_call 12
  refine HMK.out.mono ?_
  rintro e w1 ⟨vl, zs, rfl, hes, hev, hm, hb1, hft⟩
  have HK1 := Lib.hid (show Kv C w w1 vs (Th.evs vl zs :: Th.box B5 (.cells #[.slice none 0 0] 26 (0, 0)) :: ts) from HK.out.add (t := Th.evs vl zs) hb1 hes (fun k hk => .inl (hft k hk)))
  obtain ⟨Al, cl, rfl, -, hcl, -⟩ := id hes.1
  unfold maxLen at hcl
  have HEV := Lib.hid hev
  have hzl : zs.length ≤ 18 := by rw [← evs_len, hev]; exact HML.out
  have HFZ : Hid (∀ k, footE (.slice Al zs.length cl) zs k → k ≠ B5) := Lib.hid (fun k hk e => by
    have h1 := hft k hk
    have h2 := smem_lt (show w0.heap[B5]? = _ from HK.out.is List.mem_cons_self)
    omega)
  clear hes hev hm hb1 hft HMK HK
  have HQ := Lib.hid (viewNew_any HK1.out)
  go_wp2_with fail
  go_at_call 13
  refine HQ.out.mono ?_
  rintro e w2 ⟨v0, rfl, hv0, hk2⟩
  have HK2 := Lib.hid hk2
  have HV0 := Lib.hid hv0
  clear hk2 hv0 HQ HK1
  go_wp2_with fail
  go_loopw [8] (fun x wr => ∃ a : Nat, x = .int .i64 (a : Int) ∧ a ≤ zs.length ∧ Hid (∃ v, v.g = v0.g ∧ v.V = foldV ((evs zs).take a) ∧ Kv C w wr (vs ++ [v]) (Th.evs (.slice Al zs.length cl) zs :: Th.box B5 (.cells #[.slice none 0 0] 26 (0, 0)) :: ts))) (fun x _ => zs.length - (intOf x).toNat)
  case atStart => exact ⟨0, rfl, Nat.zero_le _, Lib.hid ⟨v0, rfl, HV0.out, HK2.out⟩⟩
  case round =>
    clear HK2
    obtain ⟨a, rfl, ha, HY⟩ := hrel
    obtain ⟨v, hvg, hvV, hk⟩ := HY.out
    have HVG := Lib.hid hvg
    have HVV := Lib.hid hvV
    have HK := Lib.hid hk
    clear HY hvg hvV hk
    have hlast : (vs ++ [v])[vs.length]? = some v := by simp
    have HLAST := Lib.hid hlast
    clear hlast
    have HES := Lib.hid (show EvsS wr (.slice Al zs.length cl) zs from HK.out.is List.mem_cons_self)
    by_cases hax : a < zs.length
    · have q1 : decide ((a : Int) < (zs.length : Int)) = true := decide_eq_true (by omega)
      have hx : zs[a]? = some zs[a] := List.getElem?_eq_getElem hax
      generalize zs[a] = x at hx
      have HX := Lib.hid hx
      obtain ⟨b, off, hA, hb, hrg⟩ := ev_at HES.out hx
      have hix := index_any (P := Try.prog) knV (by decide) (b := b) (off := off) (cap := cl) hax
      simp only [LV] at hix
      rw [← hA] at hix
      obtain ⟨e0, e1, e2, e3, e4, e5⟩ := ev_cells hrg
      unfold EvV.pv at e2
      have HER : Hid (errV v.V x.ev = 0) := Lib.hid (by
        rw [HVV.out, HEV.out]
        refine allOk_err HOK.out ?_
        rw [← HEV.out]
        exact evs_get hx)
      have HNX : Hid (foldV ((evs zs).take (a + 1)) = addV v.V x.ev) := Lib.hid (by
        rw [HVV.out]
        exact foldV_take (evs_get hx))
      have HVO : Hid (VOk 99 v.V) := Lib.hid (by
        rw [HVV.out]
        exact (foldV_ok _).mono (by rw [List.length_take, evs_len]; omega))
      have HRM : Hid (x.ev.room.size ≤ 40) := Lib.hid (by
        have h1 := HER.out
        unfold errV at h1
        exact (may_short (err_zero h1).1).2.1)
      have HKX := Lib.hid (HK.out.with (t := Th.ev x) (HES.out.2 x (List.mem_of_getElem? hx)) (fun k hk jj y hy => (HK.out.th _ List.mem_cons_self).2 jj y hy k (.inr ⟨x, List.mem_of_getElem? hx, hk⟩)))
      have HQ := Lib.hid (viewAdd_any CR HKX.out HLAST.out HVO.out x List.mem_cons_self HRM.out)
      rw [HER.out, HVG.out] at HQ
      unfold EvV.val EvV.pv at HQ
      clear hx hA hb hrg
      go_wp2_with fail
      go_at_call 14
      refine HQ.out.mono ?_
      rintro e w4 ⟨v', rfl, hg', hV', hk4⟩
      have HN4 : Hid (∃ v, v.g = v0.g ∧ v.V = foldV ((evs zs).take (a + 1)) ∧ Kv C w w4 (vs ++ [v]) (Th.evs (.slice Al zs.length cl) zs :: Th.box B5 (.cells #[.slice none 0 0] 26 (0, 0)) :: ts)) := Lib.hid ⟨v', hg', hV'.trans HNX.out.symm, by
        have h9 := hk4.less (ts' := Th.evs (.slice Al zs.length cl) zs :: Th.box B5 (.cells #[.slice none 0 0] 26 (0, 0)) :: ts) (fun t ht => List.mem_cons_of_mem _ ht)
        have h8 : (vs ++ [v]).set vs.length v' = vs ++ [v'] := by simp
        rw [h8] at h9
        exact h9⟩
      clear hg' hV' hk4 HQ e0 e1 e2 e3 e4 e5
      go_wp2_with fail
      refine ⟨⟨a + 1, by go_num, by omega, HN4⟩, ?_⟩
      simp [intOf]; omega
    · have q1 : decide ((a : Int) < (zs.length : Int)) = false := decide_eq_false (by omega)
      have HBU := Lib.hid (refBuild10_any (.slice Al zs.length cl) zs wr HES.out (by omega))
      have HTK : Hid ((evs zs).take a = evs zs) := Lib.hid (List.take_of_length_le (by rw [evs_len]; omega))
      go_wp2_with fail
      go_at_call 15
      refine HBU.out.mono ?_
      rintro e w4 ⟨u, ds, rfl, hds, hvw, hft, hb4⟩
      obtain ⟨Au, cu, rfl, -⟩ := id hds.1
      have HK4 := Lib.hid (show Kv C w w4 (vs ++ [v]) (Th.vw (.slice Au ds.length cu) ds :: Th.box B5 (.cells #[.slice none 0 0] 26 (0, 0)) :: ts) from vw_thing HK.out hb4 hds hft)
      have HVW := Lib.hid hvw
      have HFT : Hid (∀ k, footD (.slice Au ds.length cu) ds k → k ≠ B5) := Lib.hid (fun k hk e => by
        rcases hft k hk with hh | hh
        · exact HFZ.out k hh e
        · have h2 := smem_lt (show wr.heap[B5]? = _ from HK.out.is (List.mem_cons_of_mem _ List.mem_cons_self))
          omega)
      have HB5 := Lib.hid (HK4.out.is (List.mem_cons_of_mem _ List.mem_cons_self))
      have y0 : w4.cell? ⟨B5, 0, none⟩ = some (.slice none 0 0) := cell_at HB5.out 0
      have z0 : w4.frozen? ⟨B5, 0, none⟩ = false := free_at HB5.out 0
      have HAN := Lib.hid (one_at HB5.out (.slice Au ds.length cu) _ rfl)
      clear hds hvw hft hb4 HBU
      go_wp2_with fail
      clear y0 z0
      generalize World.setCell _ _ _ = w9 at HAN ⊢
      have s0 : w9.cell? ⟨B5, 0, none⟩ = some (.slice Au ds.length cu) := cell_at HAN.out.1 0
      refine bodyPost_ret (v := .tuple #[.pointer (some ⟨v0.g, 0, none⟩), .agg #[.slice Au ds.length cu]]) ?_ rfl ?_
      · simp [results, Try.results4, go_sem, s0]
      · refine ⟨v, _, ds, by rw [HVG.out], ?_, ?_, ?_⟩
        · rw [HVV.out, HTK.out, HVW.out]
        · rw [HVW.out, HEV.out]
        · have h9 := HK4.out.swap.put (t' := Th.box B5 (.cells #[.slice Au ds.length cu] 26 (0, 0))) HAN.out.2 (fun k hk => by
            injection hk with hk
            subst hk
            refine ⟨rfl, HWB.out, fun t ht hp => ?_⟩
            rcases List.mem_cons.1 ht with rfl | ht
            · exact HFT.out _ hp rfl
            · have := HTS.out t ht _ hp
              omega) HAN.out.1 (fun k hk => .inl hk)
          exact h9.less (fun t ht => List.mem_cons_of_mem _ ht)

def rmS : ByteArray := ⟨#[33, 114, 58, 115]⟩
def usS : ByteArray := ⟨#[64, 97, 58, 115]⟩
def idT : ByteArray := ⟨#[36, 116]⟩
def idU : ByteArray := ⟨#[36, 117]⟩
def idX : ByteArray := ⟨#[36, 120]⟩
def evT : Ev := ⟨idT, rmS, [], ⟨#[]⟩, usS, 0⟩
def evU : Ev := ⟨idU, rmS, [], idT, usS, 0⟩
theorem ex_adds : addV [] evT = [(rmS, [evT])] ∧ addV [(rmS, [evT])] evU = [(rmS, [evT, evU])] := by decide +kernel
theorem ex_fits : fitsL (ofL [(rmS, [evT, evU])] rmS) idU idT = 0 ∧ fitsL (ofL [(rmS, [evT, evU])] rmS) idU mainS = 7 ∧ fitsL (ofL [(rmS, [evT, evU])] rmS) idT mainS = 0 ∧ fitsL (ofL [(rmS, [evT, evU])] rmS) idU ⟨#[]⟩ = 0 ∧ fitsL (ofL [(rmS, [evT, evU])] rmS) idX ⟨#[]⟩ = 4 := by decide +kernel
theorem lone_ev (h : Kv C w wr vs ts) (e : Ev) (hp : e.parents = []) (hk : e.ok) : Kv C w wr vs (Th.ev ⟨e, none, 0⟩ :: ts) := h.with (t := Th.ev ⟨e, none, 0⟩) ⟨by unfold EvV.pv; simp only [hp]; exact .nil _, hk⟩ (fun k hk jj y hy => by
  have := hk.1
  simp only [hp] at this
  exact absurd this (Nat.lt_irrefl 0))

set_option maxHeartbeats 3200000 in
theorem lives10_any (CR : DagRms C) (h : Kv C w wr vs ts) : Calls Try.prog 11 #[] wr fun e w' => e = .returned (.bool true) ∧ Kv C w w' vs ts := by
  have HK := Lib.hid h
  have HQ := Lib.hid (viewNew_any (Kv.start (C := C) wr))
  clear h
  go_enter Try.func11, Try.ntmps11
  go_wp2_with fail
  go_at_call 13
  refine HQ.out.mono ?_
  rintro e w1 ⟨v0, rfl, hv0, hk⟩
  have HK1 := Lib.hid (lone_ev hk evT rfl (by unfold Ev.ok maxLen; decide))
  have HA := Lib.hid (viewAdd_any CR HK1.out (i := 0) rfl (by rw [hv0]; exact VOk.nil.mono (by decide)) ⟨evT, none, 0⟩ List.mem_cons_self (by decide))
  have HV0 := Lib.hid hv0
  clear hk hv0 HQ
  go_wp2_with fail
  go_at_call 14
  refine HA.out.mono ?_
  rintro e w2 ⟨v1, rfl, hg1, hv1, hk⟩
  rw [HV0.out, ex_adds.1] at hv1
  have HK2 := Lib.hid (lone_ev (show Kv C wr w2 [v1] [] from hk.less (fun t ht => by cases ht)) evU rfl (by unfold Ev.ok maxLen; decide))
  have HA2 := Lib.hid (viewAdd_any CR HK2.out (i := 0) rfl (by rw [hv1, ← ex_adds.1]; exact (addV_ok VOk.nil).mono (by decide)) ⟨evU, none, 0⟩ List.mem_cons_self (by decide))
  have HG1 := Lib.hid hg1
  have HV1 := Lib.hid hv1
  rw [hg1] at HA2
  clear hk hg1 hv1 HA
  go_wp2_with fail
  go_at_call 14
  refine HA2.out.mono ?_
  rintro e w3 ⟨v2, rfl, hg2, hv2, hk⟩
  rw [HV1.out, ex_adds.2] at hv2
  have HK3 := Lib.hid (show Kv C wr w3 [v2] [] from hk.less (fun t ht => by cases ht))
  have HF := Lib.hid (fun W (hw : Kv C wr W [v2] []) (id t : ByteArray) (hu : id.size ≤ maxLen) => viewFits_any hw (i := 0) rfl rmS id t (by decide) hu)
  rw [hv2, hg2] at HF
  clear hk hg2 hv2 HA2
  have HQ := Lib.hid (HF.out w3 HK3.out idU idT (by decide))
  rw [ex_fits.1] at HQ
  go_wp2_with fail
  go_at_call 9
  refine HQ.out.mono ?_
  rintro e w4 ⟨rfl, hk4⟩
  have HK4 := Lib.hid hk4
  clear hk4 HQ
  have HQ := Lib.hid (HF.out w4 HK4.out idU mainS (by decide))
  rw [ex_fits.2.1] at HQ
  go_wp2_with fail
  go_at_call 9
  refine HQ.out.mono ?_
  rintro e w5 ⟨rfl, hk5⟩
  have HK5 := Lib.hid hk5
  clear hk5 HQ
  have HQ := Lib.hid (HF.out w5 HK5.out idT mainS (by decide))
  rw [ex_fits.2.2.1] at HQ
  go_wp2_with fail
  go_at_call 9
  refine HQ.out.mono ?_
  rintro e w6 ⟨rfl, hk6⟩
  have HK6 := Lib.hid hk6
  clear hk6 HQ
  have HQ := Lib.hid (HF.out w6 HK6.out idU ⟨#[]⟩ (by decide))
  rw [ex_fits.2.2.2.1] at HQ
  go_wp2_with fail
  go_at_call 9
  refine HQ.out.mono ?_
  rintro e w7 ⟨rfl, hk7⟩
  have HK7 := Lib.hid hk7
  clear hk7 HQ
  have HQ := Lib.hid (HF.out w7 HK7.out idX ⟨#[]⟩ (by decide))
  rw [ex_fits.2.2.2.2] at HQ
  go_wp2_with fail
  go_at_call 9
  refine HQ.out.mono ?_
  rintro e w8 ⟨rfl, hk8⟩
  have HK8 := Lib.hid (HK.out.later hk8.below)
  clear hk8 HQ
  go_wp2_with fail
  go_ret
  exact ⟨rfl, HK8.out⟩
end
end Go.Proofs.Ytjiecjpepiknmaa
