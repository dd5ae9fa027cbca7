/-
  The statement MarksWait.
-/
import Derived.Test.YtnnapkakbdpkaaaGreatZA29
import Derived.Test.YtnnapkakbdpkaaaGreatZA30
set_option linter.unusedVariables false
set_option linter.unusedSimpArgs false
namespace Go.Proofs.YtnnapkakbdpkaaaGreat
set_option maxRecDepth 20000
open Go.RowKit
theorem allOk_takeW {es : List Ev} (h : AllOk es) (n : Nat) : AllOk (es.take n) := fun i e he => by
 rw [List.getElem?_take] at he
 split at he
 ·have := h i e he
  rw [List.take_take, Nat.min_eq_left (by omega)]
  exact this
 ·cases he
theorem allOk_errW {es : List Ev} (h : AllOk es) {i : Nat} {e : Ev} (he : es[i]? = some e) : errV (foldV (es.take i)) e = 0 := by
 unfold errV
 rw [foldV_ofL _ (allOk_takeW h i)]
 exact h i e he
theorem allOk_one {r : ByteArray} {l : List Ev} (h : Valid r l) (hr : r ≠ roomS 1) : AllOk l := by
 have h2 := allOk_two h (valid_nil (roomS 1)) hr
 rw [List.append_nil] at h2
 exact h2
theorem put_first (r : Edu) : (⟨4, [], 0⟩ : Pk).put r = ⟨4, [r], 0⟩ := rfl
theorem put_again (r : Edu) : (⟨4, [r], 0⟩ : Pk).put r = ⟨4, [r], 0⟩ := (Pk.put_has (hasP_iff.2 List.mem_cons_self)).1
theorem took_one (r : Edu) : (⟨4, [r], 0⟩ : Pk).took r.room r.event = [r] ∧ (⟨4, [r], 0⟩ : Pk).take r.room r.event = ⟨4, [], 0⟩ := by
 unfold Pk.took Pk.take
 simp [isOf]
theorem arr_one {V : Vw} {r : Edu} (h : hasE (ofL V r.room) r.event = true) : (⟨[], ⟨4, [r], 0⟩⟩ : Ms).arr V r.room r.event = if fitV V r = 0 then (⟨[markE V r], ⟨4, [], 0⟩⟩, [r]) else (⟨[], ⟨4, [], 0⟩⟩, []) := by
 rw [Ms.arr_yes h, (took_one r).1, (took_one r).2]
 unfold arrF arrS Ms.tk Ms.tkOn
 simp only [List.foldl_cons, List.foldl_nil]
 by_cases hf : fitV V r = 0
 ·rw [if_pos hf, if_pos hf, decide_eq_true hf]
  rfl
 ·rw [if_neg hf, if_neg hf, decide_eq_false hf]
  rfl
theorem put_one {V : Vw} {r : Edu} (hm : mayR r = true) (h : hasE (ofL V r.room) r.event = true) : (⟨[], ⟨4, [], 0⟩⟩ : Ms).put V r = (if fitV V r = 0 then ⟨[markE V r], ⟨4, [], 0⟩⟩ else ⟨[], ⟨4, [], 0⟩⟩) ∧ (⟨[], ⟨4, [], 0⟩⟩ : Ms).on V r = decide (fitV V r = 0) ∧ Ms.err V r = fitV V r ∧ (fitV V r = 0 ∨ fitV V r = 7) := by
 have h4 : fitV V r ≠ 4 := fun hh => by rw [fit_known.1 hh] at h; cases h
 rcases fit_cases V r with h0 | h0 | h0
 ·obtain ⟨a, b, c⟩ := Ms.put_in (s := ⟨[], ⟨4, [], 0⟩⟩) hm h0
  rw [a, b, c, if_pos h0, decide_eq_true h0, h0]
  exact ⟨rfl, rfl, rfl, .inl rfl⟩
 ·exact absurd h0 h4
 ·have h1 : fitV V r ≠ 0 := by omega
  obtain ⟨a, b, c⟩ := Ms.put_odd (s := ⟨[], ⟨4, [], 0⟩⟩) hm h4 h1
  rw [a, b, c, if_neg h1, decide_eq_false h1]
  exact ⟨rfl, rfl, rfl, .inr h0⟩
set_option maxHeartbeats 6400000 in
theorem marksWait_walk (va : Value) (gs : List GV) (kk : Int) (e : Edu) (w : World) (ha : GsS w va gs) (hk0 : -9223372036854775808 ≤ kk) (hk1 : kk ≤ 9223372036854775807) (he : e.well) : Calls Tryz.prog 6 #[va, .int .i64 kk, e.val] w fun x w' => x = .returned (.bool true) ∧ Below w.heap.size w w' := by
 have HWT := Lib.hid (fun W => waits_any e W he)
 have HLV := Lib.hid (fun W => lives13_any W)
 have HRO := Lib.hid (fun W => roomOf_any 0 W (by omega) (by omega))
 have HMD := Lib.hid (fun W (hb : Below w.heap.size w W) => refMade_any (roomS 0) va gs W (ha.below hb) (roomS_room 0))
 have HWI := Lib.hid (waitE_is e)
 have HWS := Lib.hid (wait_small e)
 have HROW := Lib.hid (made_rows 0 gs)
 generalize waitE e = r0 at *
 generalize madeTo (roomS 0) (gps gs) (min gs.length 9) = LL at *
 have HB0 := Lib.hid (below_new w (.cells e.cells.toArray 43))
 have hb0 := heap_alloc_new w (.cells e.cells.toArray 43)
 obtain ⟨sp, hsp⟩ : ∃ n, e.span = n := ⟨_, rfl⟩
 clear ha he hsp
 obtain ⟨k, r, u, z, t, pr, o, s, y, c, m⟩ := e
 obtain ⟨xk, xr, xu, xz, xt, xp, xo, xs, xy, xc, xm⟩ := r0
 simp only [Edu.val, Edu.cells] at HWT HB0 hb0 ⊢
 go_enter Tryz.func6, Tryz.ntmps6
 go_upto_region 1 with (fail)
 generalize World.alloc _ _ = w1 at HB0 hb0 ⊢
 generalize w.heap.size = g5 at hb0 ⊢
 have HE5 := Lib.hid hb0
 clear hb0
 go_wp2_with fail
 go_at_call 32
 refine (HRO.out _).mono ?_
 rintro b w2 ⟨rfl, hb⟩
 have HB2 := Lib.hid (HB0.out.trans (hb.mono HB0.out.size))
 have HE52 := Lib.hid ((hb.block _ (smem_lt HE5.out)).trans HE5.out)
 clear hb HB0 HE5
 go_wp2_with fail
 go_at_call 31
 refine (HMD.out _ HB2.out).mono ?_
 rintro b w3 ⟨v7, zs, rfl, hes, hzs, hb, -⟩
 obtain ⟨Az, cz, rfl, hz1, hz2, -⟩ := id hes.1
 unfold maxLen at hz2
 have HB3 := Lib.hid (HB2.out.trans (hb.mono HB2.out.size))
 have HE53 := Lib.hid ((hb.block _ (smem_lt HE52.out)).trans HE52.out)
 have HES := Lib.hid hes
 have HZS := Lib.hid hzs
 clear hb hes hzs HB2 HE52 HMD HRO
 go_upto_region 2 with (fail)
 have h7 := heap_alloc_new w3 (.cells #[.string (roomS 0), .slice Az zs.length cz] 93)
 have hb7 := below_new w3 (.cells #[.string (roomS 0), .slice Az zs.length cz] 93)
 have HB4 := Lib.hid (HB3.out.trans (hb7.mono HB3.out.size))
 have HE54 := Lib.hid ((hb7.block _ (smem_lt HE53.out)).trans HE53.out)
 have HES4 := Lib.hid (HES.out.below hb7)
 generalize World.alloc _ _ = w4 at h7 HB4 HE54 HES4 ⊢
 generalize w3.heap.size = g7 at h7 ⊢
 clear hb7 HB3 HE53 HES
 have d0 : w4.cell? ⟨g7, 0, none⟩ = some (.string (roomS 0)) := cell_at h7 0
 have d1 : w4.cell? ⟨g7, 1, none⟩ = some (.slice Az zs.length cz) := cell_at h7 1
 by_cases hz0 : zs.length = 0
 ·have q1 : ((zs.length : Int) == 0) = true := by rw [hz0]; rfl
  have q2 : decide ((zs.length : Int) = 0) = true := by rw [hz0]; rfl
  go_wp2_with fail
  go_at_call 25
  refine (HLV.out _).mono ?_
  rintro b w5 ⟨rfl, hb⟩
  have HF := Lib.hid (HB4.out.trans (hb.mono HB4.out.size))
  clear hb
  go_wp2_with fail
  go_ret
  exact ⟨rfl, HF.out⟩
 have q1 : ((zs.length : Int) == 0) = false := by rw [beq_eq_false_iff_ne]; omega
 have q2 : decide ((zs.length : Int) = 0) = false := decide_eq_false (by omega)
 obtain ⟨nl, hnl⟩ : ∃ nl, zs.length - 1 = nl := ⟨_, rfl⟩
 have hnz : nl < zs.length := by omega
 have q9 : wrap64 ((zs.length : Int) - 1) = (nl : Int) := by
  rw [show (zs.length : Int) - 1 = (nl : Int) by omega]
  go_arith
 have q10 : (zs.length : Int) - 1 = (nl : Int) := by omega
 have hx : zs[nl]? = some zs[nl] := List.getElem?_eq_getElem hnz
 generalize zs[nl] = la at hx
 obtain ⟨b2, f2, hA, hb2, hr2⟩ := ev_at HES4.out hx
 have hi2 := index_any (P := Tryz.prog) knV (by decide) (b := b2) (off := f2) (cap := cz) hnz
 simp only [LV] at hi2
 rw [← hA] at hi2
 clear hA
 obtain ⟨e0, e1, e2, e3, e4, e5⟩ := ev_cells hr2
 unfold EvV.pv at e2
 have HX := Lib.hid hx
 have HNL := Lib.hid (show zs.length = nl + 1 by omega)
 have H7 := Lib.hid h7
 have h8 := heap_alloc_new w4 (.cells #[.string la.ev.id, .string la.ev.room, .slice la.A la.ev.parents.length la.cap, .string la.ev.thread, .string la.ev.user, .int .i64 la.ev.does] 52)
 have HB8 := Lib.hid (below_new w4 (.cells #[.string la.ev.id, .string la.ev.room, .slice la.A la.ev.parents.length la.cap, .string la.ev.thread, .string la.ev.user, .int .i64 la.ev.does] 52))
 clear hx hr2 hb2 h7 hnl
 go_upto_region 5 with (fail)
 generalize World.alloc _ _ = w5 at h8 HB8 ⊢
 have H75 := Lib.hid ((HB8.out.block _ (smem_lt H7.out)).trans H7.out)
 have HE55 := Lib.hid ((HB8.out.block _ (smem_lt HE54.out)).trans HE54.out)
 have HES5 := Lib.hid (HES4.out.below HB8.out)
 have HB5 := Lib.hid (HB4.out.trans (HB8.out.mono HB4.out.size))
 generalize w4.heap.size = g8 at h8 ⊢
 have H8 := Lib.hid h8
 clear h8 d0 d1 e0 e1 e2 e3 e4 e5 hi2 H7 HE54 HES4 HB4 HB8 q9 q10
 obtain ⟨d0, d1, d2, d3, d4, d5, d6, d7, d8, d9, d10⟩ := cells11 HE55.out
 go_wp2_with fail
 go_at_call 12
 refine (HWT.out _).mono ?_
 rintro b w6 ⟨rfl, hb⟩
 have HB6 := Lib.hid (HB5.out.trans (hb.mono HB5.out.size))
 have HG7 := Lib.hid ((hb.block _ (smem_lt H75.out)).trans H75.out)
 have HG8 := Lib.hid ((hb.block _ (smem_lt H8.out)).trans H8.out)
 have HES6 := Lib.hid (HES5.out.below hb)
 have hne7 := smem_lt HG7.out
 have hne8 := smem_lt HG8.out
 have c7 : w6.cell? ⟨g7, 0, none⟩ = some (.string (roomS 0)) := cell_at HG7.out 0
 have c8 : w6.cell? ⟨g8, 0, none⟩ = some (.string la.ev.id) := cell_at HG8.out 0
 have n7 : g7 ≠ w6.heap.size := by omega
 have n8 : g8 ≠ w6.heap.size := by omega
 clear hb d0 d1 d2 d3 d4 d5 d6 d7 d8 d9 d10 HE55 HES5 HB5 HWT H75 H8
 go_upto_region 8 with (fail)
 obtain ⟨rr, hrr⟩ : ∃ rr : Edu, rr = ⟨xk, roomS 0, xu, la.ev.id, xt, xp, xo, xs, xy, xc, xm⟩ := ⟨_, rfl⟩
 have hx9 : LL[nl]? = some la.ev := by rw [← HZS.out]; exact evs_get HX.out
 have HID : Hid (la.ev.id.size ≤ 40 ∧ eventB la.ev.id = true) := Lib.hid (by
  have h5 := HROW.out.1.ids nl la.ev hx9
  rw [h5]
  have h6 : nl < 9 := by have := HROW.out.1.le; have := (List.getElem?_eq_some_iff.1 hx9).1; omega
  exact eventK_well ⟨nl, h6⟩)
 have HRR : Hid (rr.small ∧ mayR rr = true) := Lib.hid (by
  have h5 := HWI.out
  injection h5 with h50 h51 h52 h53 h54 h55 h56 h57 h58 h59 h510
  subst h50 h52 h54 h56 h57 h58 h59 h510
  rw [hrr]
  exact ⟨⟨(roomS_well 0).1, (userS_well _).1, HID.out.1, (threadS_well _).1⟩, may_made (roomS_well 0).2 (userS_well _).2 HID.out.2 (threadS_well _).2 (around_bd _ 100 (by decide) (by decide)) (around_bd _ 9 (by decide) (by decide))⟩)
 have HAO : Hid (AllOk (evs zs)) := Lib.hid (by rw [HZS.out]; exact allOk_one HROW.out.1.valid rooms_two)
 have HE9 : Hid ((evs zs)[nl]? = some la.ev) := Lib.hid (evs_get HX.out)
 have hzl : zs.length ≤ 9 := by have := HROW.out.2; rw [← HZS.out, evs_len] at this; exact this
 have HRV : Hid (la.ev.room = roomS 0) := Lib.hid (valid_room HROW.out.1.valid _ (List.mem_of_getElem? hx9))
 have HR9 : Hid (rr.room = roomS 0 ∧ rr.event = la.ev.id) := Lib.hid (by rw [hrr]; exact ⟨rfl, rfl⟩)
 have HUN : Hid (hasE (ofL (foldV ((evs zs).take nl)) rr.room) rr.event = false) := Lib.hid (by
  rw [HR9.out.1, HR9.out.2, ← HRV.out]
  exact (err_zero (allOk_errW HAO.out HE9.out)).2.2.1)
 have HKN : Hid (hasE (ofL (addV (foldV ((evs zs).take nl)) la.ev) rr.room) rr.event = true) := Lib.hid (by
  rw [HR9.out.1, HR9.out.2, ← HRV.out, ofL_addV (foldV_ok _).up (allOk_errW HAO.out HE9.out), if_pos rfl]
  exact has_iff.2 ⟨_, List.mem_append_right _ List.mem_cons_self, rfl⟩)
 have h9 := heap_alloc_new w6 (.cells #[.int .i64 xk, .string (roomS 0), .string xu, .string la.ev.id, .string xt, .bool xp, .bool xo, .int .i64 xs, .int .i64 xy, .int .i64 xc, .int .i64 xm] 43)
 have hb9 := below_new w6 (.cells #[.int .i64 xk, .string (roomS 0), .string xu, .string la.ev.id, .string xt, .bool xp, .bool xo, .int .i64 xs, .int .i64 xy, .int .i64 xc, .int .i64 xm] 43)
 have HB7 := Lib.hid (HB6.out.trans (hb9.mono HB6.out.size))
 have HG7' := Lib.hid ((hb9.block _ (smem_lt HG7.out)).trans HG7.out)
 have HG8' := Lib.hid ((hb9.block _ (smem_lt HG8.out)).trans HG8.out)
 have HES7 := Lib.hid (HES6.out.below hb9)
 generalize World.alloc _ _ = w7 at h9 HB7 HG7' HG8' HES7 ⊢
 generalize w6.heap.size = g9 at h9 ⊢
 have HK0 := Lib.hid (((((Km.start (C := codeDags) w7).with0 (t := Th.evs (.slice Az zs.length cz) zs) HES7.out).with0 (t := Th.box g7 (.cells #[.string (roomS 0), .slice Az zs.length cz] 93 (0, 0))) HG7'.out).with0 (t := Th.box g8 (.cells #[.string la.ev.id, .string la.ev.room, .slice la.A la.ev.parents.length la.cap, .string la.ev.thread, .string la.ev.user, .int .i64 la.ev.does] 52 (0, 0))) HG8'.out).with0 (t := Th.box g9 (.cells #[.int .i64 xk, .string (roomS 0), .string xu, .string la.ev.id, .string xt, .bool xp, .bool xo, .int .i64 xs, .int .i64 xy, .int .i64 xc, .int .i64 xm] 43 (0, 0))) h9)
 have HRE := Lib.hid hrr
 clear h9 hb9 HB6 HG7 HG8 HES6 HG7' HG8' HES7 c7 c8 n7 n8 hne7 hne8 hx9 hrr HWI HWS
 have HN1 := Lib.hid (marksNew_yes 4 (by decide) (by decide) HK0.out)
 go_wp2_with fail
 go_at_call 9
 refine HN1.out.mono ?_
 rintro b w8 ⟨X1, rfl, hX1, hk⟩
 have HX1 := Lib.hid hX1
 have HK1 := Lib.hid hk
 have HN2 := Lib.hid (marksNew_yes 4 (by decide) (by decide) hk)
 clear HN1 hX1 hk HK0
 go_wp2_with fail
 go_at_call 9
 refine HN2.out.mono ?_
 rintro b w9 ⟨X2, rfl, hX2, hk⟩
 have HX2 := Lib.hid hX2
 have HK2 := Lib.hid hk
 have HV := Lib.hid (viewNew_any hk.kv)
 clear HN2 hX2 hk HK1
 go_wp2_with fail
 go_at_call 10
 refine HV.out.mono ?_
 rintro b w10 ⟨v, rfl, hv, hk⟩
 have HV0 := Lib.hid hv
 obtain ⟨tsA, htsA⟩ : ∃ tsA, tsA = [X2.box, X1.box, Th.box g9 (.cells #[.int .i64 xk, .string (roomS 0), .string xu, .string la.ev.id, .string xt, .bool xp, .bool xo, .int .i64 xs, .int .i64 xy, .int .i64 xc, .int .i64 xm] 43 (0, 0)), Th.box g8 (.cells #[.string la.ev.id, .string la.ev.room, .slice la.A la.ev.parents.length la.cap, .string la.ev.thread, .string la.ev.user, .int .i64 la.ev.does] 52 (0, 0)), Th.box g7 (.cells #[.string (roomS 0), .slice Az zs.length cz] 93 (0, 0)), Th.evs (.slice Az zs.length cz) zs] := ⟨_, rfl⟩
 have HK3 := Lib.hid (show Km codeDags w7 w10 [v] [X1.park, X1.tab, X2.park, X2.tab] tsA from by rw [htsA]; exact HK2.out.ofKv hk)
 have M1 := Lib.hid (show X1.box ∈ tsA from by rw [htsA]; simp)
 have M2 := Lib.hid (show X2.box ∈ tsA from by rw [htsA]; simp)
 have M9 := Lib.hid (show Th.box g9 (.cells #[.int .i64 xk, .string (roomS 0), .string xu, .string la.ev.id, .string xt, .bool xp, .bool xo, .int .i64 xs, .int .i64 xy, .int .i64 xc, .int .i64 xm] 43 (0, 0)) ∈ tsA from by rw [htsA]; simp)
 have M8 := Lib.hid (show Th.box g8 (.cells #[.string la.ev.id, .string la.ev.room, .slice la.A la.ev.parents.length la.cap, .string la.ev.thread, .string la.ev.user, .int .i64 la.ev.does] 52 (0, 0)) ∈ tsA from by rw [htsA]; simp)
 have M7 := Lib.hid (show Th.box g7 (.cells #[.string (roomS 0), .slice Az zs.length cz] 93 (0, 0)) ∈ tsA from by rw [htsA]; simp)
 have ME := Lib.hid (show Th.evs (.slice Az zs.length cz) zs ∈ tsA from by rw [htsA]; simp)
 clear HV hk hv HK2 htsA
 obtain ⟨gv, hgv⟩ : ∃ g, v.g = g := ⟨_, rfl⟩
 have H0 : Hid (∃ vi : VI, vi.g = gv ∧ vi.V = foldV ((evs zs).take 0) ∧ Km codeDags w7 w10 [vi] [X1.park, X1.tab, X2.park, X2.tab] tsA) := Lib.hid ⟨v, hgv, HV0.out, HK3.out⟩
 rw [hgv]
 clear HK3 hgv HV0
 have q9 : wrap64 ((zs.length : Int) - 1) = (nl : Int) := by
  rw [show (zs.length : Int) - 1 = (nl : Int) by have := HNL.out; omega]
  go_arith
 have q10 : (zs.length : Int) - 1 = (nl : Int) := by have := HNL.out; omega
 go_wp2_with fail
 go_loopw [15] (fun n wz => ∃ a : Nat, n = .int .i64 (a : Int) ∧ a ≤ nl ∧ Hid (∃ vi : VI, vi.g = gv ∧ vi.V = foldV ((evs zs).take a) ∧ Km codeDags w7 wz [vi] [X1.park, X1.tab, X2.park, X2.tab] tsA)) (fun n _ => nl - (intOf n).toNat)
 case atStart => exact ⟨0, rfl, Nat.zero_le _, H0⟩
 case round =>
  obtain ⟨a, rfl, ha, HD⟩ := hrel
  clear H0
  obtain ⟨vi, hvg, hvV, hk⟩ := HD.out
  have HK := Lib.hid hk
  have HVI := Lib.hid (And.intro hvg hvV)
  clear hvg hvV hk HD
  have d1 : wr.cell? ⟨g7, 1, none⟩ = some (.slice Az zs.length cz) := cell_at (HK.out.isT M7.out) 1
  by_cases hax : a < nl
  ·have q3 : decide ((a : Int) < (nl : Int)) = true := decide_eq_true (by omega)
   have hal : a < zs.length := by have := HNL.out; omega
   have hx : zs[a]? = some zs[a] := List.getElem?_eq_getElem hal
   generalize zs[a] = yv at hx
   have HES := Lib.hid (show EvsS wr (.slice Az zs.length cz) zs from HK.out.isT ME.out)
   obtain ⟨b2, f2, hA, hb2, hr2⟩ := ev_at HES.out hx
   have hi2 := index_any (P := Tryz.prog) knV (by decide) (b := b2) (off := f2) (cap := cz) hal
   simp only [LV] at hi2
   rw [← hA] at hi2
   clear hA
   obtain ⟨e0, e1, e2, e3, e4, e5⟩ := ev_cells hr2
   unfold EvV.pv at e2
   have HYD : Hid ((evs zs)[a]? = some yv.ev) := Lib.hid (evs_get hx)
   have HRMM : Hid (yv.ev.room.size ≤ 40) := Lib.hid (may_short (err_zero (HAO.out a _ HYD.out)).1).2.1
   have HKX := Lib.hid (HK.out.evOf (v := .slice Az zs.length cz) (zs := zs) (y := yv) ME.out (List.mem_of_getElem? hx))
   have HQ := Lib.hid (viewAdd_any codeRms HKX.out.kv (i := 0) rfl (by
    rw [HVI.out.2]
    refine (foldV_ok _).mono ?_
    rw [List.length_take]
    omega) yv (List.mem_append_right _ List.mem_cons_self) HRMM.out)
   rw [HVI.out.1, HVI.out.2, ← foldV_take HYD.out] at HQ
   unfold EvV.val EvV.pv at HQ
   clear hx hr2 hb2 HK HRMM HES
   go_wp2_with fail
   go_at_call 16
   refine HQ.out.mono ?_
   rintro b w12 ⟨v2, rfl, hg2, hv2, hk2⟩
   have HF : Hid (∃ vi : VI, vi.g = gv ∧ vi.V = foldV ((evs zs).take (a + 1)) ∧ Km codeDags w7 w12 [vi] [X1.park, X1.tab, X2.park, X2.tab] tsA) := Lib.hid ⟨v2, hg2, hv2, (HKX.out.ofKv hk2).less (fun t ht => List.mem_cons_of_mem _ ht)⟩
   clear hg2 hv2 hk2 HKX HQ hi2 e0 e1 e2 e3 e4 e5 d1
   go_wp2_with fail
   refine ⟨⟨a + 1, by go_num, by omega, HF⟩, ?_⟩
   simp [intOf]; omega
  ·have q3 : decide ((a : Int) < (nl : Int)) = false := decide_eq_false (by omega)
   obtain rfl : a = nl := by omega
   have HE1 := Lib.hid (foldV_take HE9.out)
   have HVOK : Hid (VOk 99 (foldV ((evs zs).take a))) := Lib.hid ((foldV_ok _).mono (by rw [List.length_take]; omega))
   have HERR := Lib.hid (allOk_errW HAO.out HE9.out)
   generalize foldV ((evs zs).take a) = V1 at *
   have HX1L : Hid (X1.r.l = [] ∧ X1.p = ⟨4, [], 0⟩) := Lib.hid ⟨congrArg Ms.l HX1.out, congrArg Ms.p HX1.out⟩
   have HX2L : Hid (X2.r.l = [] ∧ X2.p = ⟨4, [], 0⟩) := Lib.hid ⟨congrArg Ms.l HX2.out, congrArg Ms.p HX2.out⟩
   have HPW := Lib.hid (fun s : Ms => Ms.put_wait (s := s) HRR.out.2 (fit_known.2 HUN.out))
   have HPUT := Lib.hid (fun W (Y : MkI) (hY : Y.box = X1.box) (hl : Y.r.l.length ≤ 1) (hp : Y.p.l.length ≤ 1 ∧ Y.p.lost = 0 ∧ Y.p.most = 4) (hkW : Km codeDags w7 W [vi] [Y.park, Y.tab, X2.park, X2.tab] tsA) => marksPut_any hkW (q := 0) rfl (show AtM Y 0 1 _ tsA from ⟨rfl, rfl, by decide, by rw [hY]; exact M1.out⟩) (by omega) (by omega) (by omega) (by omega) rr HRR.out.1)
   have HG : Hid (vi.g = gv ∧ vi.V = V1) := HVI
   have HP1 := Lib.hid (HPUT.out _ X1 rfl (by rw [HX1L.out.1]; decide) (by rw [HX1L.out.2]; decide) HK.out)
   rw [HG.out.1, HG.out.2, HX1.out, (HPW.out _).1, (HPW.out _).2.1, (HPW.out ⟨[], ⟨4, [], 0⟩⟩).2.2, put_first] at HP1
   have hre := HRE.out
   rw [show rr.val = Value.agg #[.int .i64 xk, .string (roomS 0), .string xu, .string la.ev.id, .string xt, .bool xp, .bool xo, .int .i64 xs, .int .i64 xy, .int .i64 xc, .int .i64 xm] from by rw [hre]; rfl] at HP1
   clear hre
   obtain ⟨d0, d2, d3, d4, d5, d6, d7, d8, d9, d10, d11⟩ := cells11 (HK.out.isT M9.out)
   go_wp2_with fail
   go_at_call 15
   refine HP1.out.mono ?_
   rintro b w12 ⟨Y1, rfl, hto, hk⟩
   have HT1 := Lib.hid hto
   have HK4 := Lib.hid (show Km codeDags w7 w12 [vi] [Y1.park, Y1.tab, X2.park, X2.tab] tsA from hk)
   clear hto hk HP1 HK d0 d1 d2 d3 d4 d5 d6 d7 d8 d9 d10 d11
   have HAR := Lib.hid (fun W => around_any kk 3 W hk0 hk1 (by decide) (by decide))
   obtain ⟨m3, hm3, hm3l⟩ : ∃ r : Nat, aroundI kk 3 = (r : Int) ∧ r < 3 := by
    have h5 := aroundI_bd kk 3 (by decide)
    exact ⟨(aroundI kk 3).toNat, by omega, by omega⟩
   rw [hm3] at HAR
   clear hm3
   go_wp2_with fail
   go_at_call 8
   refine (HAR.out _).mono ?_
   rintro b w13 ⟨rfl, hw13⟩
   subst hw13
   clear HAR
   have HPV : Hid (rr.val = Value.agg #[.int .i64 xk, .string (roomS 0), .string xu, .string la.ev.id, .string xt, .bool xp, .bool xo, .int .i64 xs, .int .i64 xy, .int .i64 xc, .int .i64 xm]) := Lib.hid (by rw [HRE.out]; rfl)
   have H0 : Hid (∃ Y : MkI, Y.g = X1.g ∧ Y.box = X1.box ∧ Y.ms = ⟨[], ⟨4, [rr], 0⟩⟩ ∧ Km codeDags w7 w12 [vi] [Y.park, Y.tab, X2.park, X2.tab] tsA) := Lib.hid ⟨Y1, HT1.out.g, HT1.out.box, HT1.out.ms, HK4.out⟩
   clear HK4 HT1
   go_wp2_with fail
   go_loopw [19] (fun n wz => ∃ a : Nat, n = .int .i64 (a : Int) ∧ a ≤ m3 ∧ Hid (∃ Y : MkI, Y.g = X1.g ∧ Y.box = X1.box ∧ Y.ms = ⟨[], ⟨4, [rr], 0⟩⟩ ∧ Km codeDags w7 wz [vi] [Y.park, Y.tab, X2.park, X2.tab] tsA)) (fun n _ => m3 - (intOf n).toNat)
   case atStart => exact ⟨0, rfl, Nat.zero_le _, H0⟩
   case round =>
    obtain ⟨c, rfl, hc, HD⟩ := hrel
    clear H0
    obtain ⟨Y, hyg, hyb, hyS, hk⟩ := HD.out
    have HK := Lib.hid hk
    have HY := Lib.hid (And.intro hyg (And.intro hyb hyS))
    have HYL : Hid (Y.r.l = [] ∧ Y.p = ⟨4, [rr], 0⟩) := Lib.hid ⟨congrArg Ms.l hyS, congrArg Ms.p hyS⟩
    clear hyg hyb hyS hk HD
    by_cases hcx : c < m3
    ·have q4 : decide ((c : Int) < (m3 : Int)) = true := decide_eq_true (by omega)
     have HP2 := Lib.hid (HPUT.out _ Y HY.out.2.1 (by rw [HYL.out.1]; decide) (by rw [HYL.out.2]; exact ⟨Nat.le_refl _, rfl, rfl⟩) HK.out)
     rw [HG.out.1, HG.out.2, HY.out.1, HY.out.2.2, (HPW.out _).1, (HPW.out _).2.1, (HPW.out ⟨[], ⟨4, [], 0⟩⟩).2.2, put_again, HPV.out] at HP2
     obtain ⟨d0, d2, d3, d4, d5, d6, d7, d8, d9, d10, d11⟩ := cells11 (HK.out.isT M9.out)
     clear HK
     go_wp2_with fail
     go_at_call 15
     refine HP2.out.mono ?_
     rintro b w13 ⟨Y2, rfl, hto, hk⟩
     have HF : Hid (∃ Y : MkI, Y.g = X1.g ∧ Y.box = X1.box ∧ Y.ms = ⟨[], ⟨4, [rr], 0⟩⟩ ∧ Km codeDags w7 w13 [vi] [Y.park, Y.tab, X2.park, X2.tab] tsA) := Lib.hid ⟨Y2, hto.g.trans HY.out.1, hto.box.trans HY.out.2.1, hto.ms, hk⟩
     clear hto hk HP2 d0 d2 d3 d4 d5 d6 d7 d8 d9 d10 d11
     go_wp2_with fail
     refine ⟨⟨c + 1, by go_num, by omega, HF⟩, ?_⟩
     simp [intOf]; omega
    ·have q4 : decide ((c : Int) < (m3 : Int)) = false := decide_eq_false (by omega)
     have q4' : decide (c < m3) = false := decide_eq_false hcx
     have q4'' : ¬ c < m3 := hcx
     clear hc hcx
     have HWT := Lib.hid (fun W (Y : MkI) vi (hY : Y.box = X1.box) (hl : Y.p.l.length ≤ 1) (hkW : Km codeDags w7 W [vi] [Y.park, Y.tab, X2.park, X2.tab] tsA) => marksWaits_any hkW (show AtM Y 0 1 _ tsA from ⟨rfl, rfl, by decide, by rw [hY]; exact M1.out⟩) (by omega))
     have HW1 := Lib.hid (HWT.out _ Y vi HY.out.2.1 (by rw [HYL.out.2]; exact Nat.le_refl _) HK.out)
     rw [HY.out.1, HYL.out.2] at HW1
     go_wp2_with fail
     go_at_call 24
     refine HW1.out.mono ?_
     rintro b w13 ⟨u, rfl, hu, hb⟩
     have HK5 := Lib.hid (HK.out.later hb)
     obtain ⟨Au, cu, rfl, -⟩ := hu.shape
     clear hu hb HW1 HK
     have HARR := Lib.hid (fun W (Y : MkI) vi (hY : Y.box = X1.box) (hl : Y.r.l = []) (hp : Y.p = ⟨4, [rr], 0⟩) (hkW : Km codeDags w7 W [vi] [Y.park, Y.tab, X2.park, X2.tab] tsA) => marksArrive_any hkW (q := 0) rfl (show AtM Y 0 1 _ tsA from ⟨rfl, rfl, by decide, by rw [hY]; exact M1.out⟩) (by rw [hl, hp]; simp) (by rw [hp]; intro e he; rw [List.mem_singleton.1 he]; exact HRR.out.1) rr.room rr.event HRR.out.1.room (maxLen_40 HRR.out.1.event))
     have HA1 := Lib.hid (HARR.out _ Y vi HY.out.2.1 HYL.out.1 HYL.out.2 HK5.out)
     rw [HG.out.1, HG.out.2, HY.out.1, HY.out.2.2, Ms.arr_no HUN.out, HR9.out.1, HR9.out.2] at HA1
     obtain ⟨d0, d2, d3, d4, d5, d6, d7, d8, d9, d10, d11⟩ := cells11 (HK5.out.isT M9.out)
     go_wp2_with fail
     go_at_call 20
     refine HA1.out.mono ?_
     rintro b w14 ⟨Y2, u2, rfl, hto, hu, hk⟩
     have HK6 := Lib.hid (show Km codeDags w7 w14 [vi] [Y2.park, Y2.tab, X2.park, X2.tab] tsA from hk)
     have HY2 : Hid (Y2.g = X1.g ∧ Y2.box = X1.box ∧ Y2.ms = ⟨[], ⟨4, [rr], 0⟩⟩) := Lib.hid ⟨hto.g.trans HY.out.1, hto.box.trans HY.out.2.1, hto.ms⟩
     have HYL2 : Hid (Y2.r.l = [] ∧ Y2.p = ⟨4, [rr], 0⟩) := Lib.hid ⟨congrArg Ms.l hto.ms, congrArg Ms.p hto.ms⟩
     obtain ⟨Av, cv, rfl, -⟩ := hu.shape
     clear hto hu hk HA1 HK5 HY HYL d0 d2 d3 d4 d5 d6 d7 d8 d9 d10 d11
     have HW2 := Lib.hid (HWT.out _ Y2 vi HY2.out.2.1 (by rw [HYL2.out.2]; exact Nat.le_refl _) HK6.out)
     rw [HY2.out.1, HYL2.out.2] at HW2
     go_wp2_with fail
     go_at_call 24
     refine HW2.out.mono ?_
     rintro b w15 ⟨u, rfl, hu, hb⟩
     have HK7 := Lib.hid (HK6.out.later hb)
     obtain ⟨Ax, cx, rfl, -⟩ := hu.shape
     clear hu hb HW2 HK6
     have HKX := Lib.hid (HK7.out.evOf (v := .slice Az zs.length cz) (zs := zs) (y := la) ME.out (List.mem_of_getElem? HX.out))
     have HQ := Lib.hid (viewAdd_any codeRms HKX.out.kv (i := 0) rfl (by rw [HG.out.2]; exact HVOK.out) la (List.mem_append_right _ List.mem_cons_self) (may_short (err_zero (HAO.out a _ HE9.out)).1).2.1)
     rw [HG.out.1, HG.out.2] at HQ
     unfold EvV.val EvV.pv at HQ
     have hbx : w15.heap[g8]? = some (.cells #[.string la.ev.id, .string la.ev.room, .slice la.A la.ev.parents.length la.cap, .string la.ev.thread, .string la.ev.user, .int .i64 la.ev.does] 52 (0, 0)) := HK7.out.isT M8.out
     have x0 := cell_at hbx 0
     have x1 := cell_at hbx 1
     have x2 := cell_at hbx 2
     have x3 := cell_at hbx 3
     have x4 := cell_at hbx 4
     have x5 := cell_at hbx 5
     simp only [List.getElem?_toArray, List.getElem?_cons_succ, List.getElem?_cons_zero] at x0 x1 x2 x3 x4 x5
     clear hbx HK7
     go_wp2_with fail
     go_at_call 16
     refine HQ.out.mono ?_
     rintro b w16 ⟨v2, rfl, hg2, hv2, hk2⟩
     have HK8 := Lib.hid (show Km codeDags w7 w16 [v2] [Y2.park, Y2.tab, X2.park, X2.tab] tsA from (HKX.out.ofKv hk2).less (fun t ht => List.mem_cons_of_mem _ ht))
     have HG2 := Lib.hid (And.intro hg2 hv2)
     clear hg2 hv2 hk2 HKX HQ x0 x1 x2 x3 x4 x5
     have HA2 := Lib.hid (HARR.out _ Y2 v2 HY2.out.2.1 HYL2.out.1 HYL2.out.2 HK8.out)
     obtain ⟨hp1, hp2, hp3, hp4⟩ := put_one HRR.out.2 HKN.out
     rw [HG2.out.1, HG2.out.2, HY2.out.1, HY2.out.2.2, arr_one HKN.out] at HA2
     have HP3 := Lib.hid (fun W (Y : MkI) (hkW : Km codeDags w7 W [v2] [Y.park, Y.tab, X2.park, X2.tab] tsA) => marksPut_any hkW (q := 0) rfl (show AtM X2 2 3 _ tsA from ⟨rfl, rfl, by decide, M2.out⟩) (by rw [HX2L.out.1]; decide) (by rw [HX2L.out.2]; decide) (by rw [HX2L.out.2]; decide) (by rw [HX2L.out.2]; decide) rr HRR.out.1)
     rw [HG2.out.1, HG2.out.2, HX2.out, hp1, hp2, hp3, HPV.out] at HP3
     obtain ⟨f, hf⟩ : ∃ f, fitV (addV V1 la.ev) rr = f := ⟨_, rfl⟩
     obtain ⟨mk, hmk⟩ : ∃ m, markE (addV V1 la.ev) rr = m := ⟨_, rfl⟩
     have HMK : Hid (mk.k = keyE rr) := Lib.hid (by rw [← hmk]; rfl)
     rw [hf] at hp4
     rw [hf, hmk] at HA2 HP3
     have HF4 := Lib.hid hp4
     obtain ⟨l2, hl2⟩ : ∃ l2 : List Mk, l2 = if f = 0 then [mk] else [] := ⟨_, rfl⟩
     obtain ⟨ks, hks⟩ : ∃ ks : List Edu, ks = if f = 0 then [rr] else [] := ⟨_, rfl⟩
     obtain ⟨bb, hbb⟩ : ∃ bb, decide (f = 0) = bb := ⟨_, rfl⟩
     rw [show (if f = 0 then (((⟨[mk], ⟨4, [], 0⟩⟩ : Ms)), [rr]) else (⟨[], ⟨4, [], 0⟩⟩, [])) = ((⟨l2, ⟨4, [], 0⟩⟩ : Ms), ks) from by rw [hl2, hks]; split <;> rfl] at HA2
     rw [show (if f = 0 then (⟨[mk], ⟨4, [], 0⟩⟩ : Ms) else ⟨[], ⟨4, [], 0⟩⟩) = ⟨l2, ⟨4, [], 0⟩⟩ from by rw [hl2]; split <;> rfl, hbb] at HP3
     have HL2 := Lib.hid hl2
     have HKS := Lib.hid hks
     have HBB := Lib.hid hbb
     rw [HR9.out.1, HR9.out.2] at HA2
     clear hp1 hp2 hp3 hp4 hf hmk hl2 hks hbb
     obtain ⟨d0, d2, d3, d4, d5, d6, d7, d8, d9, d10, d11⟩ := cells11 (HK8.out.isT M9.out)
     go_wp2_with fail
     go_at_call 20
     refine HA2.out.mono ?_
     rintro b w17 ⟨Z1, u3, rfl, hto, hu, hk⟩
     have HK9 := Lib.hid (show Km codeDags w7 w17 [v2] [Z1.park, Z1.tab, X2.park, X2.tab] tsA from hk)
     have HZ1 : Hid (Z1.g = X1.g ∧ Z1.box = X1.box ∧ Z1.r.l = l2 ∧ Z1.p = ⟨4, [], 0⟩) := Lib.hid ⟨hto.g.trans HY2.out.1, hto.box.trans HY2.out.2.1, congrArg Ms.l hto.ms, congrArg Ms.p hto.ms⟩
     obtain ⟨Aw, cw, hus, -⟩ := hu.shape
     rw [List.length_map] at hus
     subst hus
     clear hto hu hk HA2 HK8 d0 d2 d3 d4 d5 d6 d7 d8 d9 d10 d11
     obtain ⟨d0, d2, d3, d4, d5, d6, d7, d8, d9, d10, d11⟩ := cells11 (HK9.out.isT M9.out)
     go_wp2_with fail
     go_at_call 15
     refine (HP3.out _ Z1 HK9.out).mono ?_
     rintro b w18 ⟨Z2, rfl, hto, hk⟩
     have HK10 := Lib.hid (show Km codeDags w7 w18 [v2] [Z1.park, Z1.tab, Z2.park, Z2.tab] tsA from hk)
     have HZ2 : Hid (Z2.g = X2.g ∧ Z2.box = X2.box ∧ Z2.r.l = l2 ∧ Z2.p = ⟨4, [], 0⟩) := Lib.hid ⟨hto.g, hto.box, congrArg Ms.l hto.ms, congrArg Ms.p hto.ms⟩
     clear hto hk HP3 HK9 d0 d2 d3 d4 d5 d6 d7 d8 d9 d10 d11
     go_upto_region 28 with (fail)
     go_cut [180] from 156 to 180 (fun sa wx => sa = .bool false ∧ Hid (Km codeDags w7 wx [v2] [Z1.park, Z1.tab, Z2.park, Z2.tab] tsA))
     case first =>
      have HW3 := Lib.hid (marksWaits_any HK10.out (show AtM Z1 0 1 _ tsA from ⟨rfl, rfl, by decide, by rw [HZ1.out.2.1]; exact M1.out⟩) (by rw [HZ1.out.2.2.2]; decide))
      rw [HZ1.out.1, HZ1.out.2.2.2] at HW3
      rcases HF4.out with hf | hf
      ·have hbb := HBB.out
       have hks := HKS.out
       subst hf
       rw [if_pos rfl] at hks
       subst hbb hks
       go_wp2_with fail
       go_at_call 24
       refine HW3.out.mono ?_
       rintro b w19 ⟨u, rfl, hu, hb⟩
       have HKF := Lib.hid (HK10.out.later hb)
       obtain ⟨Ax2, cx2, rfl, -⟩ := hu.shape
       clear hu hb HW3 HK10
       go_wp2_with fail
       go_meet
       exact ⟨rfl, HKF⟩
      ·have hbb := HBB.out
       have hks := HKS.out
       subst hf
       rw [if_neg (by decide)] at hks
       subst hbb hks
       go_wp2_with fail
       go_at_call 24
       refine HW3.out.mono ?_
       rintro b w19 ⟨u, rfl, hu, hb⟩
       have HKF := Lib.hid (HK10.out.later hb)
       obtain ⟨Ax2, cx2, rfl, -⟩ := hu.shape
       clear hu hb HW3 HK10
       go_wp2_with fail
       go_meet
       exact ⟨rfl, HKF⟩
     case rest =>
      obtain ⟨rfl, HKQ⟩ := hcut
      clear HK10
      have HKK : Hid (keyE rr = ⟨roomS 0, xu, xt, xp⟩) := Lib.hid (by rw [HRE.out]; rfl)
      obtain ⟨r0, hr0⟩ : ∃ r, roomS 0 = r := ⟨_, rfl⟩
      have HKOK : Hid ((⟨r0, xu, xt, xp⟩ : Rk).ok) := Lib.hid (by
       rw [← hr0, ← HKK.out]
       exact ⟨HRR.out.1.brief.1, HRR.out.1.brief.2.1, HRR.out.1.brief.2.2.2⟩)
      have HOFM := Lib.hid (fun W => ofM_any rr HRR.out.1.brief W)
      rw [HPV.out, HKK.out, hr0] at HOFM
      have HGET := Lib.hid (fun W (y : MkI) (h : CRs W y.r) => rcGet_any h ⟨r0, xu, xt, xp⟩ HKOK.out)
      rw [hr0] at M9 HKK
      simp only [Rk.val] at HOFM HGET
      obtain ⟨⟨pd, pi⟩, hpo⟩ : ∃ p, gotP l2 ⟨r0, xu, xt, xp⟩ = p := ⟨_, rfl⟩
      have hhd : (getM l2 ⟨r0, xu, xt, xp⟩).isSome = bb := by
       rw [HL2.out, ← HBB.out]
       rcases HF4.out with hf | hf
       ·rw [if_pos hf, decide_eq_true hf]
        unfold getM
        rw [List.find?_cons_of_pos (by rw [HMK.out, HKK.out]; simp)]
        rfl
       ·rw [if_neg (by omega), decide_eq_false (by omega)]
        rfl
      have HGA : Hid (gotP Z1.r.l ⟨r0, xu, xt, xp⟩ = ⟨pd, pi⟩ ∧ (getM Z1.r.l ⟨r0, xu, xt, xp⟩).isSome = bb) := Lib.hid (by rw [HZ1.out.2.2.1]; exact ⟨hpo, hhd⟩)
      have HGB : Hid (gotP Z2.r.l ⟨r0, xu, xt, xp⟩ = ⟨pd, pi⟩ ∧ (getM Z2.r.l ⟨r0, xu, xt, xp⟩).isSome = bb) := Lib.hid (by rw [HZ2.out.2.2.1]; exact ⟨hpo, hhd⟩)
      have HOB1 := Lib.hid (fun W ts' (hk : Km codeDags w7 W [v2] [Z1.park, Z1.tab, Z2.park, Z2.tab] ts') (hb : ∀ t ∈ tsA, t ∈ ts') => show W.heap[X1.g]? = some (.cells (mkO Z1.r.g Z1.b) 71 (0, 0)) from by
       have h5 := hk.isT (hb _ M1.out)
       rw [← HZ1.out.2.1, MkI.box, HZ1.out.1] at h5
       exact h5)
      have HOB2 := Lib.hid (fun W ts' (hk : Km codeDags w7 W [v2] [Z1.park, Z1.tab, Z2.park, Z2.tab] ts') (hb : ∀ t ∈ tsA, t ∈ ts') => show W.heap[X2.g]? = some (.cells (mkO Z2.r.g Z2.b) 71 (0, 0)) from by
       have h5 := hk.isT (hb _ M2.out)
       rw [← HZ2.out.2.1, MkI.box, HZ2.out.1] at h5
       exact h5)
      have HOA := Lib.hid (fun W (hk : Km codeDags w7 W [v2] [Z1.park, Z1.tab, Z2.park, Z2.tab] tsA) => HOB1.out W _ hk (fun t ht => ht))
      clear hpo hhd hr0
      go_upto_region 30 with (fail)
      go_cut [23, 24] from 181 to 192 (fun sa sb wx => ∃ Bq, sa = .pointer (some ⟨Bq, 0, none⟩) ∧ sb = .bool bb ∧ Hid (Km codeDags w7 wx [v2] [Z1.park, Z1.tab, Z2.park, Z2.tab] (Th.box Bq (.cells #[.int .i64 pd, .string pi] 83 (0, 0)) :: tsA)))
      case first =>
       refine wp_region_held_drew (S := fun W => Km codeDags w7 W [v2] [Z1.park, Z1.tab, Z2.park, Z2.tab] tsA) (by kernel_rfl) (HKQ.out.later (below_drew _)) (fun hHeld => ?_)
       clear HKQ
       generalize World.drew _ = wd at hHeld ⊢
       refine wpAnyH_take (i := 0) (oi := ⟨some 182, _, _, _, _, _⟩) (v := ?vga0) rfl (by kernel_rfl) (by kernel_rfl) (by kernel_rfl) (fun _ _ _ h => h) (Or.inl ⟨by rfl, ?yga0⟩) hHeld ?rga0
       case yga0 =>
        intro wx hSx
        go_simp
        try with_reducible rfl
       try simp only [actS]
       refine wpAnyH_take (i := 1) (oi := ⟨some 183, _, _, _, _, _⟩) (v := ?vga1) rfl (by kernel_rfl) (by kernel_rfl) (by kernel_rfl) (fun _ _ _ h => h) (Or.inl ⟨by rfl, ?yga1⟩) hHeld ?rga1
       case yga1 =>
        intro wx hSx
        go_simp
        try with_reducible rfl
       try simp only [actS]
       refine wpAnyH_take (i := 2) (oi := ⟨some 184, _, _, _, _, _⟩) (v := ?vga2) rfl (by kernel_rfl) (by kernel_rfl) (by kernel_rfl) (fun _ _ _ h => h) (Or.inl ⟨by rfl, ?yga2⟩) hHeld ?rga2
       case yga2 =>
        intro wx hSx
        go_simp
        try with_reducible rfl
       try simp only [actS]
       refine wpAnyH_take (i := 3) (oi := ⟨some 185, _, _, _, _, _⟩) (v := ?vga3) rfl (by kernel_rfl) (by kernel_rfl) (by kernel_rfl) (fun _ _ _ h => h) (Or.inl ⟨by rfl, ?yga3⟩) hHeld ?rga3
       case yga3 =>
        intro wx hSx
        obtain ⟨e0, e1, e2, e3⟩ := mkO_at (x := Z1) (HOA.out wx hSx)
        go_simp
        try with_reducible rfl
       try simp only [actS]
       refine wpAnyH_take (i := 4) (oi := ⟨some 186, _, _, _, _, _⟩) (v := ?vga4) rfl (by kernel_rfl) (by kernel_rfl) (by kernel_rfl) (fun _ _ _ h => h) (Or.inl ⟨by rfl, ?yga4⟩) hHeld ?rga4
       case yga4 =>
        intro wx hSx
        obtain ⟨d0, d1, d2, d3, d4, d5, d6, d7, d8, d9, d10⟩ := cells11 (hSx.isT M9.out)
        go_simp
        try with_reducible rfl
       try simp only [actS]
       refine wpAnyH_take (i := 6) (oi := ⟨some 188, _, _, _, _, _⟩) (v := ?vga6) rfl (by kernel_rfl) (by kernel_rfl) (by kernel_rfl) (fun _ _ _ h => h) (Or.inl ⟨by rfl, ?yga6⟩) hHeld ?rga6
       case yga6 =>
        intro wx hSx
        go_simp
        try with_reducible rfl
       try simp only [actS]
       refine wpAnyH_take (i := 7) (oi := ⟨some 189, _, _, _, _, _⟩) (v := ?vga7) rfl (by kernel_rfl) (by kernel_rfl) (by kernel_rfl) (fun _ _ _ h => h) (Or.inl ⟨by rfl, ?yga7⟩) hHeld ?rga7
       case yga7 =>
        intro wx hSx
        go_simp
        try with_reducible rfl
       try simp only [actS]
       refine wpAnyH_ready (rs := [5, 12]) (by kernel_rfl) (by simp) ?_
       refine AllReadyH.cons (o := ⟨some 187, _, _, _, _, _⟩) rfl (fun K hK => ?wayAa) (AllReadyH.cons (o := ⟨some 23, _, _, _, _, _⟩) rfl (fun K hK => ?wayBa) AllReadyH.nil)
       case wayAa =>
        go_simp
        refine (HOFM.out _).mono ?_
        rintro b wof ⟨rfl, hb⟩
        skip
        refine hK.out _ _ (hHeld.later hb) (fun hHeld => ?_)
        clear hK K hb
        try simp only [actS]
        refine wpAnyH_ready (rs := [8, 12]) (by kernel_rfl) (by simp) ?_
        refine AllReadyH.cons (o := ⟨some 190, _, _, _, _, _⟩) rfl (fun K hK => ?wayCa) (AllReadyH.cons (o := ⟨some 23, _, _, _, _, _⟩) rfl (fun K hK => ?wayDa) AllReadyH.nil)
        case wayCa =>
         have HG1 := HGET.out _ Z1 (hHeld.isM (i := 1) rfl)
         rw [HGA.out.1, HGA.out.2] at HG1
         simp only [Po.val] at HG1
         go_simp
         try go_invoke
         refine HG1.mono ?_
         rintro b wgt ⟨rfl, hb⟩
         skip
         refine hK.out _ _ (hHeld.later hb) (fun hHeld => ?_)
         clear hK K hb HG1
         try simp only [actS]
         refine wpAnyH_take (i := 9) (oi := ⟨some 181, _, _, _, _, _⟩) (v := ?via9) rfl (by kernel_rfl) (by kernel_rfl) (by kernel_rfl) (fun _ _ _ h => h) (Or.inl ⟨by rfl, ?yia9⟩) hHeld ?ria9
         case yia9 =>
          intro wx hSx
          go_simp
          try with_reducible rfl
         try simp only [actS]
         refine wpAnyH_take (i := 10) (oi := ⟨some 191, _, _, _, _, _⟩) (v := ?via10) rfl (by kernel_rfl) (by kernel_rfl) (by kernel_rfl) (fun _ _ _ h => h) (Or.inl ⟨by rfl, ?yia10⟩) hHeld ?ria10
         case yia10 =>
          intro wx hSx
          go_simp
          try with_reducible rfl
         try simp only [actS]
         refine wpAnyH_take (i := 11) (oi := ⟨some 192, _, _, _, _, _⟩) (v := ?via11) rfl (by kernel_rfl) (by kernel_rfl) (by kernel_rfl) (fun _ _ _ h => h) (Or.inl ⟨by rfl, ?yia11⟩) hHeld ?ria11
         case yia11 =>
          intro wx hSx
          go_simp
          try with_reducible rfl
         try simp only [actS]
         refine wpAnyH_ready (rs := [12]) (by kernel_rfl) (by simp) ?_
         refine AllReadyH.cons (o := ⟨some 23, _, _, _, _, _⟩) rfl (fun K hK => ?_) AllReadyH.nil
         have hq := heap_alloc_new wgt (.cells #[.int .i64 0, .string ⟨#[]⟩] 83)
         have HKB := Lib.hid (hHeld.made (m := Th.box wgt.heap.size (.cells #[.int .i64 0, .string ⟨#[]⟩] 83 (0, 0))) (below_new wgt _) hq (fun k hk => Nat.le_of_eq hk.symm))
         have hH := hHeld.later (below_new wgt (.cells #[.int .i64 0, .string ⟨#[]⟩] 83))
         go_simp
         generalize World.alloc _ _ = wal at hq hH HKB ⊢
         generalize wgt.heap.size = gq at hq HKB ⊢
         refine hK.out _ _ hH (fun hHeld => ?_)
         clear hK K hH hq
         try simp only [actS]
         refine wpAnyH_ready (rs := [13]) (by kernel_rfl) (by simp) ?_
         refine AllReadyH.cons (o := ⟨none, _, _, _, _, _⟩) rfl (fun K hK => ?_) AllReadyH.nil
         have hq := HKB.out.isM (i := 4) rfl
         rw [if_pos (by rfl)]
         refine wp_store_row 83 (.tmp 23) (.tmp 191) rfl gq #[.int .i64 pd, .string pi] rfl rfl 83 _ hq pos_info rfl (one2 _ _) ?_
         have HKC := Lib.hid (HKB.out.rebox (i := 4) (cs' := #[.int .i64 pd, .string pi]) rfl)
         refine hK.out _ _ (Km.drop (m := Th.box gq (.cells #[.int .i64 pd, .string pi] 83 (0, 0))) HKC.out) (fun hHeld => ?_)
         clear hK K hq HKB
         generalize World.setRow _ _ _ = wst at hHeld HKC ⊢
         try simp only [actS]
         refine wpAnyH_take (i := 14) (oi := ⟨some 24, _, _, _, _, _⟩) (v := ?via14) rfl (by kernel_rfl) (by kernel_rfl) (by kernel_rfl) (fun _ _ _ h => h) (Or.inl ⟨by rfl, ?yia14⟩) hHeld ?ria14
         case yia14 =>
          intro wx hSx
          go_simp
          try with_reducible rfl
         try simp only [actS]
         refine wpAnyH_done (by kernel_rfl) ?_ _
         have HKE2 := Lib.hid (Km.keep (ms := [Z1.park, Z1.tab, Z2.park, Z2.tab]) (m := Th.box gq (.cells #[.int .i64 pd, .string pi] 83 (0, 0))) HKC.out)
         clear hHeld HKC
         go_wp2_with fail
         go_meet
         exact ⟨gq, rfl, rfl, HKE2⟩
        case wayDa =>
         have hq := heap_alloc_new wof (.cells #[.int .i64 0, .string ⟨#[]⟩] 83)
         have HKB := Lib.hid (hHeld.made (m := Th.box wof.heap.size (.cells #[.int .i64 0, .string ⟨#[]⟩] 83 (0, 0))) (below_new wof _) hq (fun k hk => Nat.le_of_eq hk.symm))
         have hH := hHeld.later (below_new wof (.cells #[.int .i64 0, .string ⟨#[]⟩] 83))
         go_simp
         generalize World.alloc _ _ = wal at hq hH HKB ⊢
         generalize wof.heap.size = gq at hq HKB ⊢
         refine hK.out _ _ hH (fun hHeld => ?_)
         clear hK K hH hq
         try simp only [actS]
         refine wpAnyH_ready (rs := [8]) (by kernel_rfl) (by simp) ?_
         refine AllReadyH.cons (o := ⟨some 190, _, _, _, _, _⟩) rfl (fun K hK => ?_) AllReadyH.nil
         have HG1 := HGET.out _ Z1 (hHeld.isM (i := 1) rfl)
         rw [HGA.out.1, HGA.out.2] at HG1
         simp only [Po.val] at HG1
         go_simp
         try go_invoke
         refine HG1.mono ?_
         rintro b wgt ⟨rfl, hb⟩
         replace HKB := Lib.hid (HKB.out.later hb)
         refine hK.out _ _ (hHeld.later hb) (fun hHeld => ?_)
         clear hK K hb HG1
         try simp only [actS]
         refine wpAnyH_take (i := 9) (oi := ⟨some 181, _, _, _, _, _⟩) (v := ?vja9) rfl (by kernel_rfl) (by kernel_rfl) (by kernel_rfl) (fun _ _ _ h => h) (Or.inl ⟨by rfl, ?yja9⟩) hHeld ?rja9
         case yja9 =>
          intro wx hSx
          go_simp
          try with_reducible rfl
         try simp only [actS]
         refine wpAnyH_take (i := 10) (oi := ⟨some 191, _, _, _, _, _⟩) (v := ?vja10) rfl (by kernel_rfl) (by kernel_rfl) (by kernel_rfl) (fun _ _ _ h => h) (Or.inl ⟨by rfl, ?yja10⟩) hHeld ?rja10
         case yja10 =>
          intro wx hSx
          go_simp
          try with_reducible rfl
         try simp only [actS]
         refine wpAnyH_take (i := 11) (oi := ⟨some 192, _, _, _, _, _⟩) (v := ?vja11) rfl (by kernel_rfl) (by kernel_rfl) (by kernel_rfl) (fun _ _ _ h => h) (Or.inl ⟨by rfl, ?yja11⟩) hHeld ?rja11
         case yja11 =>
          intro wx hSx
          go_simp
          try with_reducible rfl
         try simp only [actS]
         refine wpAnyH_ready (rs := [13]) (by kernel_rfl) (by simp) ?_
         refine AllReadyH.cons (o := ⟨none, _, _, _, _, _⟩) rfl (fun K hK => ?_) AllReadyH.nil
         have hq := HKB.out.isM (i := 4) rfl
         rw [if_pos (by rfl)]
         refine wp_store_row 83 (.tmp 23) (.tmp 191) rfl gq #[.int .i64 pd, .string pi] rfl rfl 83 _ hq pos_info rfl (one2 _ _) ?_
         have HKC := Lib.hid (HKB.out.rebox (i := 4) (cs' := #[.int .i64 pd, .string pi]) rfl)
         refine hK.out _ _ (Km.drop (m := Th.box gq (.cells #[.int .i64 pd, .string pi] 83 (0, 0))) HKC.out) (fun hHeld => ?_)
         clear hK K hq HKB
         generalize World.setRow _ _ _ = wst at hHeld HKC ⊢
         try simp only [actS]
         refine wpAnyH_take (i := 14) (oi := ⟨some 24, _, _, _, _, _⟩) (v := ?vja14) rfl (by kernel_rfl) (by kernel_rfl) (by kernel_rfl) (fun _ _ _ h => h) (Or.inl ⟨by rfl, ?yja14⟩) hHeld ?rja14
         case yja14 =>
          intro wx hSx
          go_simp
          try with_reducible rfl
         try simp only [actS]
         refine wpAnyH_done (by kernel_rfl) ?_ _
         have HKE2 := Lib.hid (Km.keep (ms := [Z1.park, Z1.tab, Z2.park, Z2.tab]) (m := Th.box gq (.cells #[.int .i64 pd, .string pi] 83 (0, 0))) HKC.out)
         clear hHeld HKC
         go_wp2_with fail
         go_meet
         exact ⟨gq, rfl, rfl, HKE2⟩
       case wayBa =>
        have hq := heap_alloc_new wd (.cells #[.int .i64 0, .string ⟨#[]⟩] 83)
        have HKB := Lib.hid (hHeld.made (m := Th.box wd.heap.size (.cells #[.int .i64 0, .string ⟨#[]⟩] 83 (0, 0))) (below_new wd _) hq (fun k hk => Nat.le_of_eq hk.symm))
        have hH := hHeld.later (below_new wd (.cells #[.int .i64 0, .string ⟨#[]⟩] 83))
        go_simp
        generalize World.alloc _ _ = wal at hq hH HKB ⊢
        generalize wd.heap.size = gq at hq HKB ⊢
        refine hK.out _ _ hH (fun hHeld => ?_)
        clear hK K hH hq
        try simp only [actS]
        refine wpAnyH_ready (rs := [5]) (by kernel_rfl) (by simp) ?_
        refine AllReadyH.cons (o := ⟨some 187, _, _, _, _, _⟩) rfl (fun K hK => ?_) AllReadyH.nil
        go_simp
        refine (HOFM.out _).mono ?_
        rintro b wof ⟨rfl, hb⟩
        replace HKB := Lib.hid (HKB.out.later hb)
        refine hK.out _ _ (hHeld.later hb) (fun hHeld => ?_)
        clear hK K hb
        try simp only [actS]
        refine wpAnyH_ready (rs := [8]) (by kernel_rfl) (by simp) ?_
        refine AllReadyH.cons (o := ⟨some 190, _, _, _, _, _⟩) rfl (fun K hK => ?_) AllReadyH.nil
        have HG1 := HGET.out _ Z1 (hHeld.isM (i := 1) rfl)
        rw [HGA.out.1, HGA.out.2] at HG1
        simp only [Po.val] at HG1
        go_simp
        try go_invoke
        refine HG1.mono ?_
        rintro b wgt ⟨rfl, hb⟩
        replace HKB := Lib.hid (HKB.out.later hb)
        refine hK.out _ _ (hHeld.later hb) (fun hHeld => ?_)
        clear hK K hb HG1
        try simp only [actS]
        refine wpAnyH_take (i := 9) (oi := ⟨some 181, _, _, _, _, _⟩) (v := ?vka9) rfl (by kernel_rfl) (by kernel_rfl) (by kernel_rfl) (fun _ _ _ h => h) (Or.inl ⟨by rfl, ?yka9⟩) hHeld ?rka9
        case yka9 =>
         intro wx hSx
         go_simp
         try with_reducible rfl
        try simp only [actS]
        refine wpAnyH_take (i := 10) (oi := ⟨some 191, _, _, _, _, _⟩) (v := ?vka10) rfl (by kernel_rfl) (by kernel_rfl) (by kernel_rfl) (fun _ _ _ h => h) (Or.inl ⟨by rfl, ?yka10⟩) hHeld ?rka10
        case yka10 =>
         intro wx hSx
         go_simp
         try with_reducible rfl
        try simp only [actS]
        refine wpAnyH_take (i := 11) (oi := ⟨some 192, _, _, _, _, _⟩) (v := ?vka11) rfl (by kernel_rfl) (by kernel_rfl) (by kernel_rfl) (fun _ _ _ h => h) (Or.inl ⟨by rfl, ?yka11⟩) hHeld ?rka11
        case yka11 =>
         intro wx hSx
         go_simp
         try with_reducible rfl
        try simp only [actS]
        refine wpAnyH_ready (rs := [13]) (by kernel_rfl) (by simp) ?_
        refine AllReadyH.cons (o := ⟨none, _, _, _, _, _⟩) rfl (fun K hK => ?_) AllReadyH.nil
        have hq := HKB.out.isM (i := 4) rfl
        rw [if_pos (by rfl)]
        refine wp_store_row 83 (.tmp 23) (.tmp 191) rfl gq #[.int .i64 pd, .string pi] rfl rfl 83 _ hq pos_info rfl (one2 _ _) ?_
        have HKC := Lib.hid (HKB.out.rebox (i := 4) (cs' := #[.int .i64 pd, .string pi]) rfl)
        refine hK.out _ _ (Km.drop (m := Th.box gq (.cells #[.int .i64 pd, .string pi] 83 (0, 0))) HKC.out) (fun hHeld => ?_)
        clear hK K hq HKB
        generalize World.setRow _ _ _ = wst at hHeld HKC ⊢
        try simp only [actS]
        refine wpAnyH_take (i := 14) (oi := ⟨some 24, _, _, _, _, _⟩) (v := ?vka14) rfl (by kernel_rfl) (by kernel_rfl) (by kernel_rfl) (fun _ _ _ h => h) (Or.inl ⟨by rfl, ?yka14⟩) hHeld ?rka14
        case yka14 =>
         intro wx hSx
         go_simp
         try with_reducible rfl
        try simp only [actS]
        refine wpAnyH_done (by kernel_rfl) ?_ _
        have HKE2 := Lib.hid (Km.keep (ms := [Z1.park, Z1.tab, Z2.park, Z2.tab]) (m := Th.box gq (.cells #[.int .i64 pd, .string pi] 83 (0, 0))) HKC.out)
        clear hHeld HKC
        go_wp2_with fail
        go_meet
        exact ⟨gq, rfl, rfl, HKE2⟩
      case rest =>
       obtain ⟨B23, rfl, rfl, HKR⟩ := hcut
       have HE23 := Lib.hid (show Th.box B23 (.cells #[.int .i64 pd, .string pi] 83 (0, 0)) ∈ Th.box B23 (.cells #[.int .i64 pd, .string pi] 83 (0, 0)) :: tsA from List.mem_cons_self)
       have HSA : Hid (∀ t ∈ tsA, t ∈ Th.box B23 (.cells #[.int .i64 pd, .string pi] 83 (0, 0)) :: tsA) := Lib.hid (fun t ht => List.mem_cons_of_mem _ ht)
       generalize Th.box B23 (.cells #[.int .i64 pd, .string pi] 83 (0, 0)) :: tsA = tsB at HE23 HSA HKR
       have HOC := Lib.hid (fun W (hk : Km codeDags w7 W [v2] [Z1.park, Z1.tab, Z2.park, Z2.tab] tsB) => HOB2.out W _ hk HSA.out)
       have M9B := Lib.hid (HSA.out _ M9.out)
       clear HKQ
       go_upto_region 31 with (fail)
       go_cut [25, 26] from 193 to 204 (fun sa sb wx => ∃ Bq, sa = .pointer (some ⟨Bq, 0, none⟩) ∧ sb = .bool bb ∧ Hid (Km codeDags w7 wx [v2] [Z1.park, Z1.tab, Z2.park, Z2.tab] (Th.box Bq (.cells #[.int .i64 pd, .string pi] 83 (0, 0)) :: tsB)))
       case first =>
        refine wp_region_held_drew (S := fun W => Km codeDags w7 W [v2] [Z1.park, Z1.tab, Z2.park, Z2.tab] tsB) (by kernel_rfl) (HKR.out.later (below_drew _)) (fun hHeld => ?_)
        clear HKR
        generalize World.drew _ = wd at hHeld ⊢
        refine wpAnyH_take (i := 0) (oi := ⟨some 194, _, _, _, _, _⟩) (v := ?vgb0) rfl (by kernel_rfl) (by kernel_rfl) (by kernel_rfl) (fun _ _ _ h => h) (Or.inl ⟨by rfl, ?ygb0⟩) hHeld ?rgb0
        case ygb0 =>
         intro wx hSx
         go_simp
         try with_reducible rfl
        try simp only [actS]
        refine wpAnyH_take (i := 1) (oi := ⟨some 195, _, _, _, _, _⟩) (v := ?vgb1) rfl (by kernel_rfl) (by kernel_rfl) (by kernel_rfl) (fun _ _ _ h => h) (Or.inl ⟨by rfl, ?ygb1⟩) hHeld ?rgb1
        case ygb1 =>
         intro wx hSx
         go_simp
         try with_reducible rfl
        try simp only [actS]
        refine wpAnyH_take (i := 2) (oi := ⟨some 196, _, _, _, _, _⟩) (v := ?vgb2) rfl (by kernel_rfl) (by kernel_rfl) (by kernel_rfl) (fun _ _ _ h => h) (Or.inl ⟨by rfl, ?ygb2⟩) hHeld ?rgb2
        case ygb2 =>
         intro wx hSx
         go_simp
         try with_reducible rfl
        try simp only [actS]
        refine wpAnyH_take (i := 3) (oi := ⟨some 197, _, _, _, _, _⟩) (v := ?vgb3) rfl (by kernel_rfl) (by kernel_rfl) (by kernel_rfl) (fun _ _ _ h => h) (Or.inl ⟨by rfl, ?ygb3⟩) hHeld ?rgb3
        case ygb3 =>
         intro wx hSx
         obtain ⟨e0, e1, e2, e3⟩ := mkO_at (x := Z2) (HOC.out wx hSx)
         go_simp
         try with_reducible rfl
        try simp only [actS]
        refine wpAnyH_take (i := 4) (oi := ⟨some 198, _, _, _, _, _⟩) (v := ?vgb4) rfl (by kernel_rfl) (by kernel_rfl) (by kernel_rfl) (fun _ _ _ h => h) (Or.inl ⟨by rfl, ?ygb4⟩) hHeld ?rgb4
        case ygb4 =>
         intro wx hSx
         obtain ⟨d0, d1, d2, d3, d4, d5, d6, d7, d8, d9, d10⟩ := cells11 (hSx.isT M9B.out)
         go_simp
         try with_reducible rfl
        try simp only [actS]
        refine wpAnyH_take (i := 6) (oi := ⟨some 200, _, _, _, _, _⟩) (v := ?vgb6) rfl (by kernel_rfl) (by kernel_rfl) (by kernel_rfl) (fun _ _ _ h => h) (Or.inl ⟨by rfl, ?ygb6⟩) hHeld ?rgb6
        case ygb6 =>
         intro wx hSx
         go_simp
         try with_reducible rfl
        try simp only [actS]
        refine wpAnyH_take (i := 7) (oi := ⟨some 201, _, _, _, _, _⟩) (v := ?vgb7) rfl (by kernel_rfl) (by kernel_rfl) (by kernel_rfl) (fun _ _ _ h => h) (Or.inl ⟨by rfl, ?ygb7⟩) hHeld ?rgb7
        case ygb7 =>
         intro wx hSx
         go_simp
         try with_reducible rfl
        try simp only [actS]
        refine wpAnyH_ready (rs := [5, 12]) (by kernel_rfl) (by simp) ?_
        refine AllReadyH.cons (o := ⟨some 199, _, _, _, _, _⟩) rfl (fun K hK => ?wayAb) (AllReadyH.cons (o := ⟨some 25, _, _, _, _, _⟩) rfl (fun K hK => ?wayBb) AllReadyH.nil)
        case wayAb =>
         go_simp
         refine (HOFM.out _).mono ?_
         rintro b wof ⟨rfl, hb⟩
         skip
         refine hK.out _ _ (hHeld.later hb) (fun hHeld => ?_)
         clear hK K hb
         try simp only [actS]
         refine wpAnyH_ready (rs := [8, 12]) (by kernel_rfl) (by simp) ?_
         refine AllReadyH.cons (o := ⟨some 202, _, _, _, _, _⟩) rfl (fun K hK => ?wayCb) (AllReadyH.cons (o := ⟨some 25, _, _, _, _, _⟩) rfl (fun K hK => ?wayDb) AllReadyH.nil)
         case wayCb =>
          have HG1 := HGET.out _ Z2 (hHeld.isM (i := 3) rfl)
          rw [HGB.out.1, HGB.out.2] at HG1
          simp only [Po.val] at HG1
          go_simp
          try go_invoke
          refine HG1.mono ?_
          rintro b wgt ⟨rfl, hb⟩
          skip
          refine hK.out _ _ (hHeld.later hb) (fun hHeld => ?_)
          clear hK K hb HG1
          try simp only [actS]
          refine wpAnyH_take (i := 9) (oi := ⟨some 193, _, _, _, _, _⟩) (v := ?vib9) rfl (by kernel_rfl) (by kernel_rfl) (by kernel_rfl) (fun _ _ _ h => h) (Or.inl ⟨by rfl, ?yib9⟩) hHeld ?rib9
          case yib9 =>
           intro wx hSx
           go_simp
           try with_reducible rfl
          try simp only [actS]
          refine wpAnyH_take (i := 10) (oi := ⟨some 203, _, _, _, _, _⟩) (v := ?vib10) rfl (by kernel_rfl) (by kernel_rfl) (by kernel_rfl) (fun _ _ _ h => h) (Or.inl ⟨by rfl, ?yib10⟩) hHeld ?rib10
          case yib10 =>
           intro wx hSx
           go_simp
           try with_reducible rfl
          try simp only [actS]
          refine wpAnyH_take (i := 11) (oi := ⟨some 204, _, _, _, _, _⟩) (v := ?vib11) rfl (by kernel_rfl) (by kernel_rfl) (by kernel_rfl) (fun _ _ _ h => h) (Or.inl ⟨by rfl, ?yib11⟩) hHeld ?rib11
          case yib11 =>
           intro wx hSx
           go_simp
           try with_reducible rfl
          try simp only [actS]
          refine wpAnyH_ready (rs := [12]) (by kernel_rfl) (by simp) ?_
          refine AllReadyH.cons (o := ⟨some 25, _, _, _, _, _⟩) rfl (fun K hK => ?_) AllReadyH.nil
          have hq := heap_alloc_new wgt (.cells #[.int .i64 0, .string ⟨#[]⟩] 83)
          have HKB := Lib.hid (hHeld.made (m := Th.box wgt.heap.size (.cells #[.int .i64 0, .string ⟨#[]⟩] 83 (0, 0))) (below_new wgt _) hq (fun k hk => Nat.le_of_eq hk.symm))
          have hH := hHeld.later (below_new wgt (.cells #[.int .i64 0, .string ⟨#[]⟩] 83))
          go_simp
          generalize World.alloc _ _ = wal at hq hH HKB ⊢
          generalize wgt.heap.size = gq at hq HKB ⊢
          refine hK.out _ _ hH (fun hHeld => ?_)
          clear hK K hH hq
          try simp only [actS]
          refine wpAnyH_ready (rs := [13]) (by kernel_rfl) (by simp) ?_
          refine AllReadyH.cons (o := ⟨none, _, _, _, _, _⟩) rfl (fun K hK => ?_) AllReadyH.nil
          have hq := HKB.out.isM (i := 4) rfl
          rw [if_pos (by rfl)]
          refine wp_store_row 83 (.tmp 25) (.tmp 203) rfl gq #[.int .i64 pd, .string pi] rfl rfl 83 _ hq pos_info rfl (one2 _ _) ?_
          have HKC := Lib.hid (HKB.out.rebox (i := 4) (cs' := #[.int .i64 pd, .string pi]) rfl)
          refine hK.out _ _ (Km.drop (m := Th.box gq (.cells #[.int .i64 pd, .string pi] 83 (0, 0))) HKC.out) (fun hHeld => ?_)
          clear hK K hq HKB
          generalize World.setRow _ _ _ = wst at hHeld HKC ⊢
          try simp only [actS]
          refine wpAnyH_take (i := 14) (oi := ⟨some 26, _, _, _, _, _⟩) (v := ?vib14) rfl (by kernel_rfl) (by kernel_rfl) (by kernel_rfl) (fun _ _ _ h => h) (Or.inl ⟨by rfl, ?yib14⟩) hHeld ?rib14
          case yib14 =>
           intro wx hSx
           go_simp
           try with_reducible rfl
          try simp only [actS]
          refine wpAnyH_done (by kernel_rfl) ?_ _
          have HKE2 := Lib.hid (Km.keep (ms := [Z1.park, Z1.tab, Z2.park, Z2.tab]) (m := Th.box gq (.cells #[.int .i64 pd, .string pi] 83 (0, 0))) HKC.out)
          clear hHeld HKC
          go_wp2_with fail
          go_meet
          exact ⟨gq, rfl, rfl, HKE2⟩
         case wayDb =>
          have hq := heap_alloc_new wof (.cells #[.int .i64 0, .string ⟨#[]⟩] 83)
          have HKB := Lib.hid (hHeld.made (m := Th.box wof.heap.size (.cells #[.int .i64 0, .string ⟨#[]⟩] 83 (0, 0))) (below_new wof _) hq (fun k hk => Nat.le_of_eq hk.symm))
          have hH := hHeld.later (below_new wof (.cells #[.int .i64 0, .string ⟨#[]⟩] 83))
          go_simp
          generalize World.alloc _ _ = wal at hq hH HKB ⊢
          generalize wof.heap.size = gq at hq HKB ⊢
          refine hK.out _ _ hH (fun hHeld => ?_)
          clear hK K hH hq
          try simp only [actS]
          refine wpAnyH_ready (rs := [8]) (by kernel_rfl) (by simp) ?_
          refine AllReadyH.cons (o := ⟨some 202, _, _, _, _, _⟩) rfl (fun K hK => ?_) AllReadyH.nil
          have HG1 := HGET.out _ Z2 (hHeld.isM (i := 3) rfl)
          rw [HGB.out.1, HGB.out.2] at HG1
          simp only [Po.val] at HG1
          go_simp
          try go_invoke
          refine HG1.mono ?_
          rintro b wgt ⟨rfl, hb⟩
          replace HKB := Lib.hid (HKB.out.later hb)
          refine hK.out _ _ (hHeld.later hb) (fun hHeld => ?_)
          clear hK K hb HG1
          try simp only [actS]
          refine wpAnyH_take (i := 9) (oi := ⟨some 193, _, _, _, _, _⟩) (v := ?vjb9) rfl (by kernel_rfl) (by kernel_rfl) (by kernel_rfl) (fun _ _ _ h => h) (Or.inl ⟨by rfl, ?yjb9⟩) hHeld ?rjb9
          case yjb9 =>
           intro wx hSx
           go_simp
           try with_reducible rfl
          try simp only [actS]
          refine wpAnyH_take (i := 10) (oi := ⟨some 203, _, _, _, _, _⟩) (v := ?vjb10) rfl (by kernel_rfl) (by kernel_rfl) (by kernel_rfl) (fun _ _ _ h => h) (Or.inl ⟨by rfl, ?yjb10⟩) hHeld ?rjb10
          case yjb10 =>
           intro wx hSx
           go_simp
           try with_reducible rfl
          try simp only [actS]
          refine wpAnyH_take (i := 11) (oi := ⟨some 204, _, _, _, _, _⟩) (v := ?vjb11) rfl (by kernel_rfl) (by kernel_rfl) (by kernel_rfl) (fun _ _ _ h => h) (Or.inl ⟨by rfl, ?yjb11⟩) hHeld ?rjb11
          case yjb11 =>
           intro wx hSx
           go_simp
           try with_reducible rfl
          try simp only [actS]
          refine wpAnyH_ready (rs := [13]) (by kernel_rfl) (by simp) ?_
          refine AllReadyH.cons (o := ⟨none, _, _, _, _, _⟩) rfl (fun K hK => ?_) AllReadyH.nil
          have hq := HKB.out.isM (i := 4) rfl
          rw [if_pos (by rfl)]
          refine wp_store_row 83 (.tmp 25) (.tmp 203) rfl gq #[.int .i64 pd, .string pi] rfl rfl 83 _ hq pos_info rfl (one2 _ _) ?_
          have HKC := Lib.hid (HKB.out.rebox (i := 4) (cs' := #[.int .i64 pd, .string pi]) rfl)
          refine hK.out _ _ (Km.drop (m := Th.box gq (.cells #[.int .i64 pd, .string pi] 83 (0, 0))) HKC.out) (fun hHeld => ?_)
          clear hK K hq HKB
          generalize World.setRow _ _ _ = wst at hHeld HKC ⊢
          try simp only [actS]
          refine wpAnyH_take (i := 14) (oi := ⟨some 26, _, _, _, _, _⟩) (v := ?vjb14) rfl (by kernel_rfl) (by kernel_rfl) (by kernel_rfl) (fun _ _ _ h => h) (Or.inl ⟨by rfl, ?yjb14⟩) hHeld ?rjb14
          case yjb14 =>
           intro wx hSx
           go_simp
           try with_reducible rfl
          try simp only [actS]
          refine wpAnyH_done (by kernel_rfl) ?_ _
          have HKE2 := Lib.hid (Km.keep (ms := [Z1.park, Z1.tab, Z2.park, Z2.tab]) (m := Th.box gq (.cells #[.int .i64 pd, .string pi] 83 (0, 0))) HKC.out)
          clear hHeld HKC
          go_wp2_with fail
          go_meet
          exact ⟨gq, rfl, rfl, HKE2⟩
        case wayBb =>
         have hq := heap_alloc_new wd (.cells #[.int .i64 0, .string ⟨#[]⟩] 83)
         have HKB := Lib.hid (hHeld.made (m := Th.box wd.heap.size (.cells #[.int .i64 0, .string ⟨#[]⟩] 83 (0, 0))) (below_new wd _) hq (fun k hk => Nat.le_of_eq hk.symm))
         have hH := hHeld.later (below_new wd (.cells #[.int .i64 0, .string ⟨#[]⟩] 83))
         go_simp
         generalize World.alloc _ _ = wal at hq hH HKB ⊢
         generalize wd.heap.size = gq at hq HKB ⊢
         refine hK.out _ _ hH (fun hHeld => ?_)
         clear hK K hH hq
         try simp only [actS]
         refine wpAnyH_ready (rs := [5]) (by kernel_rfl) (by simp) ?_
         refine AllReadyH.cons (o := ⟨some 199, _, _, _, _, _⟩) rfl (fun K hK => ?_) AllReadyH.nil
         go_simp
         refine (HOFM.out _).mono ?_
         rintro b wof ⟨rfl, hb⟩
         replace HKB := Lib.hid (HKB.out.later hb)
         refine hK.out _ _ (hHeld.later hb) (fun hHeld => ?_)
         clear hK K hb
         try simp only [actS]
         refine wpAnyH_ready (rs := [8]) (by kernel_rfl) (by simp) ?_
         refine AllReadyH.cons (o := ⟨some 202, _, _, _, _, _⟩) rfl (fun K hK => ?_) AllReadyH.nil
         have HG1 := HGET.out _ Z2 (hHeld.isM (i := 3) rfl)
         rw [HGB.out.1, HGB.out.2] at HG1
         simp only [Po.val] at HG1
         go_simp
         try go_invoke
         refine HG1.mono ?_
         rintro b wgt ⟨rfl, hb⟩
         replace HKB := Lib.hid (HKB.out.later hb)
         refine hK.out _ _ (hHeld.later hb) (fun hHeld => ?_)
         clear hK K hb HG1
         try simp only [actS]
         refine wpAnyH_take (i := 9) (oi := ⟨some 193, _, _, _, _, _⟩) (v := ?vkb9) rfl (by kernel_rfl) (by kernel_rfl) (by kernel_rfl) (fun _ _ _ h => h) (Or.inl ⟨by rfl, ?ykb9⟩) hHeld ?rkb9
         case ykb9 =>
          intro wx hSx
          go_simp
          try with_reducible rfl
         try simp only [actS]
         refine wpAnyH_take (i := 10) (oi := ⟨some 203, _, _, _, _, _⟩) (v := ?vkb10) rfl (by kernel_rfl) (by kernel_rfl) (by kernel_rfl) (fun _ _ _ h => h) (Or.inl ⟨by rfl, ?ykb10⟩) hHeld ?rkb10
         case ykb10 =>
          intro wx hSx
          go_simp
          try with_reducible rfl
         try simp only [actS]
         refine wpAnyH_take (i := 11) (oi := ⟨some 204, _, _, _, _, _⟩) (v := ?vkb11) rfl (by kernel_rfl) (by kernel_rfl) (by kernel_rfl) (fun _ _ _ h => h) (Or.inl ⟨by rfl, ?ykb11⟩) hHeld ?rkb11
         case ykb11 =>
          intro wx hSx
          go_simp
          try with_reducible rfl
         try simp only [actS]
         refine wpAnyH_ready (rs := [13]) (by kernel_rfl) (by simp) ?_
         refine AllReadyH.cons (o := ⟨none, _, _, _, _, _⟩) rfl (fun K hK => ?_) AllReadyH.nil
         have hq := HKB.out.isM (i := 4) rfl
         rw [if_pos (by rfl)]
         refine wp_store_row 83 (.tmp 25) (.tmp 203) rfl gq #[.int .i64 pd, .string pi] rfl rfl 83 _ hq pos_info rfl (one2 _ _) ?_
         have HKC := Lib.hid (HKB.out.rebox (i := 4) (cs' := #[.int .i64 pd, .string pi]) rfl)
         refine hK.out _ _ (Km.drop (m := Th.box gq (.cells #[.int .i64 pd, .string pi] 83 (0, 0))) HKC.out) (fun hHeld => ?_)
         clear hK K hq HKB
         generalize World.setRow _ _ _ = wst at hHeld HKC ⊢
         try simp only [actS]
         refine wpAnyH_take (i := 14) (oi := ⟨some 26, _, _, _, _, _⟩) (v := ?vkb14) rfl (by kernel_rfl) (by kernel_rfl) (by kernel_rfl) (fun _ _ _ h => h) (Or.inl ⟨by rfl, ?ykb14⟩) hHeld ?rkb14
         case ykb14 =>
          intro wx hSx
          go_simp
          try with_reducible rfl
         try simp only [actS]
         refine wpAnyH_done (by kernel_rfl) ?_ _
         have HKE2 := Lib.hid (Km.keep (ms := [Z1.park, Z1.tab, Z2.park, Z2.tab]) (m := Th.box gq (.cells #[.int .i64 pd, .string pi] 83 (0, 0))) HKC.out)
         clear hHeld HKC
         go_wp2_with fail
         go_meet
         exact ⟨gq, rfl, rfl, HKE2⟩
       case rest =>
        obtain ⟨B25, rfl, rfl, HKF⟩ := hcut
        have y0 := cell_at (HKF.out.isT (List.mem_cons_of_mem _ HE23.out)) 0
        have y1 := cell_at (HKF.out.isT (List.mem_cons_of_mem _ HE23.out)) 1
        have z0 := cell_at (HKF.out.isT List.mem_cons_self) 0
        have z1 := cell_at (HKF.out.isT List.mem_cons_self) 1
        simp only [List.getElem?_toArray, List.getElem?_cons_succ, List.getElem?_cons_zero] at y0 y1 z0 z1
        have hqp := eqlP ⟨pd, pi⟩ ⟨pd, pi⟩
        have HBF := Lib.hid (HB7.out.trans (HKF.out.below.mono HB7.out.size))
        have q7 : (bb == bb) = true := by simp
        clear HKR
        go_wp2_with fail
        go_at_call 25
        refine (HLV.out _).mono ?_
        rintro b w20 ⟨rfl, hb⟩
        have HBL := Lib.hid (HBF.out.trans (hb.mono HBF.out.size))
        clear hb y0 y1 z0 z1 HKF
        go_wp2_with fail
        go_ret
        exact ⟨rfl, HBL.out⟩
end Go.Proofs.YtnnapkakbdpkaaaGreat
