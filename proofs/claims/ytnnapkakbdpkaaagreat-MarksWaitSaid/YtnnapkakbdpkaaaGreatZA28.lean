/-
  What the statements stand on, part ZA28.
-/
import Derived.Test.YtnnapkakbdpkaaaGreatZA27
set_option linter.unusedVariables false
set_option linter.unusedSimpArgs false
namespace Go.Proofs.YtnnapkakbdpkaaaGreat
set_option maxRecDepth 20000
open Go.RowKit
section
variable {w wr : World} {vs : List VI} {ts ms : List Th} {vi : VI} {q i j : Nat} {x : MkI}
set_option maxHeartbeats 3200000 in
theorem marksTake_any (h : Km codeDags w wr vs ms ts) (hq : vs[q]? = some vi) (ha : AtM x i j ms ts) (hl : x.r.l.length ≤ 100000) (e : Edu) (he : e.small) :
  Calls Tryz.prog 45 #[.pointer (some ⟨x.g, 0, none⟩), .pointer (some ⟨vi.g, 0, none⟩), e.val] wr fun a w' => ∃ r' : RI, a = .returned (.tuple #[.bool (x.ms.tkOn vi.V e), .int .i64 (fitV vi.V e)]) ∧ r'.g = x.r.g ∧ r'.l = (x.ms.tk vi.V e).l ∧ Km codeDags w w' vs (ms.set j (Th.tab r')) ts := by
 have HOF := Lib.hid (fun W => ofM_any e he.brief W)
 have HOK : Hid ((markE vi.V e).ok) := Lib.hid ⟨⟨he.brief.1, he.brief.2.1, he.brief.2.2.2⟩, by
  show (posV vi.V e.room e.event).id.size ≤ 281474976710656
  unfold posV
  cases hasE (ofL vi.V e.room) e.event
  ·exact Nat.zero_le _
  ·exact he.brief.2.2.1⟩
 have HON : Hid (x.ms.tkOn vi.V e = (decide (fitV vi.V e = 0) && onM x.r.l (markE vi.V e))) := Lib.hid rfl
 have HTK : Hid ((x.ms.tk vi.V e).l = if fitV vi.V e = 0 then putM x.r.l (markE vi.V e) else x.r.l) := Lib.hid (by unfold Ms.tk; split <;> rfl)
 have HMV : Hid (markE vi.V e = ⟨keyE e, posV vi.V e.room e.event⟩) := Lib.hid rfl
 have HFV : Hid (fitsL (ofL vi.V e.room) e.event e.thread = fitV vi.V e) := Lib.hid rfl
 have HFIT := Lib.hid (fun W ts' (hk : Kv codeDags w W vs ts') => viewFits_any hk hq e.room e.event e.thread he.room (maxLen_40 he.event))
 have HPOS := Lib.hid (fun W ts' (hk : Kv codeDags w W vs ts') => viewPosition_any hk hq e.room e.event he.room (maxLen_40 he.event))
 have HPV : Hid (posV vi.V e.room e.event = (bif hasE (ofL vi.V e.room) e.event then posL (ofL vi.V e.room) e.event else ⟨0, ⟨#[]⟩⟩)) := Lib.hid rfl
 rw [HFV.out] at HFIT
 rw [← HPV.out] at HPOS
 rw [HMV.out] at HON HTK HOK
 clear he HMV HFV HPV
 generalize posV vi.V e.room e.event = po at *
 generalize fitV vi.V e = f at *
 generalize hasE (ofL vi.V e.room) e.event = hb at *
 obtain ⟨k, r, u, z, t, pr, o, s, y, c, m⟩ := e
 simp only [Edu.val, keyE, Rk.val] at *
 obtain ⟨pd, pi⟩ := po
 simp only [Po.val] at *
 have HK := Lib.hid (h.add (t := Th.box wr.heap.size (.cells #[.int .i64 k, .string r, .string u, .string z, .string t, .bool pr, .bool o, .int .i64 s, .int .i64 y, .int .i64 c, .int .i64 m] 43 (0, 0))) (below_new wr _) (heap_alloc_new wr _) (fun k hk => .inl (Nat.le_of_eq hk.symm)))
 have HA : Hid (∀ t t' : Th, AtM x i j ms (t :: t' :: ts)) := Lib.hid (fun t t' => ha.more.more)
 have HAJ := Lib.hid ha.hj
 have HA0 := Lib.hid ha
 clear h ha
 go_enter Tryz.func45, Tryz.ntmps45
 go_upto_region 1 with (fail)
 generalize World.alloc _ _ = w1 at HK ⊢
 obtain ⟨g5, hg5⟩ : ∃ g, wr.heap.size = g := ⟨_, rfl⟩
 rw [hg5] at HK ⊢
 clear hg5
 obtain ⟨d0, d1, d2, d3, d4, d5, d6, d7, d8, d9, d10⟩ := cells11 (HK.out.isT List.mem_cons_self)
 go_wp2_with fail
 go_at_call 70
 refine (HFIT.out _ _ HK.out.kv).mono ?_
 rintro a w2 ⟨rfl, hk⟩
 have HK2 := Lib.hid (HK.out.ofKv hk)
 clear d0 d1 d2 d3 d4 d5 d6 d7 d8 d9 d10 HK hk HFIT
 by_cases hf : f = 0
 case neg =>
  have q1 : decide (f = 0) = false := decide_eq_false hf
  have q2 : (f != 0) = true := by simp [hf]
  rw [q1, Bool.false_and] at HON
  rw [if_neg hf] at HTK
  have HR := Lib.hid (HK2.out.less (ts' := ts) (fun t ht => List.mem_cons_of_mem _ ht))
  have HS : Hid (ms.set j (Th.tab x.r) = ms) := Lib.hid (set_is HAJ.out)
  clear HK2 HPOS HOF hf
  go_wp2_with fail
  refine bodyPost_ret (v := .tuple #[.bool false, .int .i64 f]) ?_ rfl ⟨x.r, by rw [HON.out], rfl, HTK.out.symm, by rw [HS.out]; exact HR.out⟩
  simp [results, Tryz.results45, go_sem]
 subst hf
 rw [decide_eq_true (rfl : (0 : Int) = 0), Bool.true_and] at HON
 rw [if_pos rfl] at HTK
 obtain ⟨d0, d1, d2, d3, d4, d5, d6, d7, d8, d9, d10⟩ := cells11 (HK2.out.isT List.mem_cons_self)
 go_wp2_with fail
 go_at_call 29
 refine (HPOS.out _ _ HK2.out.kv).mono ?_
 rintro a w3 ⟨p, rfl, rfl, hk⟩
 have HK3 := Lib.hid (HK2.out.ofKv hk)
 clear d0 d1 d2 d3 d4 d5 d6 d7 d8 d9 d10 HK2 hk HPOS
 have hn := heap_alloc_new w3 (.cells #[.int .i64 0, .string ⟨#[]⟩] 83)
 have HK4 := Lib.hid (HK3.out.add (t := Th.box w3.heap.size (.cells #[.int .i64 pd, .string pi] 83 (0, 0))) (below_setRow (below_new w3 (.cells #[.int .i64 0, .string ⟨#[]⟩] 83)) (Nat.le_refl _) #[.int .i64 pd, .string pi]) (setRow_heap _ _ _ _ _ _ hn) (fun k hk => .inl (Nat.le_of_eq hk.symm)))
 simp only [Po.val]
 go_upto_region 5 with (refine wpList_store_row rfl 83 (.tmp 9) (.tmp 29) rfl w3.heap.size #[.int .i64 pd, .string pi] rfl rfl 83 _ hn pos_info rfl (one2 _ _) ?_)
 clear hn
 generalize World.setRow _ _ _ = w4 at HK4 ⊢
 obtain ⟨g9, hg9⟩ : ∃ g, w3.heap.size = g := ⟨_, rfl⟩
 rw [hg9] at HK4 ⊢
 clear hg9 HK3
 replace HK4 := Lib.hid (HK4.out.later (below_drew w4))
 have hSD : w4.drew.heap[x.g]? = some (.cells (mkO x.r.g x.b) 71 (0, 0)) ∧ w4.drew.heap[g5]? = some (.cells #[.int .i64 k, .string r, .string u, .string z, .string t, .bool pr, .bool o, .int .i64 s, .int .i64 y, .int .i64 c, .int .i64 m] 43 (0, 0)) ∧ w4.drew.heap[g9]? = some (.cells #[.int .i64 pd, .string pi] 83 (0, 0)) := ⟨HK4.out.isT (HA.out _ _).hb, HK4.out.isT (List.mem_cons_of_mem _ List.mem_cons_self), HK4.out.isT List.mem_cons_self⟩
 refine wp_region_held_drew (S := fun W => W.heap[x.g]? = some (.cells (mkO x.r.g x.b) 71 (0, 0)) ∧ W.heap[g5]? = some (.cells #[.int .i64 k, .string r, .string u, .string z, .string t, .bool pr, .bool o, .int .i64 s, .int .i64 y, .int .i64 c, .int .i64 m] 43 (0, 0)) ∧ W.heap[g9]? = some (.cells #[.int .i64 pd, .string pi] 83 (0, 0))) (by kernel_rfl) hSD (fun hHeld => ?_)
 clear hSD
 generalize World.drew _ = wd at hHeld HK4 ⊢
 refine wpAnyH_take (i := 0) (oi := ⟨some 31, _, _, _, _, _⟩) (v := ?vrq0) rfl (by kernel_rfl) (by kernel_rfl) (by kernel_rfl) (fun _ _ _ h => h) (Or.inl ⟨by rfl, ?yrq0⟩) hHeld ?rrq0
 case yrq0 =>
  intro wx hSx
  go_simp
  try with_reducible rfl
 try simp only [actS]
 refine wpAnyH_take (i := 1) (oi := ⟨some 32, _, _, _, _, _⟩) (v := ?vrq1) rfl (by kernel_rfl) (by kernel_rfl) (by kernel_rfl) (fun _ _ _ h => h) (Or.inl ⟨by rfl, ?yrq1⟩) hHeld ?rrq1
 case yrq1 =>
  intro wx hSx
  obtain ⟨e0, e1, e2, e3⟩ := mkO_at hSx.1
  go_simp
  try with_reducible rfl
 try simp only [actS]
 refine wpAnyH_take (i := 2) (oi := ⟨some 33, _, _, _, _, _⟩) (v := ?vrq2) rfl (by kernel_rfl) (by kernel_rfl) (by kernel_rfl) (fun _ _ _ h => h) (Or.inl ⟨by rfl, ?yrq2⟩) hHeld ?rrq2
 case yrq2 =>
  intro wx hSx
  go_simp
  try with_reducible rfl
 try simp only [actS]
 refine wpAnyH_take (i := 3) (oi := ⟨some 34, _, _, _, _, _⟩) (v := ?vrq3) rfl (by kernel_rfl) (by kernel_rfl) (by kernel_rfl) (fun _ _ _ h => h) (Or.inl ⟨by rfl, ?yrq3⟩) hHeld ?rrq3
 case yrq3 =>
  intro wx hSx
  obtain ⟨e0, e1, e2, e3⟩ := mkO_at hSx.1
  go_simp
  try with_reducible rfl
 try simp only [actS]
 refine wpAnyH_take (i := 4) (oi := ⟨some 35, _, _, _, _, _⟩) (v := ?vrq4) rfl (by kernel_rfl) (by kernel_rfl) (by kernel_rfl) (fun _ _ _ h => h) (Or.inl ⟨by rfl, ?yrq4⟩) hHeld ?rrq4
 case yrq4 =>
  intro wx hSx
  obtain ⟨d0, d1, d2, d3, d4, d5, d6, d7, d8, d9, d10⟩ := cells11 hSx.2.1
  go_simp
  try with_reducible rfl
 try simp only [actS]
 refine wpAnyH_take (i := 6) (oi := ⟨some 37, _, _, _, _, _⟩) (v := ?vrq6) rfl (by kernel_rfl) (by kernel_rfl) (by kernel_rfl) (fun _ _ _ h => h) (Or.inl ⟨by rfl, ?yrq6⟩) hHeld ?rrq6
 case yrq6 =>
  intro wx hSx
  have y0 := cell_at hSx.2.2 0
  have y1 := cell_at hSx.2.2 1
  simp only [List.getElem?_toArray, List.getElem?_cons_succ, List.getElem?_cons_zero] at y0 y1
  go_simp
  try with_reducible rfl
 try simp only [actS]
 refine wpAnyH_ready (rs := [5]) (by kernel_rfl) (by simp) ?_
 refine AllReadyH.cons (o := ⟨some 36, _, _, _, _, _⟩) rfl (fun K hK => ?_) AllReadyH.nil
 go_simp
 refine (HOF.out _).mono ?_
 rintro a wa ⟨rfl, hb⟩
 have HKA := Lib.hid (HK4.out.later hb)
 refine hK.out _ _ ⟨(hb.block _ (smem_lt hHeld.1)).trans hHeld.1, (hb.block _ (smem_lt hHeld.2.1)).trans hHeld.2.1, (hb.block _ (smem_lt hHeld.2.2)).trans hHeld.2.2⟩ (fun hHeld => ?_)
 clear hK K hb
 try simp only [actS]
 refine wpAnyH_ready (rs := [7]) (by kernel_rfl) (by simp) ?_
 refine AllReadyH.cons (o := ⟨some 38, _, _, _, _, _⟩) rfl (fun K hK => ?_) AllReadyH.nil
 have HT1 := rcPut_any (HKA.out.isM HAJ.out) (by omega) ⟨r, u, t, pr⟩ ⟨pd, pi⟩ HOK.out
 simp only [Rk.val, Po.val] at HT1
 go_simp
 refine HT1.mono ?_
 rintro a wb ⟨rfl, hput⟩
 obtain ⟨r', e1, e2, e3, hkb⟩ := HKA.out.tabP HAJ.out hput
 have HKB := Lib.hid hkb
 refine hK.out _ _ ⟨hkb.isT (HA.out _ _).hb, hkb.isT (List.mem_cons_of_mem _ List.mem_cons_self), hkb.isT List.mem_cons_self⟩ (fun hHeld => ?_)
 clear hK K hput HT1 hkb
 try simp only [actS]
 refine wpAnyH_take (i := 8) (oi := ⟨some 6, _, _, _, _, _⟩) (v := ?vrq8) rfl (by kernel_rfl) (by kernel_rfl) (by kernel_rfl) (fun _ _ _ h => h) (Or.inl ⟨by rfl, ?yrq8⟩) hHeld ?rrq8
 case yrq8 =>
  intro wx hSx
  go_simp
  try with_reducible rfl
 try simp only [actS]
 refine wpAnyH_take (i := 9) (oi := ⟨some 7, _, _, _, _, _⟩) (v := ?vrq9) rfl (by kernel_rfl) (by kernel_rfl) (by kernel_rfl) (fun _ _ _ h => h) (Or.inl ⟨by rfl, ?yrq9⟩) hHeld ?rrq9
 case yrq9 =>
  intro wx hSx
  go_simp
  try with_reducible rfl
 try simp only [actS]
 refine wpAnyH_done (by kernel_rfl) ?_ _
 have HR := Lib.hid (HKB.out.less (ts' := ts) (fun t ht => List.mem_cons_of_mem _ (List.mem_cons_of_mem _ ht)))
 have HE := Lib.hid (And.intro e1 e3)
 clear hHeld HKB HKA HK4 e1 e2 e3
 go_wp2_with fail
 refine bodyPost_ret (v := .tuple #[.bool (onM x.r.l ⟨⟨r, u, t, pr⟩, ⟨pd, pi⟩⟩), .int .i64 0]) ?_ rfl ⟨r', by rw [HON.out], HE.out.1, by rw [HTK.out]; exact HE.out.2, HR.out⟩
 simp [results, Tryz.results45, go_sem]
end
end Go.Proofs.YtnnapkakbdpkaaaGreat

namespace Go.Proofs.YtnnapkakbdpkaaaGreat
set_option maxRecDepth 20000
open Go.RowKit
section
variable {w wr : World} {vs : List VI} {ts ms : List Th} {vi : VI} {q i j : Nat} {x : MkI}
set_option maxHeartbeats 3200000 in
theorem marksPut_any (h : Km codeDags w wr vs ms ts) (hq : vs[q]? = some vi) (ha : AtM x i j ms ts) (hl : x.r.l.length ≤ 100000) (hpl : x.p.l.length ≤ 100000) (hpc : x.p.lost ≤ 100000) (hpm : x.p.most ≤ 100000) (e : Edu) (he : e.small) :
  Calls Tryz.prog 15 #[.pointer (some ⟨x.g, 0, none⟩), .pointer (some ⟨vi.g, 0, none⟩), e.val] wr fun a w' => ∃ x' : MkI, a = .returned (.tuple #[.bool (x.ms.on vi.V e), .int .i64 (Ms.err vi.V e)]) ∧ x.to x' (x.ms.put vi.V e) ∧ Km codeDags w w' vs ((ms.set i x'.park).set j x'.tab) ts := by
 have HNO := Lib.hid (fun hn => Ms.put_no (s := x.ms) (V := vi.V) (e := e) hn)
 have HWAIT := Lib.hid (fun hm hf => Ms.put_wait (s := x.ms) (V := vi.V) (e := e) hm hf)
 have HODD := Lib.hid (fun hm hf hg => Ms.put_odd (s := x.ms) (V := vi.V) (e := e) hm hf hg)
 have HIN := Lib.hid (fun hm hf => Ms.put_in (s := x.ms) (V := vi.V) (e := e) hm hf)
 have HTKL : Hid ((x.ms.tk vi.V e).l = if fitV vi.V e = 0 then putM x.r.l (markE vi.V e) else x.r.l) := Lib.hid (by unfold Ms.tk; split <;> rfl)
 have HTON : Hid (x.ms.tkOn vi.V e = (decide (fitV vi.V e = 0) && onM x.r.l (markE vi.V e))) := Lib.hid rfl
 have HFC := Lib.hid (fit_cases vi.V e)
 have HLOC := Lib.hid (fun W => local_any e W (maxLen_40 he.room) (maxLen_40 he.user) (maxLen_40 he.event) (maxLen_40 he.thread))
 have HTK := Lib.hid (fun W ts' (hk : Km codeDags w W vs ms ts') (ha' : AtM x i j ms ts') => marksTake_any hk hq ha' hl e he)
 have HPP := Lib.hid (fun W (hp : CPk W x.B x.b x.v x.p) => pkPut_any hp e he.brief hpl hpc hpm)
 have HMAY : Hid (mayR e = (decide (e.kind = 1) && localB e)) := Lib.hid rfl
 clear he
 generalize mayR e = mr at *
 generalize localB e = lb at *
 generalize fitV vi.V e = f at *
 generalize markE vi.V e = mk at *
 generalize Ms.on x.ms vi.V e = on at *
 generalize Ms.err vi.V e = er at *
 generalize hS : x.ms.put vi.V e = S at *
 clear hS
 obtain ⟨k, r, u, z, t, pr, o, s, y, c, m⟩ := e
 simp only [Edu.val] at *
 have HK := Lib.hid (h.add (t := Th.box wr.heap.size (.cells #[.int .i64 k, .string r, .string u, .string z, .string t, .bool pr, .bool o, .int .i64 s, .int .i64 y, .int .i64 c, .int .i64 m] 43 (0, 0))) (below_new wr _) (heap_alloc_new wr _) (fun k hk => .inl (Nat.le_of_eq hk.symm)))
 have HA : Hid (∀ t : Th, AtM x i j ms (t :: ts)) := Lib.hid (fun t => ha.more)
 have HA0 := Lib.hid ha
 have HST := Lib.hid ha.stay
 clear h ha
 go_enter Tryz.func15, Tryz.ntmps15
 go_upto_region 1 with (fail)
 generalize World.alloc _ _ = w1 at HK ⊢
 obtain ⟨g5, hg5⟩ : ∃ g, wr.heap.size = g := ⟨_, rfl⟩
 rw [hg5] at HK ⊢
 clear hg5
 obtain ⟨d0, d1, d2, d3, d4, d5, d6, d7, d8, d9, d10⟩ := cells11 (HK.out.isT List.mem_cons_self)
 by_cases hk1 : k = 1
 case neg =>
  have q1 : decide (k = 1) = false := decide_eq_false hk1
  have q2 : (k != 1) = true := by simp [hk1]
  rw [q1, Bool.false_and] at HMAY
  obtain ⟨n1, n2, n3⟩ := HNO.out HMAY.out
  have HR := Lib.hid (HK.out.less (ts' := ts) (fun t ht => List.mem_cons_of_mem _ ht))
  clear HK HTK HLOC HWAIT HODD HIN HNO hk1
  go_wp2_with fail
  refine bodyPost_ret (v := .tuple #[.bool false, .int .i64 1]) ?_ rfl ⟨x, by rw [n2, n3], ⟨rfl, rfl, rfl, n1.symm⟩, by rw [HST.out]; exact HR.out⟩
  simp [results, Tryz.results15, go_sem]
 have q1 : decide (k = 1) = true := decide_eq_true hk1
 have q2 : (k != 1) = false := by simp [hk1]
 rw [q1, Bool.true_and] at HMAY
 clear hk1
 go_wp2_with fail
 go_at_call 44
 refine (HLOC.out _).mono ?_
 rintro a w2 ⟨rfl, hb⟩
 have HK2 := Lib.hid (HK.out.later hb)
 clear d0 d1 d2 d3 d4 d5 d6 d7 d8 d9 d10 HK hb HLOC
 cases lb
 ·obtain ⟨n1, n2, n3⟩ := HNO.out HMAY.out
  have HR := Lib.hid (HK2.out.less (ts' := ts) (fun t ht => List.mem_cons_of_mem _ ht))
  clear HK2 HTK HWAIT HODD HIN HNO
  go_wp2_with fail
  refine bodyPost_ret (v := .tuple #[.bool false, .int .i64 1]) ?_ rfl ⟨x, by rw [n2, n3], ⟨rfl, rfl, rfl, n1.symm⟩, by rw [HST.out]; exact HR.out⟩
  simp [results, Tryz.results15, go_sem]
 obtain ⟨d0, d1, d2, d3, d4, d5, d6, d7, d8, d9, d10⟩ := cells11 (HK2.out.isT List.mem_cons_self)
 go_wp2_with fail
 go_at_call 45
 refine (HTK.out _ _ HK2.out (HA.out _)).mono ?_
 rintro a w3 ⟨r', rfl, e1, e2, hk3⟩
 rw [HTKL.out] at e2
 rw [HTON.out]
 have HK3 := Lib.hid hk3
 have HE := Lib.hid (And.intro e1 e2)
 clear d0 d1 d2 d3 d4 d5 d6 d7 d8 d9 d10 HK2 hk3 HTK e1 e2 HTKL HTON
 by_cases hf4 : f = 4
 case neg =>
  have q4 : decide (f = 4) = false := decide_eq_false hf4
  have q5 : (f == 4) = false := by simp [hf4]
  have HR := Lib.hid (HK3.out.less (ts' := ts) (fun t ht => List.mem_cons_of_mem _ ht))
  have HSP : Hid (ms.set i (Th.park x.B x.b x.v x.p) = ms) := Lib.hid (set_is HA0.out.hi)
  obtain ⟨e1, e2⟩ := HE.out
  have HQ : Hid (on = (decide (f = 0) && onM x.r.l mk) ∧ er = f ∧ S = ⟨r'.l, x.p⟩) := Lib.hid (by
   by_cases hf0 : f = 0
   ·obtain ⟨n1, n2, n3⟩ := HIN.out HMAY.out hf0
    rw [if_pos hf0] at e2
    rw [n1, n2, n3, hf0, e2]
    exact ⟨by rw [decide_eq_true rfl, Bool.true_and]; rfl, rfl, rfl⟩
   ·obtain ⟨n1, n2, n3⟩ := HODD.out HMAY.out hf4 hf0
    rw [if_neg hf0] at e2
    rw [n1, n2, n3, e2, decide_eq_false hf0]
    exact ⟨rfl, rfl, rfl⟩)
  obtain ⟨n2, n3, n1⟩ := HQ.out
  have HO : Hid (x.to ⟨x.g, x.B, x.b, x.v, x.p, r'⟩ S) := Lib.hid ⟨rfl, rfl, e1, n1.symm⟩
  clear hf4 HK3 HWAIT HODD HIN HNO HPP HQ HE e1 e2 n1 HFC
  generalize (decide (f = 0) && onM x.r.l mk) = bb at n2 ⊢
  go_wp2_with fail
  refine bodyPost_ret (v := .tuple #[.bool bb, .int .i64 f]) ?_ rfl ⟨_, by rw [n2, n3], HO.out, ?_⟩
  ·simp [results, Tryz.results15, go_sem]
  ·unfold MkI.park MkI.tab
   simp only
   rw [HSP.out]
   exact HR.out
 obtain ⟨n1, n2, n3⟩ := HWAIT.out HMAY.out hf4
 obtain ⟨e1, e2⟩ := HE.out
 rw [if_neg (by omega)] at e2
 replace HE := Lib.hid (And.intro e1 e2)
 subst hf4
 clear HNO HODD HIN HWAIT HFC e1 e2 q1
 have HII : Hid ((ms.set j (Th.tab r'))[i]? = some (Th.park x.B x.b x.v x.p)) := Lib.hid (by rw [List.getElem?_set_ne HA0.out.ne.symm]; exact HA0.out.hi)
 have q4 : decide ((4 : Int) = 4) = true := rfl
 go_upto_region 5 with (fail)
 clear q4
 replace HK3 := Lib.hid (HK3.out.later (below_drew w3))
 have hSD : w3.drew.heap[x.g]? = some (.cells (mkO x.r.g x.b) 71 (0, 0)) ∧ w3.drew.heap[g5]? = some (.cells #[.int .i64 k, .string r, .string u, .string z, .string t, .bool pr, .bool o, .int .i64 s, .int .i64 y, .int .i64 c, .int .i64 m] 43 (0, 0)) := ⟨HK3.out.isT (HA.out _).hb, HK3.out.isT List.mem_cons_self⟩
 refine wp_region_held_drew (S := fun W => W.heap[x.g]? = some (.cells (mkO x.r.g x.b) 71 (0, 0)) ∧ W.heap[g5]? = some (.cells #[.int .i64 k, .string r, .string u, .string z, .string t, .bool pr, .bool o, .int .i64 s, .int .i64 y, .int .i64 c, .int .i64 m] 43 (0, 0))) (by kernel_rfl) hSD (fun hHeld => ?_)
 clear hSD
 generalize World.drew _ = wd at hHeld HK3 ⊢
 refine wpAnyH_take (i := 0) (oi := ⟨some 27, _, _, _, _, _⟩) (v := ?vrp0) rfl (by kernel_rfl) (by kernel_rfl) (by kernel_rfl) (fun _ _ _ h => h) (Or.inl ⟨by rfl, ?yrp0⟩) hHeld ?rrp0
 case yrp0 =>
  intro wx hSx
  go_simp
  try with_reducible rfl
 try simp only [actS]
 refine wpAnyH_take (i := 1) (oi := ⟨some 28, _, _, _, _, _⟩) (v := ?vrp1) rfl (by kernel_rfl) (by kernel_rfl) (by kernel_rfl) (fun _ _ _ h => h) (Or.inl ⟨by rfl, ?yrp1⟩) hHeld ?rrp1
 case yrp1 =>
  intro wx hSx
  obtain ⟨e0, e1, e2, e3⟩ := mkO_at hSx.1
  go_simp
  try with_reducible rfl
 try simp only [actS]
 refine wpAnyH_take (i := 2) (oi := ⟨some 29, _, _, _, _, _⟩) (v := ?vrp2) rfl (by kernel_rfl) (by kernel_rfl) (by kernel_rfl) (fun _ _ _ h => h) (Or.inl ⟨by rfl, ?yrp2⟩) hHeld ?rrp2
 case yrp2 =>
  intro wx hSx
  go_simp
  try with_reducible rfl
 try simp only [actS]
 refine wpAnyH_take (i := 3) (oi := ⟨some 30, _, _, _, _, _⟩) (v := ?vrp3) rfl (by kernel_rfl) (by kernel_rfl) (by kernel_rfl) (fun _ _ _ h => h) (Or.inl ⟨by rfl, ?yrp3⟩) hHeld ?rrp3
 case yrp3 =>
  intro wx hSx
  obtain ⟨e0, e1, e2, e3⟩ := mkO_at hSx.1
  go_simp
  try with_reducible rfl
 try simp only [actS]
 refine wpAnyH_take (i := 4) (oi := ⟨some 31, _, _, _, _, _⟩) (v := ?vrp4) rfl (by kernel_rfl) (by kernel_rfl) (by kernel_rfl) (fun _ _ _ h => h) (Or.inl ⟨by rfl, ?yrp4⟩) hHeld ?rrp4
 case yrp4 =>
  intro wx hSx
  obtain ⟨d0, d1, d2, d3, d4, d5, d6, d7, d8, d9, d10⟩ := cells11 hSx.2
  go_simp
  try with_reducible rfl
 try simp only [actS]
 refine wpAnyH_ready (rs := [5]) (by kernel_rfl) (by simp) ?_
 refine AllReadyH.cons (o := ⟨some 32, _, _, _, _, _⟩) rfl (fun K hK => ?_) AllReadyH.nil
 have HT1 := HPP.out _ (HK3.out.isM HII.out)
 go_simp
 refine HT1.mono ?_
 rintro a wb ⟨rfl, v', hput⟩
 have HKB := Lib.hid (HK3.out.parkK HII.out hput)
 refine hK.out _ _ ⟨HKB.out.isT (HA.out _).hb, HKB.out.isT List.mem_cons_self⟩ (fun hHeld => ?_)
 clear hK K hput HT1
 try simp only [actS]
 refine wpAnyH_done (by kernel_rfl) ?_ _
 have HR := Lib.hid (HKB.out.less (ts' := ts) (fun t ht => List.mem_cons_of_mem _ ht))
 have HO : Hid (x.to ⟨x.g, x.B, x.b, v', x.p.put ⟨k, r, u, z, t, pr, o, s, y, c, m⟩, r'⟩ S) := Lib.hid ⟨rfl, rfl, HE.out.1, by rw [n1]; unfold MkI.ms; rw [HE.out.2]⟩
 clear hHeld HKB HK3 HE n1
 go_wp2_with fail
 refine bodyPost_ret (v := .tuple #[.bool false, .int .i64 0]) ?_ rfl ⟨_, by rw [n2, n3], HO.out, ?_⟩
 ·simp [results, Tryz.results15, go_sem]
 ·unfold MkI.park MkI.tab
  simp only
  rw [List.set_comm _ _ HA0.out.ne]
  exact HR.out
set_option maxHeartbeats 800000 in
theorem marksWaits_any (h : Km codeDags w wr vs ms ts) (ha : AtM x i j ms ts) (hpl : x.p.l.length ≤ 100000) :
  Calls Tryz.prog 24 #[.pointer (some ⟨x.g, 0, none⟩)] wr fun a w' => ∃ u, a = .returned u ∧ LE.Mine w' wr.heap.size u x.p.l ∧ Below wr.heap.size wr w' := by
 obtain ⟨e0, e1, e2, e3⟩ := mkO_at (h.isT ha.hb)
 have HP := Lib.hid (pkAll_any (h.isM ha.hi) hpl)
 clear h ha
 go_enter Tryz.func24, Tryz.ntmps24
 go_wp2_with fail
 go_at_call 56
 refine HP.out.mono ?_
 rintro a w2 ⟨u, rfl, hm, hb⟩
 have HM := Lib.hid (And.intro hm hb)
 clear hm hb HP
 go_wp2_with fail
 go_ret
 exact ⟨_, rfl, HM.out⟩
end
end Go.Proofs.YtnnapkakbdpkaaaGreat

namespace Go.Proofs.YtnnapkakbdpkaaaGreat
set_option maxRecDepth 20000
open Go.RowKit
def LNo : Lies Edu := ⟨125, 11, Edu.cells, fun _ => rfl, cellsE_one⟩
theorem knNo : Kn Tryz.prog LNo 123 zeroE.val 112 := ⟨Tryz.underlying123, by kernel_rfl, rfl, by decide⟩
theorem makeRK_any (n : Nat) (hn : n ≤ 100000) : ∃ cs : Array Value, cs.size = n * 4 ∧ ∀ w, (Instr.makeSlice 59 (.int .i64 0) (.int .i64 (n : Int))).run Tryz.prog w = .ok (.slice (some ⟨w.heap.size, 0, none⟩) 0 n) (w.alloc (.cells cs 87)) := by
 obtain ⟨i0, hi0, hz0, hz1, hz2⟩ := info_parts knRK.info
 have hb : (i0.bytes : Int) * (n : Int) ≤ 281474976710656 := by rw [hz2]; omega
 refine ⟨madeCells (Value.agg #[.string ⟨#[]⟩, .string ⟨#[]⟩, .string ⟨#[]⟩, .bool false]).cells (n * 4), size_madeCells _ _, fun w => ?_⟩
 have hr := run_make (P := Tryz.prog) w 59 87 i0 _ Tryz.underlying59 hi0 hz0 .i64 .i64 0 (n : Int) (Int.le_refl _) (by omega) hb (by omega)
 rw [hz1, Int.toNat_natCast] at hr
 exact hr
theorem mine_madeRK (w : World) (n : Nat) (hn : n ≤ 100000) (cs : Array Value) (hc : cs.size = n * 4) : LRK.Mine (w.alloc (.cells cs 87)) w.heap.size (.slice (some ⟨w.heap.size, 0, none⟩) 0 n) [] :=
 .inr ⟨w.heap.size, 0, n, cs, rfl, Nat.le_refl _, heap_alloc_new w _, Nat.zero_le _, by unfold maxLen; omega, by rw [show LRK.c = 4 from rfl]; omega, by simp [Lies.vs]⟩
set_option maxHeartbeats 1600000 in
theorem eachKey_any {w : World} {v : Value} {l : List Edu} (h : LNo.Slice w v l) (hl : l.length ≤ 100000) (hbr : ∀ e ∈ l, e.brief) :
  Calls Tryz.prog 54 #[v, .func (.func 55) #[] #[]] w fun x w' => ∃ u, x = .returned u ∧ LRK.Mine w' w.heap.size u (l.map keyE) ∧ Below w.heap.size w w' := by
 have H := Lib.hid (show ∀ W, Below w.heap.size w W → LNo.Slice W v l ∧ (∀ e ∈ l, e.brief) from fun W hb => ⟨h.below hb, hbr⟩)
 obtain ⟨cs, hcs, hmk⟩ := makeRK_any l.length hl
 have HM0 := Lib.hid (mine_madeRK w l.length hl cs hcs)
 have HB0 := Lib.hid (below_new w (.cells cs 87))
 obtain ⟨A, cap, rfl, h1, h2, -⟩ := id h
 unfold maxLen at h2
 clear h hcs hbr
 go_enter Tryz.func54, Tryz.ntmps54
 go_upto_region 2 with (fail)
 generalize World.alloc _ _ = w1 at HM0 HB0 ⊢
 clear hmk
 have H0 : Hid (LRK.Mine w1 w.heap.size (.slice (some ⟨w.heap.size, 0, none⟩) 0 l.length) ((l.take 0).map keyE) ∧ Below w.heap.size w w1) := Lib.hid ⟨HM0.out, HB0.out⟩
 go_wp2_with fail
 go_loopw [13, 5, 7] (fun i u _ wr => ∃ a : Nat, i = .int .i64 (a : Int) ∧ a ≤ l.length ∧ Hid (LRK.Mine wr w.heap.size u ((l.take a).map keyE) ∧ Below w.heap.size w wr)) (fun i _ _ _ => l.length - (intOf i).toNat)
 case atStart => exact ⟨0, rfl, Nat.zero_le _, H0⟩
 case round =>
  obtain ⟨a, rfl, ha, HA⟩ := hrel
  clear H0 HM0 HB0
  by_cases hax : a < l.length
  ·have q1 : decide ((a : Int) < (l.length : Int)) = true := decide_eq_true (by omega)
   have hx : l[a]? = some l[a] := List.getElem?_eq_getElem hax
   generalize l[a] = x at hx
   obtain ⟨bo, oo, rfl, hbo, hco⟩ := (H.out wr HA.out.2).1.at hx
   have hiy := index_any (P := Tryz.prog) knNo (by decide) (b := bo) (off := oo) (cap := cap) hax
   simp only [LNo] at hiy hco
   obtain ⟨a0, a1, a2, a3, a4, a5, a6, a7, a8, a9, a10⟩ := range11 hco
   have HOW := Lib.hid (fun W => nkey_any x ((H.out wr HA.out.2).2 x (List.mem_of_getElem? hx)) W)
   have HTK := Lib.hid (show (l.take (a + 1)).map keyE = (l.take a).map keyE ++ [keyE x] from by rw [List.take_add_one, hx, List.map_append]; rfl)
   clear hx hco
   have HNW := Lib.hid (heap_alloc_new wr (.cells x.cells.toArray 125))
   have HBW := Lib.hid (below_new wr (.cells x.cells.toArray 125))
   obtain ⟨xk, xr, xu, xz, xt, xp, xo, xs, xy, xc, xm⟩ := x
   simp only [Edu.val, Edu.cells, keyE, Rk.val] at HOW HTK HNW HBW a0 a1 a2 a3 a4 a5 a6 a7 a8 a9 a10
   go_upto_region 5 with (fail)
   replace HA := Lib.hid (And.intro (HA.out.1.below HBW.out) (HA.out.2.trans (HBW.out.mono HA.out.2.size)))
   generalize World.alloc _ _ = w3 at HNW HA ⊢
   generalize wr.heap.size = g7 at HNW ⊢
   clear a0 a1 a2 a3 a4 a5 a6 a7 a8 a9 a10 HBW hiy
   obtain ⟨d0, d1, d2, d3, d4, d5, d6, d7, d8, d9, d10⟩ := cells11 HNW.out
   go_wp2_with fail
   go_at_call 55
   refine (HOW.out _).mono ?_
   rintro e w5 ⟨rfl, hb5⟩
   replace HA := Lib.hid (And.intro (HA.out.1.below hb5) (HA.out.2.trans (hb5.mono HA.out.2.size)))
   clear hb5 HNW HOW d0 d1 d2 d3 d4 d5 d6 d7 d8 d9 d10
   have hsr : LRK.Slice (w5.alloc (.cells #[.string xr, .string xu, .string xt, .bool xp] 87)) (.slice (some ⟨w5.heap.size, 0, none⟩) 1 1) [⟨xr, xu, xt, xp⟩] := lit_slice (L := LRK) w5 ⟨xr, xu, xt, xp⟩ w5.heap.size rfl #[.string xr, .string xu, .string xt, .bool xp] rfl
   have HSR := Lib.hid (hsr.srcN knRK (n := 1) rfl)
   have hbl := below_new w5 (.cells #[.string xr, .string xu, .string xt, .bool xp] 87)
   have HA5 := Lib.hid (And.intro (HA.out.1.below hbl) (HA.out.2.trans (hbl.mono HA.out.2.size)))
   have hln : ((l.take a).map keyE).length ≤ 100000 := by rw [List.length_map, List.length_take]; omega
   have HLA : Hid (((l.take a).map keyE).length = a) := Lib.hid (by rw [List.length_map, List.length_take]; omega)
   clear hsr HA hbl
   go_wp2_with (refine wpList_puts rfl knRK (.tmp 17) (.tmp 21) 59 rfl rfl HA5.out.1 (HA5.out.2.size) (.slice (some ⟨w5.heap.size, 0, none⟩) 1 1) [⟨xr, xu, xt, xp⟩] 1 rfl rfl HSR.out (by omega) (fun A2 cap2 w6 hm6 hg6 ho6 => ?_))
   refine ⟨⟨a + 1, by go_num, by omega, Lib.hid ⟨by rw [HTK.out]; rw [HLA.out] at hm6; exact hm6, HA5.out.2.grown hg6 HA5.out.2.size (fun k hk => (HA5.out.1.lt k hk).1)⟩⟩, ?_⟩
   simp [intOf]; omega
  ·have q1 : decide ((a : Int) < (l.length : Int)) = false := decide_eq_false (by omega)
   obtain rfl : a = l.length := by omega
   have HF := Lib.hid HA.out.1
   rw [List.take_length] at HF
   go_wp2_with fail
   go_ret
   exact ⟨_, rfl, HF.out, HA.out.2⟩
end Go.Proofs.YtnnapkakbdpkaaaGreat
