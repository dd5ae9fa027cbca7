/-
  In whatever row marks are put: the walk of the statement.
-/
import Derived.Test.YtmialpaldkpmbaaRwPuts
namespace Go.Proofs.Ytmialpaldkpmbaa
set_option maxRecDepth 20000
open Go.RowKit Go.Maps Go.ChangeMaps
set_option linter.unusedVariables false
set_option linter.unusedSimpArgs false
theorem rev_snoc {ms : List Mk} {k : Nat} {x : Mk} (hx : ms[k]? = some x) : (ms.drop k).reverse = (ms.drop (k + 1)).reverse ++ [x] := by
  obtain ⟨hk, he⟩ := List.getElem?_eq_some_iff.1 hx
  rw [List.drop_eq_getElem_cons hk, he, List.reverse_cons]
/-- Marks, round from the f-th. -/
def turnL (ms : List Mk) (f i : Nat) : List Mk := (List.range i).map (fun j => ms[(f + j) % ms.length]!)
theorem turn_snoc {ms : List Mk} {f i : Nat} {x : Mk} (hx : ms[(f + i) % ms.length]? = some x) : turnL ms f (i + 1) = turnL ms f i ++ [x] := by
  unfold turnL
  rw [List.range_succ, List.map_append, List.map_singleton]
  congr 2
  obtain ⟨h, he⟩ := List.getElem?_eq_some_iff.1 hx
  rw [getElem!_pos ms _ h, he]
theorem turn_mem {ms : List Mk} {f : Nat} (hf : f < ms.length) (m : Mk) : m ∈ turnL ms f (2 * ms.length) ↔ m ∈ ms := by
  unfold turnL
  rw [List.mem_map]
  constructor
  · rintro ⟨j, hj, rfl⟩
    have hlt : (f + j) % ms.length < ms.length := Nat.mod_lt _ (by omega)
    rw [getElem!_pos ms _ hlt]
    exact List.getElem_mem hlt
  · intro hm
    obtain ⟨i, hi, rfl⟩ := List.getElem_of_mem hm
    refine ⟨ms.length - f + i, List.mem_range.2 (by omega), ?_⟩
    have he : (f + (ms.length - f + i)) % ms.length = i := by
      rw [show f + (ms.length - f + i) = ms.length + i by omega, Nat.add_mod_left, Nat.mod_eq_of_lt hi]
    rw [he, getElem!_pos ms _ hi]
abbrev goods (l : List Mk) : List Mk := (l.take 10).map goodM
theorem goods_get {l : List Mk} {q : Nat} {x m : Mk} (hx : l[q]? = some x) (hq : q < 10) (hm : goodM x = m) : (goods l)[q]? = some m := by
  rw [List.getElem?_map, List.getElem?_take, if_pos hq, hx, ← hm]
  rfl

set_option maxHeartbeats 1600000 in
theorem receiptOrder_walk (v : Value) (l : List Mk) (z : Int) (w : World) (h : LM.Slice w v l) (hf : ∀ m ∈ l, m.fit) (hz0 : -9223372036854775808 ≤ z) (hz1 : z ≤ 9223372036854775807) :
    Calls Try.prog 6 #[v, .int .i64 z] w fun e w' => e = .returned (.bool true) ∧ Below w.heap.size w w' := by
  obtain ⟨A, cap, rfl, h1, h2, -⟩ := id h
  unfold maxLen at h2
  have HR := Lib.hid h
  have HF := Lib.hid hf
  have HLV := Lib.hid (fun W => lives_any W)
  obtain ⟨N, hN, hNm⟩ : ∃ N : Nat, min (l.length : Int) 10 = (N : Int) ∧ N = min l.length 10 := ⟨min l.length 10, by omega, rfl⟩
  have hNl : N ≤ l.length := by omega
  have hN10 : N ≤ 10 := by omega
  obtain ⟨ms, hms⟩ : ∃ ms, goods l = ms := ⟨_, rfl⟩
  have HML : Hid (ms.length = N) := Lib.hid (by rw [← hms, List.length_map, List.length_take, hNm]; omega)
  have HMG : Hid (∀ (q : Nat) x m, q < N → l[q]? = some x → goodM x = m → ms[q]? = some m) := Lib.hid (fun q x m hq hx hm => by rw [← hms]; exact goods_get hx (by omega) hm)
  have HAR := Lib.hid (fun (hp : 0 < N) W => around_any z (N : Int) W hz0 hz1 (by omega) (by omega))
  have HFB : Hid (0 < N → ∃ f : Nat, aroundI z (N : Int) = (f : Int) ∧ f < N) := Lib.hid (fun hp => by
    obtain ⟨h3, h4⟩ := aroundI_bd z (N : Int) (by omega)
    exact ⟨(aroundI z (N : Int)).toNat, by omega, by omega⟩)
  have HFL := Lib.hid (fill_any true (.slice A l.length cap) l 10 w h hf (by decide))
  have HRA : Hid (fillL true l 10 = foldM [] ms) := Lib.hid (by rw [← hms]; rfl)
  clear h hf hms hNm
  go_enter Try.func6, Try.ntmps6
  go_wp2_with fail
  go_at_call 9
  refine HFL.out.mono ?_
  rintro e w2 ⟨ra, u, rfl, hfi⟩
  have HK2 := Lib.hid hfi.kt
  have hra : ra.l = foldM [] ms := by rw [hfi.l, HRA.out]
  have HRL : Hid (ra.l.length ≤ 10) := Lib.hid (by rw [hfi.l]; exact fillL_len _ _ _)
  clear hfi HFL HRA
  go_wp2_with fail
  go_at_call 21
  refine (rcNew_any w2).mono ?_
  rintro e w3 ⟨rb, rfl, hlb, hc3, hb3, ho3⟩
  have HK3 : Hid (Kt w w3 [ra, rb] [Th.row LM u ra.l]) := Lib.hid (HK2.out.made hb3 hc3 ho3)
  have HLB := Lib.hid hlb
  clear hlb hc3 hb3 ho3 HK2
  go_wp2_with fail
  go_at_call 21
  refine (rcNew_any w3).mono ?_
  rintro e w4 ⟨rc, rfl, hlc, hc4, hb4, ho4⟩
  have HK4 : Hid (Kt w w4 [ra, rb, rc] [Th.row LM u ra.l]) := Lib.hid (HK3.out.made hb4 hc4 ho4)
  have HLC := Lib.hid hlc
  clear hlc hc4 hb4 ho4 HK3
  have HRA := Lib.hid hra
  clear hra
  go_wp2_with fail
  obtain ⟨gb, hgb⟩ : ∃ g, rb.g = g := ⟨_, rfl⟩
  rw [hgb]
  go_loopw [10, 11] (fun i _ wr => ∃ (y : Int) (k : Nat) (r : RI), i = .int .i64 y ∧ y = (k : Int) - 1 ∧ k ≤ N ∧ r.g = gb ∧ Hid (r.l = foldM [] (ms.drop k).reverse) ∧ Hid (Kt w wr [ra, r, rc] [Th.row LM u ra.l])) (fun i _ _ => (intOf i + 1).toNat)
  case atStart => exact ⟨(N : Int) - 1, N, rb, rfl, rfl, Nat.le_refl _, hgb, Lib.hid (by rw [HLB.out, List.drop_of_length_le (by have := HML.out; omega)]; rfl), HK4⟩
  case round =>
    obtain ⟨y, k, r, rfl, hyk, hk, hrg, HL, HK⟩ := hrel
    clear HK4
    cases k with
    | succ k =>
      obtain rfl : y = (k : Int) := by omega
      clear hyk
      have tq1 : decide ((0 : Int) ≤ (k : Int)) = true := decide_eq_true (by omega)
      have hq : k < l.length := by omega
      have HLN : Hid (r.l.length ≤ 100) := Lib.hid (by
        have h3 := fold_leM (ms.drop (k + 1)).reverse []
        rw [← HL.out, List.length_nil, List.length_reverse, List.length_drop] at h3
        have := HML.out
        omega)
      have hx : l[k]? = some l[k] := List.getElem?_eq_getElem hq
      generalize l[k] = x at hx
      have HGD := Lib.hid (fun W => refGoodM_any x W (HF.out x (List.mem_of_getElem? hx)))
      have HMO := Lib.hid (goodM_ok x)
      have HX := Lib.hid hx
      obtain ⟨bo, oo, hA, hbo, hco⟩ := (HR.out.below HK.out.below).at hx
      subst hA
      have hiy := index_any (P := Try.prog) knM (by decide) (b := bo) (off := oo) (cap := cap) hq
      simp only [LM] at hiy hco
      obtain ⟨a0, a1, a2, a3, a4, a5⟩ := range6 hco
      unfold Mk.val at HGD
      obtain ⟨m, hm⟩ : ∃ m, goodM x = m := ⟨_, rfl⟩
      rw [hm] at HGD HMO
      have HM := Lib.hid hm
      have HOF := Lib.hid (fun W => of_any m.k W)
      have HPT := Lib.hid (fun W (hc : CRs W r) => rcPut_any hc (by have := HLN.out; omega) m.k m.po HMO.out)
      rw [show (⟨m.k, m.po⟩ : Mk) = m from rfl] at HPT
      rw [hrg] at HPT
      unfold Rk.val Po.val at *
      clear hx hco hm
      go_wp2_with fail
      go_at_call 16
      refine (HGD.out _).mono ?_
      rintro e w2 ⟨rfl, b2⟩
      have HK2 := Lib.hid (HK.out.later b2)
      clear b2 a0 a1 a2 a3 a4 a5 HGD hiy HK
      have HK3 := Lib.hid (HK2.out.add (below_new w2 (.cells #[.string m.k.room, .string m.k.user, .string m.k.thread, .bool m.k.priv, .int .i64 m.po.depth, .string m.po.id] 38)) (t := Th.box w2.heap.size (.cells #[.string m.k.room, .string m.k.user, .string m.k.thread, .bool m.k.priv, .int .i64 m.po.depth, .string m.po.id] 38 (0, 0))) (heap_alloc_new w2 _) (fun k hk => .inl (Nat.le_of_eq hk.symm)))
      go_upto_region 11 with (fail)
      generalize World.alloc _ _ = w3 at HK3 ⊢
      generalize w2.heap.size = B5 at HK3 ⊢
      refine wp_region_held_drew (S := fun W => W.heap[B5]? = some (.cells #[.string m.k.room, .string m.k.user, .string m.k.thread, .bool m.k.priv, .int .i64 m.po.depth, .string m.po.id] 38 (0, 0))) (by kernel_rfl) (HK3.out.is (t := Th.box B5 (.cells #[.string m.k.room, .string m.k.user, .string m.k.thread, .bool m.k.priv, .int .i64 m.po.depth, .string m.po.id] 38 (0, 0))) List.mem_cons_self) (fun hHeld => ?_)
      have HKD := Lib.hid (HK3.out.later (below_drew w3))
      clear HK3 HK2
      generalize w3.drew = wd at HKD hHeld ⊢
      refine wpAnyH_take (i := 0) (oi := ⟨some 45, _, _, _, _, _⟩) (v := ?vb0) rfl (by kernel_rfl) (by kernel_rfl) (by kernel_rfl) (fun _ _ _ h => h) (Or.inl ⟨by rfl, ?yb0⟩) hHeld ?rb0
      case yb0 =>
        intro wx hSx
        go_simp
        try with_reducible rfl
      try simp only [Act.put, List.setIfInBounds_toArray, List.set_cons_zero, List.set_cons_succ]
      refine wpAnyH_take (i := 1) (oi := ⟨some 46, _, _, _, _, _⟩) (v := ?vb1) rfl (by kernel_rfl) (by kernel_rfl) (by kernel_rfl) (fun _ _ _ h => h) (Or.inl ⟨by rfl, ?yb1⟩) hHeld ?rb1
      case yb1 =>
        intro wx hSx
        go_simp
        try with_reducible rfl
      try simp only [Act.put, List.setIfInBounds_toArray, List.set_cons_zero, List.set_cons_succ]
      refine wpAnyH_take (i := 4) (oi := ⟨some 49, _, _, _, _, _⟩) (v := ?vb4) rfl (by kernel_rfl) (by kernel_rfl) (by kernel_rfl) (fun _ _ _ h => h) (Or.inl ⟨by rfl, ?yb4⟩) hHeld ?rb4
      case yb4 =>
        intro wx hSx
        go_simp
        try with_reducible rfl
      try simp only [Act.put, List.setIfInBounds_toArray, List.set_cons_zero, List.set_cons_succ]
      refine wpAnyH_take (i := 2) (oi := ⟨some 47, _, _, _, _, _⟩) (v := ?vb2) rfl (by kernel_rfl) (by kernel_rfl) (by kernel_rfl) (fun _ _ _ h => h) (Or.inl ⟨by rfl, ?yb2⟩) hHeld ?rb2
      case yb2 =>
        intro wx hSx
        have z0 := cell_at hSx 0
        have z1 := cell_at hSx 1
        have z2 := cell_at hSx 2
        have z3 := cell_at hSx 3
        simp only [List.getElem?_toArray, List.getElem?_cons_succ, List.getElem?_cons_zero] at z0 z1 z2 z3
        go_simp
        try with_reducible rfl
      try simp only [Act.put, List.setIfInBounds_toArray, List.set_cons_zero, List.set_cons_succ]
      refine wpAnyH_take (i := 5) (oi := ⟨some 50, _, _, _, _, _⟩) (v := ?vb5) rfl (by kernel_rfl) (by kernel_rfl) (by kernel_rfl) (fun _ _ _ h => h) (Or.inl ⟨by rfl, ?yb5⟩) hHeld ?rb5
      case yb5 =>
        intro wx hSx
        have z4 := cell_at hSx 4
        have z5 := cell_at hSx 5
        simp only [List.getElem?_toArray, List.getElem?_cons_succ, List.getElem?_cons_zero] at z4 z5
        go_simp
        try with_reducible rfl
      try simp only [Act.put, List.setIfInBounds_toArray, List.set_cons_zero, List.set_cons_succ]
      refine wpAnyH_ready (rs := [3]) (by kernel_rfl) (by simp) ?_
      refine AllReadyH.cons (o := ⟨some 48, _, _, _, _, _⟩) rfl (fun K hK => ?_) AllReadyH.nil
      go_simp
      refine (HOF.out _).mono ?_
      rintro e wo ⟨rfl, hgo⟩
      have HKO := Lib.hid (HKD.out.later hgo.below)
      refine hK.out _ _ ((hgo.below.block B5 (smem_lt hHeld)).trans hHeld) (fun hHeld => ?_)
      clear hK K hgo HKD
      try simp only [Act.put, List.setIfInBounds_toArray, List.set_cons_zero, List.set_cons_succ]
      refine wpAnyH_ready (rs := [6]) (by kernel_rfl) (by simp) ?_
      refine AllReadyH.cons (o := ⟨some 51, _, _, _, _, _⟩) rfl (fun K hK => ?_) AllReadyH.nil
      go_simp
      refine (HPT.out _ (HKO.out.ct (i := 1) rfl)).mono ?_
      rintro e wp ⟨rfl, hpp⟩
      obtain ⟨r1, e1, e2, e3, hk7⟩ := HKO.out.putP (i := 1) rfl hpp
      have HK7 := Lib.hid hk7
      have HE7 := Lib.hid (And.intro e1 e3)
      refine hK.out _ _ (hk7.is (t := Th.box B5 (.cells #[.string m.k.room, .string m.k.user, .string m.k.thread, .bool m.k.priv, .int .i64 m.po.depth, .string m.po.id] 38 (0, 0))) List.mem_cons_self) (fun hHeld => ?_)
      clear hK K hpp e1 e2 e3 hk7 HKO
      try simp only [Act.put, List.setIfInBounds_toArray, List.set_cons_zero, List.set_cons_succ]
      refine wpAnyH_done (by kernel_rfl) ?_ _
      clear hHeld HPT HOF
      have HL7 : Hid (r1.l = foldM [] (ms.drop k).reverse) := Lib.hid (by
        rw [HE7.out.2, HL.out, rev_snoc (HMG.out k x m (by omega) HX.out HM.out), fold_snocM])
      replace HK7 : Hid (Kt w wp [ra, r1, rc] [Th.row LM u ra.l]) := Lib.hid (HK7.out.less (fun t ht => List.mem_cons_of_mem _ ht))
      go_wp2_with fail
      refine ⟨⟨(k : Int) - 1, k, r1, by go_num, rfl, by omega, HE7.out.1.trans hrg, HL7, HK7⟩, ?_⟩
      simp [intOf]
    | zero =>
      obtain rfl : y = -1 := by omega
      clear hyk
      have HBL : Hid (r.l = ra.l) := Lib.hid (by
        rw [HL.out, HRA.out, List.drop_zero]
        exact order_sameM (fun m => List.mem_reverse))
      clear HL hk
      go_wp2_with fail
      obtain ⟨gc, hgc⟩ : ∃ g, rc.g = g := ⟨_, rfl⟩
      rw [hgc]
      go_loopw [12, 13] (fun i _ wr => ∃ (a : Nat) (r2 : RI), i = .int .i64 (a : Int) ∧ a ≤ 2 * N ∧ r2.g = gc ∧ Hid (r2.l = foldM [] (turnL ms (aroundI z (N : Int)).toNat a)) ∧ Hid (Kt w wr [ra, r, r2] [Th.row LM u ra.l])) (fun i _ _ => 2 * N - (intOf i).toNat)
      case atStart => exact ⟨0, rc, rfl, Nat.zero_le _, hgc, Lib.hid (by rw [HLC.out]; rfl), HK⟩
      case round =>
        obtain ⟨a, r2, rfl, ha, hrg2, HL2, HK2⟩ := hrel
        clear HK
        by_cases hat : a < 2 * N
        · have tq1 : decide ((a : Int) < 2 * (N : Int)) = true := decide_eq_true (by omega)
          have hNp : 0 < N := by omega
          have hN0 : ((N : Int) == 0) = false := by rw [beq_eq_false_iff_ne]; omega
          obtain ⟨f, hf, hfN⟩ := HFB.out hNp
          have HAF := Lib.hid (HAR.out hNp)
          rw [hf] at HAF HL2
          rw [Int.toNat_natCast] at HL2
          obtain ⟨q, hqe⟩ : ∃ q : Nat, (f + a) % N = q := ⟨_, rfl⟩
          have hqN : q < N := by rw [← hqe]; exact Nat.mod_lt _ hNp
          have hq : q < l.length := by omega
          have hrem : ((f : Int) + (a : Int)).tmod (N : Int) = (q : Int) := by
            rw [Int.tmod_eq_emod_of_nonneg (by omega), ← hqe]
            have hfa : (f : Int) + (a : Int) = ((f + a : Nat) : Int) := by omega
            rw [hfa]
            rfl
          have HLN : Hid (r2.l.length ≤ 100) := Lib.hid (by
            have h3 := fold_leM (turnL ms f a) []
            rw [← HL2.out, List.length_nil] at h3
            unfold turnL at h3
            rw [List.length_map, List.length_range] at h3
            omega)
          have hrg := hrg2
          have HK := HK2
          have HFE := Lib.hid hf
          have HQE := Lib.hid hqe
          clear hf HK2 hrg2 hqe
          have hx : l[q]? = some l[q] := List.getElem?_eq_getElem hq
          generalize l[q] = x at hx
          have HGD := Lib.hid (fun W => refGoodM_any x W (HF.out x (List.mem_of_getElem? hx)))
          have HMO := Lib.hid (goodM_ok x)
          have HX := Lib.hid hx
          obtain ⟨bo, oo, hA, hbo, hco⟩ := (HR.out.below HK.out.below).at hx
          subst hA
          have hiy := index_any (P := Try.prog) knM (by decide) (b := bo) (off := oo) (cap := cap) hq
          simp only [LM] at hiy hco
          obtain ⟨a0, a1, a2, a3, a4, a5⟩ := range6 hco
          unfold Mk.val at HGD
          obtain ⟨m, hm⟩ : ∃ m, goodM x = m := ⟨_, rfl⟩
          rw [hm] at HGD HMO
          have HM := Lib.hid hm
          have HOF := Lib.hid (fun W => of_any m.k W)
          have HPT := Lib.hid (fun W (hc : CRs W r2) => rcPut_any hc (by have := HLN.out; omega) m.k m.po HMO.out)
          rw [show (⟨m.k, m.po⟩ : Mk) = m from rfl] at HPT
          rw [hrg] at HPT
          unfold Rk.val Po.val at *
          clear hx hco hm
          go_wp2_with fail
          have HMG2 : Hid (∀ m, goodM x = m → ms[(f + a) % ms.length]? = some m) := Lib.hid (fun m hm => by
            rw [HML.out, HQE.out]
            exact HMG.out q x m hqN HX.out hm)
          go_at_call 24
          refine (HAF.out _).mono ?_
          rintro e wa ⟨rfl, hwa⟩
          subst wa
          go_wp2_with fail
          go_at_call 16
          refine (HGD.out _).mono ?_
          rintro e w2 ⟨rfl, b2⟩
          have HK2 := Lib.hid (HK.out.later b2)
          clear b2 a0 a1 a2 a3 a4 a5 HGD hiy HK
          have HK3 := Lib.hid (HK2.out.add (below_new w2 (.cells #[.string m.k.room, .string m.k.user, .string m.k.thread, .bool m.k.priv, .int .i64 m.po.depth, .string m.po.id] 38)) (t := Th.box w2.heap.size (.cells #[.string m.k.room, .string m.k.user, .string m.k.thread, .bool m.k.priv, .int .i64 m.po.depth, .string m.po.id] 38 (0, 0))) (heap_alloc_new w2 _) (fun k hk => .inl (Nat.le_of_eq hk.symm)))
          go_upto_region 16 with (fail)
          generalize World.alloc _ _ = w3 at HK3 ⊢
          generalize w2.heap.size = B5 at HK3 ⊢
          refine wp_region_held_drew (S := fun W => W.heap[B5]? = some (.cells #[.string m.k.room, .string m.k.user, .string m.k.thread, .bool m.k.priv, .int .i64 m.po.depth, .string m.po.id] 38 (0, 0))) (by kernel_rfl) (HK3.out.is (t := Th.box B5 (.cells #[.string m.k.room, .string m.k.user, .string m.k.thread, .bool m.k.priv, .int .i64 m.po.depth, .string m.po.id] 38 (0, 0))) List.mem_cons_self) (fun hHeld => ?_)
          have HKD := Lib.hid (HK3.out.later (below_drew w3))
          clear HK3 HK2
          generalize w3.drew = wd at HKD hHeld ⊢
          refine wpAnyH_take (i := 0) (oi := ⟨some 69, _, _, _, _, _⟩) (v := ?vc0) rfl (by kernel_rfl) (by kernel_rfl) (by kernel_rfl) (fun _ _ _ h => h) (Or.inl ⟨by rfl, ?yc0⟩) hHeld ?rc0
          case yc0 =>
            intro wx hSx
            go_simp
            try with_reducible rfl
          try simp only [Act.put, List.setIfInBounds_toArray, List.set_cons_zero, List.set_cons_succ]
          refine wpAnyH_take (i := 1) (oi := ⟨some 70, _, _, _, _, _⟩) (v := ?vc1) rfl (by kernel_rfl) (by kernel_rfl) (by kernel_rfl) (fun _ _ _ h => h) (Or.inl ⟨by rfl, ?yc1⟩) hHeld ?rc1
          case yc1 =>
            intro wx hSx
            go_simp
            try with_reducible rfl
          try simp only [Act.put, List.setIfInBounds_toArray, List.set_cons_zero, List.set_cons_succ]
          refine wpAnyH_take (i := 4) (oi := ⟨some 73, _, _, _, _, _⟩) (v := ?vc4) rfl (by kernel_rfl) (by kernel_rfl) (by kernel_rfl) (fun _ _ _ h => h) (Or.inl ⟨by rfl, ?yc4⟩) hHeld ?rc4
          case yc4 =>
            intro wx hSx
            go_simp
            try with_reducible rfl
          try simp only [Act.put, List.setIfInBounds_toArray, List.set_cons_zero, List.set_cons_succ]
          refine wpAnyH_take (i := 2) (oi := ⟨some 71, _, _, _, _, _⟩) (v := ?vc2) rfl (by kernel_rfl) (by kernel_rfl) (by kernel_rfl) (fun _ _ _ h => h) (Or.inl ⟨by rfl, ?yc2⟩) hHeld ?rc2
          case yc2 =>
            intro wx hSx
            have z0 := cell_at hSx 0
            have z1 := cell_at hSx 1
            have z2 := cell_at hSx 2
            have z3 := cell_at hSx 3
            simp only [List.getElem?_toArray, List.getElem?_cons_succ, List.getElem?_cons_zero] at z0 z1 z2 z3
            go_simp
            try with_reducible rfl
          try simp only [Act.put, List.setIfInBounds_toArray, List.set_cons_zero, List.set_cons_succ]
          refine wpAnyH_take (i := 5) (oi := ⟨some 74, _, _, _, _, _⟩) (v := ?vc5) rfl (by kernel_rfl) (by kernel_rfl) (by kernel_rfl) (fun _ _ _ h => h) (Or.inl ⟨by rfl, ?yc5⟩) hHeld ?rc5
          case yc5 =>
            intro wx hSx
            have z4 := cell_at hSx 4
            have z5 := cell_at hSx 5
            simp only [List.getElem?_toArray, List.getElem?_cons_succ, List.getElem?_cons_zero] at z4 z5
            go_simp
            try with_reducible rfl
          try simp only [Act.put, List.setIfInBounds_toArray, List.set_cons_zero, List.set_cons_succ]
          refine wpAnyH_ready (rs := [3]) (by kernel_rfl) (by simp) ?_
          refine AllReadyH.cons (o := ⟨some 72, _, _, _, _, _⟩) rfl (fun K hK => ?_) AllReadyH.nil
          go_simp
          refine (HOF.out _).mono ?_
          rintro e wo ⟨rfl, hgo⟩
          have HKO := Lib.hid (HKD.out.later hgo.below)
          refine hK.out _ _ ((hgo.below.block B5 (smem_lt hHeld)).trans hHeld) (fun hHeld => ?_)
          clear hK K hgo HKD
          try simp only [Act.put, List.setIfInBounds_toArray, List.set_cons_zero, List.set_cons_succ]
          refine wpAnyH_ready (rs := [6]) (by kernel_rfl) (by simp) ?_
          refine AllReadyH.cons (o := ⟨some 75, _, _, _, _, _⟩) rfl (fun K hK => ?_) AllReadyH.nil
          go_simp
          refine (HPT.out _ (HKO.out.ct (i := 2) rfl)).mono ?_
          rintro e wp ⟨rfl, hpp⟩
          obtain ⟨r1, e1, e2, e3, hk7⟩ := HKO.out.putP (i := 2) rfl hpp
          have HK7 := Lib.hid hk7
          have HE7 := Lib.hid (And.intro e1 e3)
          refine hK.out _ _ (hk7.is (t := Th.box B5 (.cells #[.string m.k.room, .string m.k.user, .string m.k.thread, .bool m.k.priv, .int .i64 m.po.depth, .string m.po.id] 38 (0, 0))) List.mem_cons_self) (fun hHeld => ?_)
          clear hK K hpp e1 e2 e3 hk7 HKO
          try simp only [Act.put, List.setIfInBounds_toArray, List.set_cons_zero, List.set_cons_succ]
          refine wpAnyH_done (by kernel_rfl) ?_ _
          clear hHeld HPT HOF
          have HL7 : Hid (r1.l = foldM [] (turnL ms (aroundI z (N : Int)).toNat (a + 1))) := Lib.hid (by
            rw [HFE.out, Int.toNat_natCast, HE7.out.2, HL2.out, turn_snoc (HMG2.out m HM.out), fold_snocM])
          replace HK7 : Hid (Kt w wp [ra, r, r1] [Th.row LM u ra.l]) := Lib.hid (HK7.out.less (fun t ht => List.mem_cons_of_mem _ ht))
          go_wp2_with fail
          refine ⟨⟨a + 1, r1, by go_num, by omega, HE7.out.1.trans hrg, HL7, HK7⟩, ?_⟩
          simp [intOf]; omega
        · have tq1 : decide ((a : Int) < 2 * (N : Int)) = false := decide_eq_false (by omega)
          have HCL : Hid (r2.l = ra.l) := Lib.hid (by
            obtain rfl : a = 2 * N := by omega
            rw [HL2.out, HRA.out]
            by_cases hNp : 0 < N
            · obtain ⟨f, hf, hfN⟩ := HFB.out hNp
              rw [hf, Int.toNat_natCast]
              refine order_sameM (fun m => ?_)
              have := turn_mem (ms := ms) (f := f) (by rw [HML.out]; exact hfN) m
              rw [HML.out] at this
              exact this
            · have h0 : ms = [] := List.eq_nil_of_length_eq_zero (by have := HML.out; omega)
              rw [h0, show 2 * N = 0 by omega]
              rfl)
          clear HL2 hat
          have HAL := Lib.hid (rcAll_any (HK2.out.ct (i := 0) rfl) (by have := HRL.out; omega))
          go_wp2_with fail
          go_at_call 11
          refine HAL.out.mono ?_
          rintro e w5 ⟨v5, rfl, hm5, hb5⟩
          have HK5 := Lib.hid (HK2.out.later hb5)
          have HLK := Lib.hid (like_same v5 u ra.l w5 hm5.slice (HK5.out.is List.mem_cons_self))
          clear hm5 hb5 HAL HK2
          go_wp2_with fail
          go_at_call 10
          refine HLK.out.mono ?_
          rintro e w6 ⟨rfl, hg6⟩
          have HK6 := Lib.hid (HK5.out.later hg6.below)
          have HAL := Lib.hid (rcAll_any (HK6.out.ct (i := 1) rfl) (by rw [HBL.out]; have := HRL.out; omega))
          rw [hrg, HBL.out] at HAL
          clear hg6 HLK HK5
          go_wp2_with fail
          go_at_call 11
          refine HAL.out.mono ?_
          rintro e w7 ⟨v7, rfl, hm7, hb7⟩
          have HK7 := Lib.hid (HK6.out.later hb7)
          have HLK := Lib.hid (like_same v7 u ra.l w7 hm7.slice (HK7.out.is List.mem_cons_self))
          clear hm7 hb7 HAL HK6
          go_wp2_with fail
          go_at_call 10
          refine HLK.out.mono ?_
          rintro e w8 ⟨rfl, hg8⟩
          have HK8 := Lib.hid (HK7.out.later hg8.below)
          have HAL := Lib.hid (rcAll_any (HK8.out.ct (i := 2) rfl) (by rw [HCL.out]; have := HRL.out; omega))
          rw [hrg2, HCL.out] at HAL
          clear hg8 HLK HK7
          go_wp2_with fail
          go_at_call 11
          refine HAL.out.mono ?_
          rintro e w9 ⟨v9, rfl, hm9, hb9⟩
          have HK9 := Lib.hid (HK8.out.later hb9)
          have HLK := Lib.hid (like_same v9 u ra.l w9 hm9.slice (HK9.out.is List.mem_cons_self))
          clear hm9 hb9 HAL HK8
          go_wp2_with fail
          go_at_call 10
          refine HLK.out.mono ?_
          rintro e w10 ⟨rfl, hg10⟩
          have HK10 := Lib.hid (HK9.out.later hg10.below)
          clear hg10 HLK HK9
          go_wp2_with fail
          go_at_call 15
          refine (HLV.out _).mono ?_
          rintro e wl ⟨rfl, hbl⟩
          have HBE := Lib.hid (HK10.out.below.trans (hbl.mono HK10.out.below.size))
          clear hbl
          go_wp2_with fail
          go_ret
          exact ⟨rfl, HBE.out⟩
end Go.Proofs.Ytmialpaldkpmbaa
