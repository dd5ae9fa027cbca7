/-
  A mark only goes on: the walk of the statement.
-/
import Derived.Test.YtmialpaldkpmbaaRcO
namespace Go.Proofs.Ytmialpaldkpmbaa
set_option maxRecDepth 20000
open Go.RowKit Go.Maps Go.ChangeMaps
set_option linter.unusedVariables false
set_option linter.unusedSimpArgs false

set_option maxHeartbeats 1000000 in
theorem receiptOn_walk (v : Value) (l : List Mk) (w : World) (h : LM.Slice w v l) (hf : ∀ m ∈ l, m.fit) :
    Calls Try.prog 5 #[v] w fun e w' => e = .returned (.bool true) ∧ Below w.heap.size w w' := by
  obtain ⟨A, cap, rfl, h1, h2, -⟩ := id h
  unfold maxLen at h2
  have HR := Lib.hid h
  have HF := Lib.hid hf
  have HLV := Lib.hid (fun W => lives_any W)
  clear h hf
  go_enter Try.func5, Try.ntmps5
  go_wp2_with fail
  go_at_call 21
  refine (rcNew_any w).mono ?_
  rintro e w1 ⟨r0, rfl, hl0, hc, hb, ho⟩
  have H0 : Hid (Kt w w1 [r0] []) := Lib.hid ((Kt.start w).made hb hc ho)
  have hl00 : r0.l.length ≤ 0 := by rw [hl0]; exact Nat.le_refl _
  clear hl0 hc hb ho
  go_wp2_with fail
  obtain ⟨g0, hg0⟩ : ∃ g, r0.g = g := ⟨_, rfl⟩
  rw [hg0]
  go_loopw [4, 5, 6, 7, 8, 9, 10, 11, 12] (fun i _ _ _ _ _ _ _ _ wr => ∃ (a : Nat) (r : RI), i = .int .i64 (a : Int) ∧ a ≤ l.length ∧ a ≤ 16 ∧ r.l.length ≤ a ∧ r.g = g0 ∧ Hid (Kt w wr [r] [])) (fun i _ _ _ _ _ _ _ _ _ => l.length - (intOf i).toNat)
  case atStart => exact ⟨0, r0, rfl, Nat.zero_le _, Nat.zero_le _, hl00, hg0, H0⟩
  case round =>
    obtain ⟨a, r, rfl, ha, ha16, hrl, hrg, HA⟩ := hrel
    clear H0 hl00
    by_cases hax : a < l.length
    · have tq1 : decide ((a : Int) < (l.length : Int)) = true := decide_eq_true (by omega)
      by_cases hat : a < 16
      · have tq2 : decide ((a : Int) < 16) = true := decide_eq_true (by omega)
        have hx : l[a]? = some l[a] := List.getElem?_eq_getElem hax
        generalize l[a] = x at hx
        have HGD := Lib.hid (fun W => refGoodM_any x W (HF.out x (List.mem_of_getElem? hx)))
        have HMO := Lib.hid (goodM_ok x)
        obtain ⟨bo, oo, rfl, hbo, hco⟩ := (HR.out.below HA.out.below).at hx
        have hiy := index_any (P := Try.prog) knM (by decide) (b := bo) (off := oo) (cap := cap) hax
        simp only [LM] at hiy hco
        obtain ⟨a0, a1, a2, a3, a4, a5⟩ := range6 hco
        unfold Mk.val at HGD
        obtain ⟨m, hm⟩ : ∃ m, goodM x = m := ⟨_, rfl⟩
        rw [hm] at HGD HMO
        have HOF := Lib.hid (fun W => of_any m.k W)
        have HGT := Lib.hid (fun W (hc : CRs W r) => rcGet_any hc m.k HMO.out.1)
        have HLN := Lib.hid (fun W (hc : CRs W r) => rcLen_any hc)
        have HPT := Lib.hid (fun W (hc : CRs W r) => rcPut_any hc (by omega) m.k m.po HMO.out)
        rw [show (⟨m.k, m.po⟩ : Mk) = m from rfl] at HPT
        rw [hrg] at HGT HLN HPT
        have hrow := (HA.out.ct (i := 0) rfl).row
        have F1 := onM_look r.l m
        have F2 : onM r.l m = true → getM (putM r.l m) m.k = some m.po := fun ho => by rw [get_putM hrow, if_pos rfl, if_pos ho]
        have F3 : onM r.l m = false → putM r.l m = r.l := putM_off
        have F4 := put_lenM r.l m
        obtain ⟨q0, hq0⟩ : ∃ q, gotP r.l m.k = q := ⟨_, rfl⟩
        obtain ⟨hd, hhd⟩ : ∃ b, (getM r.l m.k).isSome = b := ⟨_, rfl⟩
        obtain ⟨on, hon⟩ : ∃ b, onM r.l m = b := ⟨_, rfl⟩
        have F5 : Hid ((putM r.l m).length = r.l.length + (bif hd then 0 else 1)) := Lib.hid (by
          rw [F4, ← hhd]
          cases getM r.l m.k <;> rfl)
        have F6 : Hid (on = !(hd && !beforeP q0 m.po)) := Lib.hid (by rw [← hon, F1, hq0, hhd, cmp_geP])
        have F7 : Hid ((on = true → gotP (putM r.l m) m.k = m.po) ∧ (on = false → gotP (putM r.l m) m.k = q0) ∧ (getM (putM r.l m) m.k).isSome = true) := Lib.hid (by
          rw [← hon]
          refine ⟨fun ho => by unfold gotP; rw [F2 ho]; rfl, fun ho => by rw [F3 ho, hq0], ?_⟩
          cases ho : onM r.l m
          · rw [F3 ho]
            rw [hhd, ← Bool.not_eq_false]
            intro h0
            rw [F1, hhd, h0] at ho
            simp at ho
          · rw [F2 ho]; rfl)
        rw [hq0, hhd] at HGT
        rw [hon] at HPT
        unfold Rk.val Po.val at *
        clear hx hco hm F1 F2 F3 F4 hq0 hhd hon hrow
        go_wp2_with fail
        go_at_call 16
        refine (HGD.out _).mono ?_
        rintro e w2 ⟨rfl, b2⟩
        have HK2 := Lib.hid (HA.out.later b2)
        clear b2 a0 a1 a2 a3 a4 a5 HGD hiy HA
        have HK3 := Lib.hid (HK2.out.add (below_new w2 (.cells #[.string m.k.room, .string m.k.user, .string m.k.thread, .bool m.k.priv, .int .i64 m.po.depth, .string m.po.id] 38)) (t := Th.box w2.heap.size (.cells #[.string m.k.room, .string m.k.user, .string m.k.thread, .bool m.k.priv, .int .i64 m.po.depth, .string m.po.id] 38 (0, 0))) (heap_alloc_new w2 _) (fun k hk => .inl (Nat.le_of_eq hk.symm)))
        go_upto_region 8 with (fail)
        generalize World.alloc _ _ = w3 at HK3 ⊢
        generalize w2.heap.size = B5 at HK3 ⊢
        have HKB := HK3.out.is (t := Th.box B5 (.cells #[.string m.k.room, .string m.k.user, .string m.k.thread, .bool m.k.priv, .int .i64 m.po.depth, .string m.po.id] 38 (0, 0))) List.mem_cons_self
        have a0 : w3.cell? ⟨B5, 0, none⟩ = some (.string m.k.room) := cell_at HKB 0
        have a1 : w3.cell? ⟨B5, 1, none⟩ = some (.string m.k.user) := cell_at HKB 1
        have a2 : w3.cell? ⟨B5, 2, none⟩ = some (.string m.k.thread) := cell_at HKB 2
        have a3 : w3.cell? ⟨B5, 3, none⟩ = some (.bool m.k.priv) := cell_at HKB 3
        have a4 : w3.cell? ⟨B5, 4, none⟩ = some (.int .i64 m.po.depth) := cell_at HKB 4
        have a5 : w3.cell? ⟨B5, 5, none⟩ = some (.string m.po.id) := cell_at HKB 5
        go_wp2_with fail
        go_at_call 19
        refine (HOF.out _).mono ?_
        rintro e w4 ⟨rfl, g4⟩
        have HK4 := Lib.hid (HK3.out.later g4.below)
        clear g4 a0 a1 a2 a3 a4 a5 HK2 HK3 HKB
        go_wp2_with fail
        go_at_call 18
        refine (HGT.out _ (HK4.out.ct (i := 0) rfl)).mono ?_
        rintro e w5 ⟨rfl, b5⟩
        have HK5 := Lib.hid (HK4.out.later b5)
        clear b5 HK4
        have HK6 := Lib.hid (HK5.out.add (below_new w5 (.cells #[.int .i64 q0.depth, .string q0.id] 36)) (t := Th.box w5.heap.size (.cells #[.int .i64 q0.depth, .string q0.id] 36 (0, 0))) (heap_alloc_new w5 _) (fun k hk => .inl (Nat.le_of_eq hk.symm)))
        go_upto_region 9 with (fail)
        generalize World.alloc _ _ = w6 at HK6 ⊢
        generalize w5.heap.size = B6 at HK6 ⊢
        clear HK5
        go_wp2_with fail
        go_at_call 14
        refine (HLN.out _ (HK6.out.ct (i := 0) rfl)).mono ?_
        rintro e w7 ⟨rfl, hw7⟩
        subst w7
        go_upto_region 10 with (fail)
        refine wp_region_held_drew (S := fun W => W.heap[B5]? = some (.cells #[.string m.k.room, .string m.k.user, .string m.k.thread, .bool m.k.priv, .int .i64 m.po.depth, .string m.po.id] 38 (0, 0))) (by kernel_rfl) (HK6.out.is (t := Th.box B5 (.cells #[.string m.k.room, .string m.k.user, .string m.k.thread, .bool m.k.priv, .int .i64 m.po.depth, .string m.po.id] 38 (0, 0))) (List.mem_cons_of_mem _ List.mem_cons_self)) (fun hHeld => ?_)
        have HKD := Lib.hid (HK6.out.later (below_drew w6))
        clear HK6
        generalize w6.drew = wd at HKD hHeld ⊢
        refine wpAnyH_take (i := 0) (oi := ⟨some 41, _, _, _, _, _⟩) (v := ?vp0) rfl (by kernel_rfl) (by kernel_rfl) (by kernel_rfl) (fun _ _ _ h => h) (Or.inl ⟨by rfl, ?yp0⟩) hHeld ?rp0
        case yp0 =>
          intro wx hSx
          go_simp
          try with_reducible rfl
        try simp only [Act.put, List.setIfInBounds_toArray, List.set_cons_zero, List.set_cons_succ]
        refine wpAnyH_take (i := 1) (oi := ⟨some 42, _, _, _, _, _⟩) (v := ?vp1) rfl (by kernel_rfl) (by kernel_rfl) (by kernel_rfl) (fun _ _ _ h => h) (Or.inl ⟨by rfl, ?yp1⟩) hHeld ?rp1
        case yp1 =>
          intro wx hSx
          go_simp
          try with_reducible rfl
        try simp only [Act.put, List.setIfInBounds_toArray, List.set_cons_zero, List.set_cons_succ]
        refine wpAnyH_take (i := 4) (oi := ⟨some 45, _, _, _, _, _⟩) (v := ?vp4) rfl (by kernel_rfl) (by kernel_rfl) (by kernel_rfl) (fun _ _ _ h => h) (Or.inl ⟨by rfl, ?yp4⟩) hHeld ?rp4
        case yp4 =>
          intro wx hSx
          go_simp
          try with_reducible rfl
        try simp only [Act.put, List.setIfInBounds_toArray, List.set_cons_zero, List.set_cons_succ]
        refine wpAnyH_take (i := 2) (oi := ⟨some 43, _, _, _, _, _⟩) (v := ?vp2) rfl (by kernel_rfl) (by kernel_rfl) (by kernel_rfl) (fun _ _ _ h => h) (Or.inl ⟨by rfl, ?yp2⟩) hHeld ?rp2
        case yp2 =>
          intro wx hSx
          have z0 := cell_at hSx 0
          have z1 := cell_at hSx 1
          have z2 := cell_at hSx 2
          have z3 := cell_at hSx 3
          simp only [List.getElem?_toArray, List.getElem?_cons_succ, List.getElem?_cons_zero] at z0 z1 z2 z3
          go_simp
          try with_reducible rfl
        try simp only [Act.put, List.setIfInBounds_toArray, List.set_cons_zero, List.set_cons_succ]
        refine wpAnyH_take (i := 5) (oi := ⟨some 46, _, _, _, _, _⟩) (v := ?vp5) rfl (by kernel_rfl) (by kernel_rfl) (by kernel_rfl) (fun _ _ _ h => h) (Or.inl ⟨by rfl, ?yp5⟩) hHeld ?rp5
        case yp5 =>
          intro wx hSx
          have z4 := cell_at hSx 4
          have z5 := cell_at hSx 5
          simp only [List.getElem?_toArray, List.getElem?_cons_succ, List.getElem?_cons_zero] at z4 z5
          go_simp
          try with_reducible rfl
        try simp only [Act.put, List.setIfInBounds_toArray, List.set_cons_zero, List.set_cons_succ]
        refine wpAnyH_ready (rs := [3]) (by kernel_rfl) (by simp) ?_
        refine AllReadyH.cons (o := ⟨some 44, _, _, _, _, _⟩) rfl (fun K hK => ?_) AllReadyH.nil
        go_simp
        refine (HOF.out _).mono ?_
        rintro e wo ⟨rfl, hgo⟩
        have HKO := Lib.hid (HKD.out.later hgo.below)
        refine hK.out _ _ ((hgo.below.block B5 (smem_lt hHeld)).trans hHeld) (fun hHeld => ?_)
        clear hK K hgo HKD
        try simp only [Act.put, List.setIfInBounds_toArray, List.set_cons_zero, List.set_cons_succ]
        refine wpAnyH_ready (rs := [6]) (by kernel_rfl) (by simp) ?_
        refine AllReadyH.cons (o := ⟨some 47, _, _, _, _, _⟩) rfl (fun K hK => ?_) AllReadyH.nil
        go_simp
        refine (HPT.out _ (HKO.out.ct (i := 0) rfl)).mono ?_
        rintro e wp ⟨rfl, hpp⟩
        obtain ⟨r1, e1, e2, e3, hk7⟩ := HKO.out.putP (i := 0) rfl hpp
        have HK7 := Lib.hid hk7
        have HE7 := Lib.hid (And.intro e1 e3)
        refine hK.out _ _ (hk7.is (t := Th.box B5 (.cells #[.string m.k.room, .string m.k.user, .string m.k.thread, .bool m.k.priv, .int .i64 m.po.depth, .string m.po.id] 38 (0, 0))) (List.mem_cons_of_mem _ List.mem_cons_self)) (fun hHeld => ?_)
        clear hK K hpp e1 e2 e3 hk7 HKO
        try simp only [Act.put, List.setIfInBounds_toArray, List.set_cons_zero, List.set_cons_succ]
        refine wpAnyH_take (i := 7) (oi := ⟨some 9, _, _, _, _, _⟩) (v := ?vp7) rfl (by kernel_rfl) (by kernel_rfl) (by kernel_rfl) (fun _ _ _ h => h) (Or.inl ⟨by rfl, ?yp7⟩) hHeld ?rp7
        case yp7 =>
          intro wx hSx
          go_simp
          try with_reducible rfl
        try simp only [Act.put, List.setIfInBounds_toArray, List.set_cons_zero, List.set_cons_succ]
        refine wpAnyH_done (by kernel_rfl) ?_ _
        clear hHeld HGT HLN HPT
        replace HK7 : Hid (Kt w wp [r1] [Th.box B6 (.cells #[.int .i64 q0.depth, .string q0.id] 36 (0, 0)), Th.box B5 (.cells #[.string m.k.room, .string m.k.user, .string m.k.thread, .bool m.k.priv, .int .i64 m.po.depth, .string m.po.id] 38 (0, 0))]) := Lib.hid HK7.out
        have HGT := Lib.hid (fun W (hc : CRs W r1) => rcGet_any hc m.k HMO.out.1)
        have HLN := Lib.hid (fun W (hc : CRs W r1) => rcLen_any hc)
        rw [HE7.out.1, hrg] at HGT HLN
        rw [HE7.out.2] at HGT HLN
        obtain ⟨q1, hq1⟩ : ∃ q, gotP (putM r.l m) m.k = q := ⟨_, rfl⟩
        rw [hq1] at F7 HGT
        rw [F7.out.2.2] at HGT
        unfold Rk.val Po.val at HGT
        clear hq1
        have HKB := HK7.out.is (t := Th.box B5 (.cells #[.string m.k.room, .string m.k.user, .string m.k.thread, .bool m.k.priv, .int .i64 m.po.depth, .string m.po.id] 38 (0, 0))) (List.mem_cons_of_mem _ List.mem_cons_self)
        have a0 : wp.cell? ⟨B5, 0, none⟩ = some (.string m.k.room) := cell_at HKB 0
        have a1 : wp.cell? ⟨B5, 1, none⟩ = some (.string m.k.user) := cell_at HKB 1
        have a2 : wp.cell? ⟨B5, 2, none⟩ = some (.string m.k.thread) := cell_at HKB 2
        have a3 : wp.cell? ⟨B5, 3, none⟩ = some (.bool m.k.priv) := cell_at HKB 3
        have a4 : wp.cell? ⟨B5, 4, none⟩ = some (.int .i64 m.po.depth) := cell_at HKB 4
        have a5 : wp.cell? ⟨B5, 5, none⟩ = some (.string m.po.id) := cell_at HKB 5
        go_wp2_with fail
        go_at_call 19
        refine (HOF.out _).mono ?_
        rintro e w4 ⟨rfl, g4⟩
        have HK8 := Lib.hid (HK7.out.later g4.below)
        clear g4 a0 a1 a2 a3 a4 a5 HK7 HKB HOF
        go_wp2_with fail
        go_at_call 18
        refine (HGT.out _ (HK8.out.ct (i := 0) rfl)).mono ?_
        rintro e w5 ⟨rfl, b5⟩
        have HK9 := Lib.hid (HK8.out.later b5)
        clear b5 HK8 HGT
        have HK10 := Lib.hid (HK9.out.add (below_new w5 (.cells #[.int .i64 q1.depth, .string q1.id] 36)) (t := Th.box w5.heap.size (.cells #[.int .i64 q1.depth, .string q1.id] 36 (0, 0))) (heap_alloc_new w5 _) (fun k hk => .inl (Nat.le_of_eq hk.symm)))
        go_upto_region 12 with (fail)
        generalize World.alloc _ _ = w6 at HK10 ⊢
        generalize w5.heap.size = B10 at HK10 ⊢
        clear HK9
        have HBF := Lib.hid (fun W => refBefore_any q0 m.po W)
        have HPE := Lib.hid (fun (p q : Po) => eqlP p q)
        cases hd
        · obtain rfl : on = true := by rw [F6.out]; rfl
          obtain rfl : m.po = q1 := (F7.out.1 rfl).symm
          have hqe := HPE.out m.po m.po
          rw [decide_eq_true rfl] at hqe
          have hb5 := HK10.out.is (t := Th.box B5 (.cells #[.string m.k.room, .string m.k.user, .string m.k.thread, .bool m.k.priv, .int .i64 m.po.depth, .string m.po.id] 38 (0, 0))) (List.mem_cons_of_mem _ (List.mem_cons_of_mem _ List.mem_cons_self))
          have hb6 := HK10.out.is (t := Th.box B6 (.cells #[.int .i64 q0.depth, .string q0.id] 36 (0, 0))) (List.mem_cons_of_mem _ List.mem_cons_self)
          have hb10 := HK10.out.is (t := Th.box B10 (.cells #[.int .i64 m.po.depth, .string m.po.id] 36 (0, 0))) List.mem_cons_self
          have a0 : w6.cell? ⟨B5, 0, none⟩ = some (.string m.k.room) := cell_at hb5 0
          have a1 : w6.cell? ⟨B5, 1, none⟩ = some (.string m.k.user) := cell_at hb5 1
          have a2 : w6.cell? ⟨B5, 2, none⟩ = some (.string m.k.thread) := cell_at hb5 2
          have a3 : w6.cell? ⟨B5, 3, none⟩ = some (.bool m.k.priv) := cell_at hb5 3
          have a4 : w6.cell? ⟨B5, 4, none⟩ = some (.int .i64 m.po.depth) := cell_at hb5 4
          have a5 : w6.cell? ⟨B5, 5, none⟩ = some (.string m.po.id) := cell_at hb5 5
          have b0 : w6.cell? ⟨B6, 0, none⟩ = some (.int .i64 q0.depth) := cell_at hb6 0
          have b1 : w6.cell? ⟨B6, 1, none⟩ = some (.string q0.id) := cell_at hb6 1
          have c0 : w6.cell? ⟨B10, 0, none⟩ = some (.int .i64 m.po.depth) := cell_at hb10 0
          have c1 : w6.cell? ⟨B10, 1, none⟩ = some (.string m.po.id) := cell_at hb10 1
          have hz : (((r.l.length + 1 : Nat) : Int) == (r.l.length : Int) + 1) = true := by rw [beq_iff_eq]; rfl
          go_wp2_with fail
          go_at_call 14
          refine (HLN.out _ (HK10.out.ct (i := 0) rfl)).mono ?_
          rintro e w9 ⟨rfl, hw9⟩
          subst w9
          have HKE : Hid (Kt w w6 [r1] []) := Lib.hid (HK10.out.less (fun t ht => (by cases ht)))
          have hle : r1.l.length ≤ a + 1 := by rw [HE7.out.2, F5.out]; show r.l.length + 1 ≤ a + 1; omega
          rw [F5.out]
          clear a0 a1 a2 a3 a4 a5 b0 b1 c0 c1 HK10 hb5 hb6 hb10 HLN
          go_wp2_with fail
          refine ⟨⟨a + 1, r1, by go_num, by omega, by omega, hle, HE7.out.1.trans hrg, HKE⟩, ?_⟩
          simp [intOf]; omega
        · have HO : Hid (on = beforeP q0 m.po) := Lib.hid (by rw [F6.out]; simp)
          have hb5 := HK10.out.is (t := Th.box B5 (.cells #[.string m.k.room, .string m.k.user, .string m.k.thread, .bool m.k.priv, .int .i64 m.po.depth, .string m.po.id] 38 (0, 0))) (List.mem_cons_of_mem _ (List.mem_cons_of_mem _ List.mem_cons_self))
          have hb6 := HK10.out.is (t := Th.box B6 (.cells #[.int .i64 q0.depth, .string q0.id] 36 (0, 0))) (List.mem_cons_of_mem _ List.mem_cons_self)
          have hb10 := HK10.out.is (t := Th.box B10 (.cells #[.int .i64 q1.depth, .string q1.id] 36 (0, 0))) List.mem_cons_self
          have a0 : w6.cell? ⟨B5, 0, none⟩ = some (.string m.k.room) := cell_at hb5 0
          have a1 : w6.cell? ⟨B5, 1, none⟩ = some (.string m.k.user) := cell_at hb5 1
          have a2 : w6.cell? ⟨B5, 2, none⟩ = some (.string m.k.thread) := cell_at hb5 2
          have a3 : w6.cell? ⟨B5, 3, none⟩ = some (.bool m.k.priv) := cell_at hb5 3
          have a4 : w6.cell? ⟨B5, 4, none⟩ = some (.int .i64 m.po.depth) := cell_at hb5 4
          have a5 : w6.cell? ⟨B5, 5, none⟩ = some (.string m.po.id) := cell_at hb5 5
          have b0 : w6.cell? ⟨B6, 0, none⟩ = some (.int .i64 q0.depth) := cell_at hb6 0
          have b1 : w6.cell? ⟨B6, 1, none⟩ = some (.string q0.id) := cell_at hb6 1
          have c0 : w6.cell? ⟨B10, 0, none⟩ = some (.int .i64 q1.depth) := cell_at hb10 0
          have c1 : w6.cell? ⟨B10, 1, none⟩ = some (.string q1.id) := cell_at hb10 1
          go_wp2_with fail
          go_at_call 23
          refine (HBF.out _).mono ?_
          rintro e w8 ⟨rfl, g8⟩
          have HK11 := Lib.hid (HK10.out.later g8.below)
          clear g8 HK10 hb5 hb6 hb10 a0 a1 a2 a3 a4 a5 b0 b1 c0 c1
          rw [← HO.out]
          clear HO HBF F6
          have hb5 := HK11.out.is (t := Th.box B5 (.cells #[.string m.k.room, .string m.k.user, .string m.k.thread, .bool m.k.priv, .int .i64 m.po.depth, .string m.po.id] 38 (0, 0))) (List.mem_cons_of_mem _ (List.mem_cons_of_mem _ List.mem_cons_self))
          have hb6 := HK11.out.is (t := Th.box B6 (.cells #[.int .i64 q0.depth, .string q0.id] 36 (0, 0))) (List.mem_cons_of_mem _ List.mem_cons_self)
          have hb10 := HK11.out.is (t := Th.box B10 (.cells #[.int .i64 q1.depth, .string q1.id] 36 (0, 0))) List.mem_cons_self
          have a0 : w8.cell? ⟨B5, 0, none⟩ = some (.string m.k.room) := cell_at hb5 0
          have a1 : w8.cell? ⟨B5, 1, none⟩ = some (.string m.k.user) := cell_at hb5 1
          have a2 : w8.cell? ⟨B5, 2, none⟩ = some (.string m.k.thread) := cell_at hb5 2
          have a3 : w8.cell? ⟨B5, 3, none⟩ = some (.bool m.k.priv) := cell_at hb5 3
          have a4 : w8.cell? ⟨B5, 4, none⟩ = some (.int .i64 m.po.depth) := cell_at hb5 4
          have a5 : w8.cell? ⟨B5, 5, none⟩ = some (.string m.po.id) := cell_at hb5 5
          have b0 : w8.cell? ⟨B6, 0, none⟩ = some (.int .i64 q0.depth) := cell_at hb6 0
          have b1 : w8.cell? ⟨B6, 1, none⟩ = some (.string q0.id) := cell_at hb6 1
          have c0 : w8.cell? ⟨B10, 0, none⟩ = some (.int .i64 q1.depth) := cell_at hb10 0
          have c1 : w8.cell? ⟨B10, 1, none⟩ = some (.string q1.id) := cell_at hb10 1
          have hz : (((r.l.length + 0 : Nat) : Int) == (r.l.length : Int) + 1) = false := by rw [beq_eq_false_iff_ne]; omega
          cases on
          · obtain rfl : q1 = q0 := F7.out.2.1 rfl
            have hqe := HPE.out q1 q1
            rw [decide_eq_true rfl] at hqe
            go_wp2_with fail
            go_at_call 14
            refine (HLN.out _ (HK11.out.ct (i := 0) rfl)).mono ?_
            rintro e w9 ⟨rfl, hw9⟩
            subst w9
            have HKE : Hid (Kt w w8 [r1] []) := Lib.hid (HK11.out.less (fun t ht => (by cases ht)))
            have hle : r1.l.length ≤ a + 1 := by rw [HE7.out.2, F5.out]; show r.l.length + 0 ≤ a + 1; omega
            rw [F5.out]
            clear a0 a1 a2 a3 a4 a5 b0 b1 c0 c1 HK11 hb5 hb6 hb10 HLN
            go_wp2_with fail
            refine ⟨⟨a + 1, r1, by go_num, by omega, by omega, hle, HE7.out.1.trans hrg, HKE⟩, ?_⟩
            simp [intOf]; omega
          · obtain rfl : m.po = q1 := (F7.out.1 rfl).symm
            have hqe := HPE.out m.po m.po
            rw [decide_eq_true rfl] at hqe
            go_wp2_with fail
            go_at_call 14
            refine (HLN.out _ (HK11.out.ct (i := 0) rfl)).mono ?_
            rintro e w9 ⟨rfl, hw9⟩
            subst w9
            have HKE : Hid (Kt w w8 [r1] []) := Lib.hid (HK11.out.less (fun t ht => (by cases ht)))
            have hle : r1.l.length ≤ a + 1 := by rw [HE7.out.2, F5.out]; show r.l.length + 0 ≤ a + 1; omega
            rw [F5.out]
            clear a0 a1 a2 a3 a4 a5 b0 b1 c0 c1 HK11 hb5 hb6 hb10 HLN
            go_wp2_with fail
            refine ⟨⟨a + 1, r1, by go_num, by omega, by omega, hle, HE7.out.1.trans hrg, HKE⟩, ?_⟩
            simp [intOf]; omega
      · have tq2 : decide ((a : Int) < 16) = false := decide_eq_false (by omega)
        go_wp2_with fail
        go_at_call 15
        refine (HLV.out _).mono ?_
        rintro e wl ⟨rfl, hbl⟩
        have HBL := Lib.hid (HA.out.below.trans (hbl.mono HA.out.below.size))
        clear hbl
        go_wp2_with fail
        go_ret
        exact ⟨rfl, HBL.out⟩
    · have tq1 : decide ((a : Int) < (l.length : Int)) = false := decide_eq_false (by omega)
      go_wp2_with fail
      go_at_call 15
      refine (HLV.out _).mono ?_
      rintro e wl ⟨rfl, hbl⟩
      have HBL := Lib.hid (HA.out.below.trans (hbl.mono HA.out.below.size))
      clear hbl
      go_wp2_with fail
      go_ret
      exact ⟨rfl, HBL.out⟩
end Go.Proofs.Ytmialpaldkpmbaa
