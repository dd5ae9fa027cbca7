/-
  The walk of ViewSame.
-/
import Derived.Test.YtjiecjpepiknmaaGreatV5
namespace Go.Proofs.YtjiecjpepiknmaaGreat
set_option maxRecDepth 20000
open Go.RowKit
set_option linter.unusedVariables false
set_option linter.unusedSimpArgs false
section
variable {C : Dags}
theorem Kv.front {C : Dags} {w wr : World} {vs : List VI} {v : VI} {ts : List Th} (h : Kv C w wr (vs ++ [v]) ts) : Kv C w wr vs ts := by
  have ap : ∀ {i : Nat} {x : VI}, vs[i]? = some x → (vs ++ [v])[i]? = some x := fun {i x} hi => by
    rw [List.getElem?_append_left (List.getElem?_eq_some_iff.1 hi).1]
    exact hi
  exact ⟨h.below, fun i x hi => h.vw i x (ap hi), fun i j x y hi hj => h.off i j x y (ap hi) (ap hj), fun t ht => ⟨(h.th t ht).1, fun j u hj => (h.th t ht).2 j u (ap hj)⟩⟩
theorem Kv.front3 {C : Dags} {w wr : World} {p q r : VI} {ts : List Th} (h : Kv C w wr [p, q, r] ts) : Kv C w wr [p, q] ts := Kv.front (vs := [p, q]) (v := r) h
theorem sameV_comm (V W : Vw) : sameV V W = sameV W V := decide_eq_decide.2 eq_comm
theorem sliced_zero (A : Option Addr) (k cap c : Nat) : sliced A 0 k cap c = .slice A k cap := by
  unfold sliced
  split
  · simp_all
  · cases A with
    | none => simp
    | some a => cases a; simp [Addr.add]
theorem few_gs {w : World} {A : Option Addr} {cap : Nat} {gs : List GV} (h : GsS w (.slice A gs.length cap) gs) (m : Nat) : GsS w (.slice A (min gs.length m) cap) (gs.take (min gs.length m)) := by
  have h1 := h.1.sub 0 (min gs.length m) (Nat.zero_le _) (Nat.min_le_left _ _)
  rw [sliced_zero] at h1
  exact ⟨h1, fun x hx => h.2 x (List.mem_of_mem_take hx)⟩

set_option maxHeartbeats 3200000 in
theorem viewSame_walk (C : Dags) (CR : DagRms C) (CA : DagAlls C) (CS : DagSms C) (va vb vc : Value) (gs hs ks : List GV) (w : World) (ha : GsS w va gs) (hb : GsS w vb hs) (hc : GsS w vc ks) :
    Calls Tryz.prog 6 #[va, vb, vc] w fun e w' => e = .returned (.bool true) ∧ Below w.heap.size w w' := by
  have HBU := Lib.hid (build10_any CR va vb gs hs (Kv.start (C := C) w) ha hb)
  have HBV := Lib.hid (fun W vs ts (hk : Kv C w W vs ts) => build10_any CR va vc gs ks hk (ha.below hk.below) (hc.below hk.below))
  obtain ⟨Aa, ca, rfl, ha1, ha2, -⟩ := id ha.1
  obtain ⟨Ab, cb, rfl, hb1, hb2, -⟩ := id hb.1
  obtain ⟨Ac, cc, rfl, -⟩ := id hc.1
  have hg1 := few_gs ha 9
  have hg2 := few_gs hb 2
  have qm1 : (min (gs.length : Int) 9) = ((min gs.length 9 : Nat) : Int) := by omega
  have qm2 : (min (hs.length : Int) 2) = ((min hs.length 2 : Nat) : Int) := by omega
  unfold maxLen at ha2 hb2
  have hk1 : min gs.length 9 ≤ ca := by omega
  have hk2 : min hs.length 2 ≤ cb := by omega
  have hsl1 := slice_high (P := Tryz.prog) knG Aa gs.length ca (min gs.length 9) hk1
  have hsl2 := slice_high (P := Tryz.prog) knG Ab hs.length cb (min hs.length 2) hk2
  rw [sliced_zero] at hsl1 hsl2
  generalize min gs.length 9 = m1 at hg1 qm1 hsl1 hk1
  generalize min hs.length 2 = m2 at hg2 qm2 hsl2 hk2
  have HG12 := Lib.hid (And.intro hg1 hg2)
  generalize gs.take m1 = gs' at HG12
  generalize hs.take m2 = hs' at HG12
  have HB3 := Lib.hid (fun W ts (p q : VI) (hk : Kv C w W [p, q] ts) (_ : Below W.heap.size W W) => build10_new CR _ _ gs' hs' hk (HG12.out.1.below hk.below) (HG12.out.2.below hk.below))
  clear ha hb hc hg1 hg2 hk1 hk2
  go_enter Tryz.func6, Tryz.ntmps6
  go_wp2_with fail
  go_at_call 8
  refine HBU.out.mono ?_
  rintro e w1 ⟨p, ux, dx, rfl, hvV, hds, hk0⟩
  have HVp : Hid (p.V = vws dx ∧ VOk 100 (vws dx)) := Lib.hid ⟨hvV, by rw [hds]; exact (foldV_ok _).mono (Nat.le_trans (madeL_len _ _) (by decide))⟩
  obtain ⟨Ax, cx, rfl, -⟩ := id (show DsS w1 ux dx from hk0.is List.mem_cons_self).1
  have HKp : Hid (Kv C w (w1.alloc (.cells #[.slice Ax dx.length cx] 28)) [p] (Th.box w1.heap.size (.cells #[.slice Ax dx.length cx] 28 (0, 0)) :: Th.vw (.slice Ax dx.length cx) dx :: [])) := Lib.hid ((show Kv C w w1 [p] (Th.vw (.slice Ax dx.length cx) dx :: []) from hk0).add (t := Th.box w1.heap.size (.cells #[.slice Ax dx.length cx] 28 (0, 0))) (below_new w1 _) (heap_alloc_new w1 _) (fun k hk => .inl (Nat.le_of_eq hk.symm)))
  clear hvV hds hk0 HBU
  have HQ := Lib.hid (HBV.out _ _ _ HKp.out)
  clear HBV
  go_wp2_with fail
  generalize World.alloc _ _ = w2 at HKp HQ ⊢
  generalize w1.heap.size = B8 at HKp HQ ⊢
  go_at_call 8
  refine HQ.out.mono ?_
  rintro e w3 ⟨q, uy, dy, rfl, hvV, hds, hk0⟩
  have HVq : Hid (q.V = vws dy ∧ VOk 100 (vws dy)) := Lib.hid ⟨hvV, by rw [hds]; exact (foldV_ok _).mono (Nat.le_trans (madeL_len _ _) (by decide))⟩
  obtain ⟨Ay, cy, rfl, -⟩ := id (show DsS w3 uy dy from hk0.is List.mem_cons_self).1
  have HKq : Hid (Kv C w (w3.alloc (.cells #[.slice Ay dy.length cy] 28)) [p, q] (Th.box w3.heap.size (.cells #[.slice Ay dy.length cy] 28 (0, 0)) :: Th.vw (.slice Ay dy.length cy) dy :: Th.box B8 (.cells #[.slice Ax dx.length cx] 28 (0, 0)) :: Th.vw (.slice Ax dx.length cx) dx :: [])) := Lib.hid ((show Kv C w w3 [p, q] (Th.vw (.slice Ay dy.length cy) dy :: Th.box B8 (.cells #[.slice Ax dx.length cx] 28 (0, 0)) :: Th.vw (.slice Ax dx.length cx) dx :: []) from hk0).add (t := Th.box w3.heap.size (.cells #[.slice Ay dy.length cy] 28 (0, 0))) (below_new w3 _) (heap_alloc_new w3 _) (fun k hk => .inl (Nat.le_of_eq hk.symm)))
  clear hvV hds hk0 HQ HKp
  go_upto_region 3 with (fail)
  generalize World.alloc _ _ = w4 at HKq ⊢
  generalize w3.heap.size = B10 at HKq ⊢
  go_cut [11, 12] from 25 to 38 (fun s11 s12 wx => ∃ (r : VI) (B12 : Nat), s11 = .pointer (some ⟨r.g, 0, none⟩) ∧ s12 = .pointer (some ⟨B12, 0, none⟩) ∧ Hid (∃ dz Az cz, r.V = vws dz ∧ VOk 100 (vws dz) ∧ Kv C w wx [p, q, r] (Th.box B12 (.cells #[.slice Az dz.length cz] 28 (0, 0)) :: Th.vw (.slice Az dz.length cz) dz :: Th.box B10 (.cells #[.slice Ay dy.length cy] 28 (0, 0)) :: Th.vw (.slice Ay dy.length cy) dy :: Th.box B8 (.cells #[.slice Ax dx.length cx] 28 (0, 0)) :: Th.vw (.slice Ax dx.length cx) dx :: [])))
  case first =>
    refine wp_region_held_drew (S := fun W => Kv C w W [p, q] (Th.box B10 (.cells #[.slice Ay dy.length cy] 28 (0, 0)) :: Th.vw (.slice Ay dy.length cy) dy :: Th.box B8 (.cells #[.slice Ax dx.length cx] 28 (0, 0)) :: Th.vw (.slice Ax dx.length cx) dx :: [])) (by kernel_rfl) (HKq.out.later (below_drew w4)) (fun hHeld => ?_)
    clear HKq
    generalize w4.drew = wd at hHeld ⊢
    refine wpAnyH_take (i := 0) (oi := ⟨some 26, _, _, _, _, _⟩) (v := ?vq0) rfl (by kernel_rfl) (by kernel_rfl) (by kernel_rfl) (fun _ _ _ h => h) (Or.inl ⟨by rfl, ?yq0⟩) hHeld ?rq0
    case yq0 =>
      intro wx hSx
      go_simp
      try with_reducible rfl
    try simp only [Act.put, List.setIfInBounds_toArray, List.set_cons_zero, List.set_cons_succ]
    refine wpAnyH_take (i := 1) (oi := ⟨some 27, _, _, _, _, _⟩) (v := ?vq1) rfl (by kernel_rfl) (by kernel_rfl) (by kernel_rfl) (fun _ _ _ h => h) (Or.inl ⟨by rfl, ?yq1⟩) hHeld ?rq1
    case yq1 =>
      intro wx hSx
      go_simp
      try with_reducible rfl
    try simp only [Act.put, List.setIfInBounds_toArray, List.set_cons_zero, List.set_cons_succ]
    refine wpAnyH_take (i := 2) (oi := ⟨some 28, _, _, _, _, _⟩) (v := ?vq2) rfl (by kernel_rfl) (by kernel_rfl) (by kernel_rfl) (fun _ _ _ h => h) (Or.inl ⟨by rfl, ?yq2⟩) hHeld ?rq2
    case yq2 =>
      intro wx hSx
      go_simp
      try with_reducible rfl
    try simp only [Act.put, List.setIfInBounds_toArray, List.set_cons_zero, List.set_cons_succ]
    refine wpAnyH_take (i := 3) (oi := ⟨some 29, _, _, _, _, _⟩) (v := ?vq3) rfl (by kernel_rfl) (by kernel_rfl) (by kernel_rfl) (fun _ _ _ h => h) (Or.inl ⟨by rfl, ?yq3⟩) hHeld ?rq3
    case yq3 =>
      intro wx hSx
      go_simp
      try with_reducible rfl
    try simp only [Act.put, List.setIfInBounds_toArray, List.set_cons_zero, List.set_cons_succ]
    refine wpAnyH_take (i := 4) (oi := ⟨some 30, _, _, _, _, _⟩) (v := ?vq4) rfl (by kernel_rfl) (by kernel_rfl) (by kernel_rfl) (fun _ _ _ h => h) (Or.inl ⟨by rfl, ?yq4⟩) hHeld ?rq4
    case yq4 =>
      intro wx hSx
      go_simp
      try with_reducible rfl
    try simp only [Act.put, List.setIfInBounds_toArray, List.set_cons_zero, List.set_cons_succ]
    refine wpAnyH_take (i := 5) (oi := ⟨some 31, _, _, _, _, _⟩) (v := ?vq5) rfl (by kernel_rfl) (by kernel_rfl) (by kernel_rfl) (fun _ _ _ h => h) (Or.inl ⟨by rfl, ?yq5⟩) hHeld ?rq5
    case yq5 =>
      intro wx hSx
      go_simp
      try with_reducible rfl
    try simp only [Act.put, List.setIfInBounds_toArray, List.set_cons_zero, List.set_cons_succ]
    refine wpAnyH_take (i := 6) (oi := ⟨some 32, _, _, _, _, _⟩) (v := ?vq6) rfl (by kernel_rfl) (by kernel_rfl) (by kernel_rfl) (fun _ _ _ h => h) (Or.inl ⟨by rfl, ?yq6⟩) hHeld ?rq6
    case yq6 =>
      intro wx hSx
      go_simp
      try with_reducible rfl
    try simp only [Act.put, List.setIfInBounds_toArray, List.set_cons_zero, List.set_cons_succ]
    refine wpAnyH_take (i := 7) (oi := ⟨some 33, _, _, _, _, _⟩) (v := ?vq7) rfl (by kernel_rfl) (by kernel_rfl) (by kernel_rfl) (fun _ _ _ h => h) (Or.inl ⟨by rfl, ?yq7⟩) hHeld ?rq7
    case yq7 =>
      intro wx hSx
      go_simp
      try with_reducible rfl
    try simp only [Act.put, List.setIfInBounds_toArray, List.set_cons_zero, List.set_cons_succ]
    refine wpAnyH_take (i := 8) (oi := ⟨some 34, _, _, _, _, _⟩) (v := ?vq8) rfl (by kernel_rfl) (by kernel_rfl) (by kernel_rfl) (fun _ _ _ h => h) (Or.inl ⟨by rfl, ?yq8⟩) hHeld ?rq8
    case yq8 =>
      intro wx hSx
      go_simp
      try with_reducible rfl
    try simp only [Act.put, List.setIfInBounds_toArray, List.set_cons_zero, List.set_cons_succ]
    refine wpAnyH_take (i := 9) (oi := ⟨some 35, _, _, _, _, _⟩) (v := ?vq9) rfl (by kernel_rfl) (by kernel_rfl) (by kernel_rfl) (fun _ _ _ h => h) (Or.inl ⟨by rfl, ?yq9⟩) hHeld ?rq9
    case yq9 =>
      intro wx hSx
      go_simp
      try with_reducible rfl
    try simp only [Act.put, List.setIfInBounds_toArray, List.set_cons_zero, List.set_cons_succ]
    refine wpAnyH_ready (rs := [10, 14]) (by kernel_rfl) (by simp) ?_
    refine AllReadyH.cons (o := ⟨some 36, _, _, _, _, _⟩) rfl (fun K hK => ?wayA) (AllReadyH.cons (o := ⟨some 12, _, _, _, _, _⟩) rfl (fun K hK => ?wayB) AllReadyH.nil)
    case wayA =>
      have HQc := Lib.hid (HB3.out wd (Th.box B10 (.cells #[.slice Ay dy.length cy] 28 (0, 0)) :: Th.vw (.slice Ay dy.length cy) dy :: Th.box B8 (.cells #[.slice Ax dx.length cx] 28 (0, 0)) :: Th.vw (.slice Ax dx.length cx) dx :: []) p q hHeld (Below.refl _ _))
      go_simp
      refine HQc.out.mono ?_
      rintro e Wa ⟨r, u3, dz, rfl, hV3, hds3, hk0, hfr⟩
      have HV3 : Hid (r.V = vws dz ∧ VOk 100 (vws dz)) := Lib.hid ⟨hV3, by rw [hds3]; exact (foldV_ok _).mono (Nat.le_trans (madeL_len _ _) (by decide))⟩
      obtain ⟨A3, c3, rfl, -⟩ := id (show DsS Wa u3 dz from hk0.is List.mem_cons_self).1
      have hk : Kv C w Wa [p, q, r] (Th.vw (.slice A3 dz.length c3) dz :: Th.box B10 (.cells #[.slice Ay dy.length cy] 28 (0, 0)) :: Th.vw (.slice Ay dy.length cy) dy :: Th.box B8 (.cells #[.slice Ax dx.length cx] 28 (0, 0)) :: Th.vw (.slice Ax dx.length cx) dx :: []) := hk0
      clear hV3 hds3 hk0 HQc
      refine hK.out _ _ ((hk.front3.less (fun _ ht => List.mem_cons_of_mem _ ht))) (fun hHeld => ?_)
      clear hK K hHeld
      try simp only [Act.put, List.setIfInBounds_toArray, List.set_cons_zero, List.set_cons_succ]
      refine anyH_narrow (S' := fun W => Kv C w W [p, q, r] (Th.vw (.slice A3 dz.length c3) dz :: Th.box B10 (.cells #[.slice Ay dy.length cy] 28 (0, 0)) :: Th.vw (.slice Ay dy.length cy) dy :: Th.box B8 (.cells #[.slice Ax dx.length cx] 28 (0, 0)) :: Th.vw (.slice Ax dx.length cx) dx :: [])) (fun _ h => (Kv.front3 h).less (fun _ ht => List.mem_cons_of_mem _ ht)) _ _ _ _ ?_
      have hHeld : Kv C w _ [p, q, r] (Th.vw (.slice A3 dz.length c3) dz :: Th.box B10 (.cells #[.slice Ay dy.length cy] 28 (0, 0)) :: Th.vw (.slice Ay dy.length cy) dy :: Th.box B8 (.cells #[.slice Ax dx.length cx] 28 (0, 0)) :: Th.vw (.slice Ax dx.length cx) dx :: []) := hk
      clear hk hfr
      refine wpAnyH_take (i := 11) (oi := ⟨some 25, _, _, _, _, _⟩) (v := ?va111) rfl (by kernel_rfl) (by kernel_rfl) (by kernel_rfl) (fun _ _ _ h => h) (Or.inl ⟨by rfl, ?ya111⟩) hHeld ?ra111
      case ya111 =>
        intro wx hSx
        go_simp
        try with_reducible rfl
      try simp only [Act.put, List.setIfInBounds_toArray, List.set_cons_zero, List.set_cons_succ]
      refine wpAnyH_take (i := 12) (oi := ⟨some 37, _, _, _, _, _⟩) (v := ?va112) rfl (by kernel_rfl) (by kernel_rfl) (by kernel_rfl) (fun _ _ _ h => h) (Or.inl ⟨by rfl, ?ya112⟩) hHeld ?ra112
      case ya112 =>
        intro wx hSx
        go_simp
        try with_reducible rfl
      try simp only [Act.put, List.setIfInBounds_toArray, List.set_cons_zero, List.set_cons_succ]
      refine wpAnyH_take (i := 13) (oi := ⟨some 38, _, _, _, _, _⟩) (v := ?va113) rfl (by kernel_rfl) (by kernel_rfl) (by kernel_rfl) (fun _ _ _ h => h) (Or.inl ⟨by rfl, ?ya113⟩) hHeld ?ra113
      case ya113 =>
        intro wx hSx
        go_simp
        try with_reducible rfl
      try simp only [Act.put, List.setIfInBounds_toArray, List.set_cons_zero, List.set_cons_succ]
      have HLOW : Hid (w.heap.size ≤ Wa.heap.size) := Lib.hid hHeld.size
      have HFR : Hid (∀ t ∈ Th.vw (.slice A3 dz.length c3) dz :: Th.box B10 (.cells #[.slice Ay dy.length cy] 28 (0, 0)) :: Th.vw (.slice Ay dy.length cy) dy :: Th.box B8 (.cells #[.slice Ax dx.length cx] 28 (0, 0)) :: Th.vw (.slice Ax dx.length cx) dx :: [], ¬ t.P Wa.heap.size) := Lib.hid (fun t ht hp => by
        have := t.lt _ _ (hHeld.is ht) hp
        omega)
      have hk5 := hHeld.add (t := Th.box Wa.heap.size (.cells #[.slice none 0 0] 28 (0, 0))) (below_new Wa _) (heap_alloc_new Wa _) (fun k hk => .inl (Nat.le_of_eq hk.symm))
      refine wpAnyH_ready (rs := [14]) (by kernel_rfl) (by simp) ?_
      refine AllReadyH.cons (o := ⟨some 12, _, _, _, _, _⟩) rfl (fun K hK => ?_) AllReadyH.nil
      clear hHeld
      go_simp
      refine hK.out _ _ (hk5.less (fun _ ht => List.mem_cons_of_mem _ ht)) (fun hHeld => ?_)
      clear hK K
      generalize Wa.alloc _ = Wb at hk5 hHeld ⊢
      generalize Wa.heap.size = B12 at hk5 HLOW HFR ⊢
      try simp only [Act.put, List.setIfInBounds_toArray, List.set_cons_zero, List.set_cons_succ]
      refine wpAnyH_take (i := 15) (oi := ⟨some 11, _, _, _, _, _⟩) (v := ?va415) rfl (by kernel_rfl) (by kernel_rfl) (by kernel_rfl) (fun _ _ _ h => h) (Or.inl ⟨by rfl, ?ya415⟩) hHeld ?ra415
      case ya415 =>
        intro wx hSx
        go_simp
        try with_reducible rfl
      try simp only [Act.put, List.setIfInBounds_toArray, List.set_cons_zero, List.set_cons_succ]
      have HBB := Lib.hid (hk5.is List.mem_cons_self)
      have y0 : Wb.cell? ⟨B12, 0, none⟩ = some (.slice none 0 0) := cell_at HBB.out 0
      have z0 : Wb.frozen? ⟨B12, 0, none⟩ = false := free_at HBB.out 0
      have HAN := Lib.hid (one_at HBB.out (.slice A3 dz.length c3) _ rfl)
      have HKP : Hid (Kv C w (Wb.setCell ⟨B12, 0, none⟩ (.slice A3 dz.length c3)) [p, q, r] (Th.box B12 (.cells #[.slice A3 dz.length c3] 28 (0, 0)) :: Th.vw (.slice A3 dz.length c3) dz :: Th.box B10 (.cells #[.slice Ay dy.length cy] 28 (0, 0)) :: Th.vw (.slice Ay dy.length cy) dy :: Th.box B8 (.cells #[.slice Ax dx.length cx] 28 (0, 0)) :: Th.vw (.slice Ax dx.length cx) dx :: [])) := Lib.hid (hk5.put (t' := Th.box B12 (.cells #[.slice A3 dz.length c3] 28 (0, 0))) HAN.out.2 (fun k hk => by
        injection hk with hk
        subst hk
        exact ⟨rfl, HLOW.out, HFR.out⟩) HAN.out.1 (fun k hk => .inl hk))
      clear hk5 HBB HAN
      refine wpAnyH_ready (rs := [16]) (by kernel_rfl) (by simp) ?_
      refine AllReadyH.cons (o := ⟨none, _, _, _, _, _⟩) rfl (fun K hK => ?_) AllReadyH.nil
      clear hHeld
      go_simp
      clear y0 z0
      generalize World.setCell _ _ _ = w9 at HKP ⊢
      refine hK.out _ _ (HKP.out.less (fun _ ht => List.mem_cons_of_mem _ ht)) (fun hHeld => ?_)
      clear hK K hHeld
      try simp only [Act.put, List.setIfInBounds_toArray, List.set_cons_zero, List.set_cons_succ]
      refine wpAnyH_done (by kernel_rfl) ?_ _
      go_wp2_with fail
      go_meet
      exact ⟨r, B12, rfl, rfl, Lib.hid ⟨dz, A3, c3, HV3.out.1, HV3.out.2, HKP.out⟩⟩
    case wayB =>
      have HLOW : Hid (w.heap.size ≤ wd.heap.size) := Lib.hid hHeld.size
      have HF2 : Hid (∀ t ∈ Th.box B10 (.cells #[.slice Ay dy.length cy] 28 (0, 0)) :: Th.vw (.slice Ay dy.length cy) dy :: Th.box B8 (.cells #[.slice Ax dx.length cx] 28 (0, 0)) :: Th.vw (.slice Ax dx.length cx) dx :: [], ¬ t.P wd.heap.size) := Lib.hid (fun t ht hp => by
        have := t.lt _ _ (hHeld.is ht) hp
        omega)
      have hk4 := hHeld.add (t := Th.box wd.heap.size (.cells #[.slice none 0 0] 28 (0, 0))) (below_new wd _) (heap_alloc_new wd _) (fun k hk => .inl (Nat.le_of_eq hk.symm))
      clear hHeld
      go_simp
      refine hK.out _ _ (hk4.less (fun _ ht => List.mem_cons_of_mem _ ht)) (fun hHeld => ?_)
      clear hK K
      have hsz : wd.heap.size < (wd.alloc (.cells #[.slice none 0 0] 28)).heap.size := by simp
      generalize wd.alloc _ = Wb at hk4 hsz hHeld ⊢
      generalize wd.heap.size = B12 at hk4 hsz HLOW HF2 ⊢
      have HSZ := Lib.hid hsz
      clear hsz
      try simp only [Act.put, List.setIfInBounds_toArray, List.set_cons_zero, List.set_cons_succ]
      refine wpAnyH_ready (rs := [10]) (by kernel_rfl) (by simp) ?_
      refine AllReadyH.cons (o := ⟨some 36, _, _, _, _, _⟩) rfl (fun K hK => ?_) AllReadyH.nil
      have HQc := Lib.hid (HB3.out Wb (Th.box B12 (.cells #[.slice none 0 0] 28 (0, 0)) :: Th.box B10 (.cells #[.slice Ay dy.length cy] 28 (0, 0)) :: Th.vw (.slice Ay dy.length cy) dy :: Th.box B8 (.cells #[.slice Ax dx.length cx] 28 (0, 0)) :: Th.vw (.slice Ax dx.length cx) dx :: []) p q hk4 (Below.refl _ _))
      go_simp
      refine HQc.out.mono ?_
      rintro e Wa ⟨r, u3, dz, rfl, hV3, hds3, hk0, hfr⟩
      have HV3 : Hid (r.V = vws dz ∧ VOk 100 (vws dz)) := Lib.hid ⟨hV3, by rw [hds3]; exact (foldV_ok _).mono (Nat.le_trans (madeL_len _ _) (by decide))⟩
      obtain ⟨A3, c3, rfl, -⟩ := id (show DsS Wa u3 dz from hk0.is List.mem_cons_self).1
      have hk : Kv C w Wa [p, q, r] (Th.vw (.slice A3 dz.length c3) dz :: Th.box B12 (.cells #[.slice none 0 0] 28 (0, 0)) :: Th.box B10 (.cells #[.slice Ay dy.length cy] 28 (0, 0)) :: Th.vw (.slice Ay dy.length cy) dy :: Th.box B8 (.cells #[.slice Ax dx.length cx] 28 (0, 0)) :: Th.vw (.slice Ax dx.length cx) dx :: []) := hk0
      clear hV3 hds3 hk0 HQc
      refine hK.out _ _ ((hk.front3.less (fun _ ht => List.mem_cons_of_mem _ (List.mem_cons_of_mem _ ht)))) (fun hHeld => ?_)
      clear hK K hHeld
      try simp only [Act.put, List.setIfInBounds_toArray, List.set_cons_zero, List.set_cons_succ]
      refine anyH_narrow (S' := fun W => Kv C w W [p, q, r] (Th.vw (.slice A3 dz.length c3) dz :: Th.box B10 (.cells #[.slice Ay dy.length cy] 28 (0, 0)) :: Th.vw (.slice Ay dy.length cy) dy :: Th.box B8 (.cells #[.slice Ax dx.length cx] 28 (0, 0)) :: Th.vw (.slice Ax dx.length cx) dx :: [])) (fun _ h => (Kv.front3 h).less (fun _ ht => List.mem_cons_of_mem _ ht)) _ _ _ _ ?_
      have hHeld : Kv C w _ [p, q, r] (Th.vw (.slice A3 dz.length c3) dz :: Th.box B10 (.cells #[.slice Ay dy.length cy] 28 (0, 0)) :: Th.vw (.slice Ay dy.length cy) dy :: Th.box B8 (.cells #[.slice Ax dx.length cx] 28 (0, 0)) :: Th.vw (.slice Ax dx.length cx) dx :: []) := (hk.less (fun t ht => by rcases List.mem_cons.1 ht with rfl | ht; exact List.mem_cons_self; exact List.mem_cons_of_mem _ (List.mem_cons_of_mem _ ht)))
      have hk5 := hk.swap
      have HFR : Hid (∀ t ∈ Th.vw (.slice A3 dz.length c3) dz :: Th.box B10 (.cells #[.slice Ay dy.length cy] 28 (0, 0)) :: Th.vw (.slice Ay dy.length cy) dy :: Th.box B8 (.cells #[.slice Ax dx.length cx] 28 (0, 0)) :: Th.vw (.slice Ax dx.length cx) dx :: [], ¬ t.P B12) := Lib.hid (fun t ht hp => by
        rcases List.mem_cons.1 ht with rfl | ht
        · have h1 := hfr _ hp
          have h2 := HSZ.out
          omega
        · exact HF2.out t ht hp)
      clear hk hk4 hfr
      refine wpAnyH_take (i := 11) (oi := ⟨some 25, _, _, _, _, _⟩) (v := ?vb111) rfl (by kernel_rfl) (by kernel_rfl) (by kernel_rfl) (fun _ _ _ h => h) (Or.inl ⟨by rfl, ?yb111⟩) hHeld ?rb111
      case yb111 =>
        intro wx hSx
        go_simp
        try with_reducible rfl
      try simp only [Act.put, List.setIfInBounds_toArray, List.set_cons_zero, List.set_cons_succ]
      refine wpAnyH_take (i := 12) (oi := ⟨some 37, _, _, _, _, _⟩) (v := ?vb112) rfl (by kernel_rfl) (by kernel_rfl) (by kernel_rfl) (fun _ _ _ h => h) (Or.inl ⟨by rfl, ?yb112⟩) hHeld ?rb112
      case yb112 =>
        intro wx hSx
        go_simp
        try with_reducible rfl
      try simp only [Act.put, List.setIfInBounds_toArray, List.set_cons_zero, List.set_cons_succ]
      refine wpAnyH_take (i := 13) (oi := ⟨some 38, _, _, _, _, _⟩) (v := ?vb113) rfl (by kernel_rfl) (by kernel_rfl) (by kernel_rfl) (fun _ _ _ h => h) (Or.inl ⟨by rfl, ?yb113⟩) hHeld ?rb113
      case yb113 =>
        intro wx hSx
        go_simp
        try with_reducible rfl
      try simp only [Act.put, List.setIfInBounds_toArray, List.set_cons_zero, List.set_cons_succ]
      refine wpAnyH_take (i := 15) (oi := ⟨some 11, _, _, _, _, _⟩) (v := ?vb115) rfl (by kernel_rfl) (by kernel_rfl) (by kernel_rfl) (fun _ _ _ h => h) (Or.inl ⟨by rfl, ?yb115⟩) hHeld ?rb115
      case yb115 =>
        intro wx hSx
        go_simp
        try with_reducible rfl
      try simp only [Act.put, List.setIfInBounds_toArray, List.set_cons_zero, List.set_cons_succ]
      have HBB := Lib.hid (hk5.is List.mem_cons_self)
      have y0 : Wa.cell? ⟨B12, 0, none⟩ = some (.slice none 0 0) := cell_at HBB.out 0
      have z0 : Wa.frozen? ⟨B12, 0, none⟩ = false := free_at HBB.out 0
      have HAN := Lib.hid (one_at HBB.out (.slice A3 dz.length c3) _ rfl)
      have HKP : Hid (Kv C w (Wa.setCell ⟨B12, 0, none⟩ (.slice A3 dz.length c3)) [p, q, r] (Th.box B12 (.cells #[.slice A3 dz.length c3] 28 (0, 0)) :: Th.vw (.slice A3 dz.length c3) dz :: Th.box B10 (.cells #[.slice Ay dy.length cy] 28 (0, 0)) :: Th.vw (.slice Ay dy.length cy) dy :: Th.box B8 (.cells #[.slice Ax dx.length cx] 28 (0, 0)) :: Th.vw (.slice Ax dx.length cx) dx :: [])) := Lib.hid (hk5.put (t' := Th.box B12 (.cells #[.slice A3 dz.length c3] 28 (0, 0))) HAN.out.2 (fun k hk => by
        injection hk with hk
        subst hk
        exact ⟨rfl, HLOW.out, HFR.out⟩) HAN.out.1 (fun k hk => .inl hk))
      clear hk5 HBB HAN
      refine wpAnyH_ready (rs := [16]) (by kernel_rfl) (by simp) ?_
      refine AllReadyH.cons (o := ⟨none, _, _, _, _, _⟩) rfl (fun K hK => ?_) AllReadyH.nil
      clear hHeld
      go_simp
      clear y0 z0
      generalize World.setCell _ _ _ = w9 at HKP ⊢
      refine hK.out _ _ (HKP.out.less (fun _ ht => List.mem_cons_of_mem _ ht)) (fun hHeld => ?_)
      clear hK K hHeld
      try simp only [Act.put, List.setIfInBounds_toArray, List.set_cons_zero, List.set_cons_succ]
      refine wpAnyH_done (by kernel_rfl) ?_ _
      go_wp2_with fail
      go_meet
      exact ⟨r, B12, rfl, rfl, Lib.hid ⟨dz, A3, c3, HV3.out.1, HV3.out.2, HKP.out⟩⟩
  case rest =>
    obtain ⟨r, B12, rfl, rfl, HR⟩ := hcut
    obtain ⟨dz, Az, cz, hrV, hrO, hk⟩ := HR.out
    have HVr : Hid (r.V = vws dz ∧ VOk 100 (vws dz)) := Lib.hid ⟨hrV, hrO⟩
    have HK := Lib.hid hk
    clear HR hrV hrO hk HKq
    have HC1 := Lib.hid (fun W (hw : Kv C w W [p, q, r] (Th.box B12 (.cells #[.slice Az dz.length cz] 28 (0, 0)) :: Th.vw (.slice Az dz.length cz) dz :: Th.box B10 (.cells #[.slice Ay dy.length cy] 28 (0, 0)) :: Th.vw (.slice Ay dy.length cy) dy :: Th.box B8 (.cells #[.slice Ax dx.length cx] 28 (0, 0)) :: Th.vw (.slice Ax dx.length cx) dx :: [])) => viewSame_any CA CS hw (i := 0) (j := 1) rfl rfl)
    have HC2 := Lib.hid (fun W (hw : Kv C w W [p, q, r] (Th.box B12 (.cells #[.slice Az dz.length cz] 28 (0, 0)) :: Th.vw (.slice Az dz.length cz) dz :: Th.box B10 (.cells #[.slice Ay dy.length cy] 28 (0, 0)) :: Th.vw (.slice Ay dy.length cy) dy :: Th.box B8 (.cells #[.slice Ax dx.length cx] 28 (0, 0)) :: Th.vw (.slice Ax dx.length cx) dx :: [])) => viewSame_any CA CS hw (i := 1) (j := 0) rfl rfl)
    have HC3 := Lib.hid (fun W (hw : Kv C w W [p, q, r] (Th.box B12 (.cells #[.slice Az dz.length cz] 28 (0, 0)) :: Th.vw (.slice Az dz.length cz) dz :: Th.box B10 (.cells #[.slice Ay dy.length cy] 28 (0, 0)) :: Th.vw (.slice Ay dy.length cy) dy :: Th.box B8 (.cells #[.slice Ax dx.length cx] 28 (0, 0)) :: Th.vw (.slice Ax dx.length cx) dx :: [])) => viewSame_any CA CS hw (i := 0) (j := 2) rfl rfl)
    have HC4 := Lib.hid (fun W (hw : Kv C w W [p, q, r] (Th.box B12 (.cells #[.slice Az dz.length cz] 28 (0, 0)) :: Th.vw (.slice Az dz.length cz) dz :: Th.box B10 (.cells #[.slice Ay dy.length cy] 28 (0, 0)) :: Th.vw (.slice Ay dy.length cy) dy :: Th.box B8 (.cells #[.slice Ax dx.length cx] 28 (0, 0)) :: Th.vw (.slice Ax dx.length cx) dx :: [])) => viewSame_any CA CS hw (i := 0) (j := 0) rfl rfl)
    have HR1 := Lib.hid (fun W (hw : Kv C w W [p, q, r] (Th.box B12 (.cells #[.slice Az dz.length cz] 28 (0, 0)) :: Th.vw (.slice Az dz.length cz) dz :: Th.box B10 (.cells #[.slice Ay dy.length cy] 28 (0, 0)) :: Th.vw (.slice Ay dy.length cy) dy :: Th.box B8 (.cells #[.slice Ax dx.length cx] 28 (0, 0)) :: Th.vw (.slice Ax dx.length cx) dx :: [])) => refSame10_any hw (u := .slice Ax dx.length cx) (u' := .slice Ay dy.length cy) (ds := dx) (es := dy) (List.mem_cons_of_mem _ (List.mem_cons_of_mem _ (List.mem_cons_of_mem _ (List.mem_cons_of_mem _ (List.mem_cons_of_mem _ List.mem_cons_self))))) (List.mem_cons_of_mem _ (List.mem_cons_of_mem _ (List.mem_cons_of_mem _ List.mem_cons_self))) HVp.out.2 HVq.out.2)
    have HR3 := Lib.hid (fun W (hw : Kv C w W [p, q, r] (Th.box B12 (.cells #[.slice Az dz.length cz] 28 (0, 0)) :: Th.vw (.slice Az dz.length cz) dz :: Th.box B10 (.cells #[.slice Ay dy.length cy] 28 (0, 0)) :: Th.vw (.slice Ay dy.length cy) dy :: Th.box B8 (.cells #[.slice Ax dx.length cx] 28 (0, 0)) :: Th.vw (.slice Ax dx.length cx) dx :: [])) => refSame10_any hw (u := .slice Ax dx.length cx) (u' := .slice Az dz.length cz) (ds := dx) (es := dz) (List.mem_cons_of_mem _ (List.mem_cons_of_mem _ (List.mem_cons_of_mem _ (List.mem_cons_of_mem _ (List.mem_cons_of_mem _ List.mem_cons_self))))) (List.mem_cons_of_mem _ List.mem_cons_self) HVp.out.2 HVr.out.2)
    have HZ := Lib.hid (fun W (hw : Kv C w W [p, q, r] (Th.box B12 (.cells #[.slice Az dz.length cz] 28 (0, 0)) :: Th.vw (.slice Az dz.length cz) dz :: Th.box B10 (.cells #[.slice Ay dy.length cy] 28 (0, 0)) :: Th.vw (.slice Ay dy.length cy) dy :: Th.box B8 (.cells #[.slice Ax dx.length cx] 28 (0, 0)) :: Th.vw (.slice Ax dx.length cx) dx :: [])) => lives10_any CR hw)
    rw [HVp.out.1, HVq.out.1] at HC1
    rw [HVp.out.1, HVq.out.1, sameV_comm] at HC2
    rw [HVp.out.1, HVr.out.1] at HC3
    rw [show sameV p.V p.V = true from decide_eq_true rfl] at HC4
    generalize sameV (vws dx) (vws dy) = s1 at HC1 HC2 HR1
    generalize sameV (vws dx) (vws dz) = s2 at HC3 HR3
    have e1 : (s1 == s1) = true := by cases s1 <;> rfl
    have e2 : (s2 == s2) = true := by cases s2 <;> rfl
    clear HVp HVq HVr HB3
    go_upto_region 6 with (fail)
    refine wp_region_held_drew (S := fun W => Kv C w W [p, q, r] (Th.box B12 (.cells #[.slice Az dz.length cz] 28 (0, 0)) :: Th.vw (.slice Az dz.length cz) dz :: Th.box B10 (.cells #[.slice Ay dy.length cy] 28 (0, 0)) :: Th.vw (.slice Ay dy.length cy) dy :: Th.box B8 (.cells #[.slice Ax dx.length cx] 28 (0, 0)) :: Th.vw (.slice Ax dx.length cx) dx :: [])) (by kernel_rfl) (HK.out.later (below_drew _)) (fun hHeld => ?_)
    clear HK
    generalize World.drew _ = wd at hHeld ⊢
    refine wpAnyH_take (i := 0) (oi := ⟨some 49, _, _, _, _, _⟩) (v := ?vcs0_0) rfl (by kernel_rfl) (by kernel_rfl) (by kernel_rfl) (fun _ _ _ h => h) (Or.inl ⟨by rfl, ?ycs0_0⟩) hHeld ?rcs0_0
    case ycs0_0 =>
      intro wx hSx
      go_simp
      try with_reducible rfl
    try simp only [Act.put, List.setIfInBounds_toArray, List.set_cons_zero, List.set_cons_succ]
    refine wpAnyH_take (i := 1) (oi := ⟨some 50, _, _, _, _, _⟩) (v := ?vcs0_1) rfl (by kernel_rfl) (by kernel_rfl) (by kernel_rfl) (fun _ _ _ h => h) (Or.inl ⟨by rfl, ?ycs0_1⟩) hHeld ?rcs0_1
    case ycs0_1 =>
      intro wx hSx
      go_simp
      try with_reducible rfl
    try simp only [Act.put, List.setIfInBounds_toArray, List.set_cons_zero, List.set_cons_succ]
    refine wpAnyH_take (i := 3) (oi := ⟨some 52, _, _, _, _, _⟩) (v := ?vcs0_3) rfl (by kernel_rfl) (by kernel_rfl) (by kernel_rfl) (fun _ _ _ h => h) (Or.inl ⟨by rfl, ?ycs0_3⟩) hHeld ?rcs0_3
    case ycs0_3 =>
      intro wx hSx
      have zB8 : wx.cell? ⟨B8, 0, none⟩ = some (.slice Ax dx.length cx) := cell_at (hSx.is (List.mem_cons_of_mem _ (List.mem_cons_of_mem _ (List.mem_cons_of_mem _ (List.mem_cons_of_mem _ List.mem_cons_self))))) 0
      go_simp
      try with_reducible rfl
    try simp only [Act.put, List.setIfInBounds_toArray, List.set_cons_zero, List.set_cons_succ]
    refine wpAnyH_take (i := 4) (oi := ⟨some 53, _, _, _, _, _⟩) (v := ?vcs0_4) rfl (by kernel_rfl) (by kernel_rfl) (by kernel_rfl) (fun _ _ _ h => h) (Or.inl ⟨by rfl, ?ycs0_4⟩) hHeld ?rcs0_4
    case ycs0_4 =>
      intro wx hSx
      have zB10 : wx.cell? ⟨B10, 0, none⟩ = some (.slice Ay dy.length cy) := cell_at (hSx.is (List.mem_cons_of_mem _ (List.mem_cons_of_mem _ List.mem_cons_self))) 0
      go_simp
      try with_reducible rfl
    try simp only [Act.put, List.setIfInBounds_toArray, List.set_cons_zero, List.set_cons_succ]
    refine wpAnyH_ready (rs := [2]) (by kernel_rfl) (by simp) ?_
    refine AllReadyH.cons (o := ⟨some 51, _, _, _, _, _⟩) rfl (fun K hK => ?wc2) AllReadyH.nil
    case wc2 =>
      have HQc := Lib.hid (HC1.out wd hHeld)
      go_simp
      refine HQc.out.mono ?_
      rintro e Wc2 ⟨rfl, hk⟩
      refine hK.out _ _ hk (fun hHeld => ?_)
      clear hK K hk HQc
      try simp only [Act.put, List.setIfInBounds_toArray, List.set_cons_zero, List.set_cons_succ]
      refine wpAnyH_ready (rs := [5]) (by kernel_rfl) (by simp) ?_
      refine AllReadyH.cons (o := ⟨some 54, _, _, _, _, _⟩) rfl (fun K hK => ?wc2x5) AllReadyH.nil
      case wc2x5 =>
        have HQc := Lib.hid (HR1.out Wc2 hHeld)
        go_simp
        refine HQc.out.mono ?_
        rintro e Wc2x5 ⟨rfl, hk⟩
        refine hK.out _ _ hk (fun hHeld => ?_)
        clear hK K hk HQc
        try simp only [Act.put, List.setIfInBounds_toArray, List.set_cons_zero, List.set_cons_succ]
        refine wpAnyH_take (i := 6) (oi := ⟨some 55, _, _, _, _, _⟩) (v := ?vc2x5xs2_6) rfl (by kernel_rfl) (by kernel_rfl) (by kernel_rfl) (fun _ _ _ h => h) (Or.inl ⟨by rfl, ?yc2x5xs2_6⟩) hHeld ?rc2x5xs2_6
        case yc2x5xs2_6 =>
          intro wx hSx
          go_simp
          try with_reducible rfl
        try simp only [Act.put, List.setIfInBounds_toArray, List.set_cons_zero, List.set_cons_succ]
        refine wpAnyH_take (i := 7) (oi := ⟨some 56, _, _, _, _, _⟩) (v := ?vc2x5xs2_7) rfl (by kernel_rfl) (by kernel_rfl) (by kernel_rfl) (fun _ _ _ h => h) (Or.inl ⟨by rfl, ?yc2x5xs2_7⟩) hHeld ?rc2x5xs2_7
        case yc2x5xs2_7 =>
          intro wx hSx
          go_simp
          try with_reducible rfl
        try simp only [Act.put, List.setIfInBounds_toArray, List.set_cons_zero, List.set_cons_succ]
        refine wpAnyH_take (i := 8) (oi := ⟨some 57, _, _, _, _, _⟩) (v := ?vc2x5xs2_8) rfl (by kernel_rfl) (by kernel_rfl) (by kernel_rfl) (fun _ _ _ h => h) (Or.inl ⟨by rfl, ?yc2x5xs2_8⟩) hHeld ?rc2x5xs2_8
        case yc2x5xs2_8 =>
          intro wx hSx
          go_simp
          try with_reducible rfl
        try simp only [Act.put, List.setIfInBounds_toArray, List.set_cons_zero, List.set_cons_succ]
        refine wpAnyH_take (i := 9) (oi := ⟨some 58, _, _, _, _, _⟩) (v := ?vc2x5xs2_9) rfl (by kernel_rfl) (by kernel_rfl) (by kernel_rfl) (fun _ _ _ h => h) (Or.inl ⟨by rfl, ?yc2x5xs2_9⟩) hHeld ?rc2x5xs2_9
        case yc2x5xs2_9 =>
          intro wx hSx
          go_simp
          try with_reducible rfl
        try simp only [Act.put, List.setIfInBounds_toArray, List.set_cons_zero, List.set_cons_succ]
        refine wpAnyH_take (i := 11) (oi := ⟨some 60, _, _, _, _, _⟩) (v := ?vc2x5xs2_11) rfl (by kernel_rfl) (by kernel_rfl) (by kernel_rfl) (fun _ _ _ h => h) (Or.inl ⟨by rfl, ?yc2x5xs2_11⟩) hHeld ?rc2x5xs2_11
        case yc2x5xs2_11 =>
          intro wx hSx
          have zB8 : wx.cell? ⟨B8, 0, none⟩ = some (.slice Ax dx.length cx) := cell_at (hSx.is (List.mem_cons_of_mem _ (List.mem_cons_of_mem _ (List.mem_cons_of_mem _ (List.mem_cons_of_mem _ List.mem_cons_self))))) 0
          go_simp
          try with_reducible rfl
        try simp only [Act.put, List.setIfInBounds_toArray, List.set_cons_zero, List.set_cons_succ]
        refine wpAnyH_take (i := 12) (oi := ⟨some 61, _, _, _, _, _⟩) (v := ?vc2x5xs2_12) rfl (by kernel_rfl) (by kernel_rfl) (by kernel_rfl) (fun _ _ _ h => h) (Or.inl ⟨by rfl, ?yc2x5xs2_12⟩) hHeld ?rc2x5xs2_12
        case yc2x5xs2_12 =>
          intro wx hSx
          have zB10 : wx.cell? ⟨B10, 0, none⟩ = some (.slice Ay dy.length cy) := cell_at (hSx.is (List.mem_cons_of_mem _ (List.mem_cons_of_mem _ List.mem_cons_self))) 0
          go_simp
          try with_reducible rfl
        try simp only [Act.put, List.setIfInBounds_toArray, List.set_cons_zero, List.set_cons_succ]
        refine wpAnyH_ready (rs := [10]) (by kernel_rfl) (by simp) ?_
        refine AllReadyH.cons (o := ⟨some 59, _, _, _, _, _⟩) rfl (fun K hK => ?wc2x5x10) AllReadyH.nil
        case wc2x5x10 =>
          have HQc := Lib.hid (HC2.out Wc2x5 hHeld)
          go_simp
          refine HQc.out.mono ?_
          rintro e Wc2x5x10 ⟨rfl, hk⟩
          refine hK.out _ _ hk (fun hHeld => ?_)
          clear hK K hk HQc
          try simp only [Act.put, List.setIfInBounds_toArray, List.set_cons_zero, List.set_cons_succ]
          refine wpAnyH_ready (rs := [13]) (by kernel_rfl) (by simp) ?_
          refine AllReadyH.cons (o := ⟨some 62, _, _, _, _, _⟩) rfl (fun K hK => ?wc2x5x10x13) AllReadyH.nil
          case wc2x5x10x13 =>
            have HQc := Lib.hid (HR1.out Wc2x5x10 hHeld)
            go_simp
            refine HQc.out.mono ?_
            rintro e Wc2x5x10x13 ⟨rfl, hk⟩
            refine hK.out _ _ hk (fun hHeld => ?_)
            clear hK K hk HQc
            try simp only [Act.put, List.setIfInBounds_toArray, List.set_cons_zero, List.set_cons_succ]
            refine wpAnyH_take (i := 14) (oi := ⟨some 63, _, _, _, _, _⟩) (v := ?vc2x5x10x13xs4_14) rfl (by kernel_rfl) (by kernel_rfl) (by kernel_rfl) (fun _ _ _ h => h) (Or.inl ⟨by rfl, ?yc2x5x10x13xs4_14⟩) hHeld ?rc2x5x10x13xs4_14
            case yc2x5x10x13xs4_14 =>
              intro wx hSx
              go_simp
              try with_reducible rfl
            try simp only [Act.put, List.setIfInBounds_toArray, List.set_cons_zero, List.set_cons_succ]
            refine wpAnyH_take (i := 15) (oi := ⟨some 64, _, _, _, _, _⟩) (v := ?vc2x5x10x13xs4_15) rfl (by kernel_rfl) (by kernel_rfl) (by kernel_rfl) (fun _ _ _ h => h) (Or.inl ⟨by rfl, ?yc2x5x10x13xs4_15⟩) hHeld ?rc2x5x10x13xs4_15
            case yc2x5x10x13xs4_15 =>
              intro wx hSx
              go_simp
              try with_reducible rfl
            try simp only [Act.put, List.setIfInBounds_toArray, List.set_cons_zero, List.set_cons_succ]
            refine wpAnyH_take (i := 16) (oi := ⟨some 65, _, _, _, _, _⟩) (v := ?vc2x5x10x13xs4_16) rfl (by kernel_rfl) (by kernel_rfl) (by kernel_rfl) (fun _ _ _ h => h) (Or.inl ⟨by rfl, ?yc2x5x10x13xs4_16⟩) hHeld ?rc2x5x10x13xs4_16
            case yc2x5x10x13xs4_16 =>
              intro wx hSx
              go_simp
              try with_reducible rfl
            try simp only [Act.put, List.setIfInBounds_toArray, List.set_cons_zero, List.set_cons_succ]
            refine wpAnyH_take (i := 17) (oi := ⟨some 66, _, _, _, _, _⟩) (v := ?vc2x5x10x13xs4_17) rfl (by kernel_rfl) (by kernel_rfl) (by kernel_rfl) (fun _ _ _ h => h) (Or.inl ⟨by rfl, ?yc2x5x10x13xs4_17⟩) hHeld ?rc2x5x10x13xs4_17
            case yc2x5x10x13xs4_17 =>
              intro wx hSx
              go_simp
              try with_reducible rfl
            try simp only [Act.put, List.setIfInBounds_toArray, List.set_cons_zero, List.set_cons_succ]
            refine wpAnyH_take (i := 18) (oi := ⟨some 67, _, _, _, _, _⟩) (v := ?vc2x5x10x13xs4_18) rfl (by kernel_rfl) (by kernel_rfl) (by kernel_rfl) (fun _ _ _ h => h) (Or.inl ⟨by rfl, ?yc2x5x10x13xs4_18⟩) hHeld ?rc2x5x10x13xs4_18
            case yc2x5x10x13xs4_18 =>
              intro wx hSx
              go_simp
              try with_reducible rfl
            try simp only [Act.put, List.setIfInBounds_toArray, List.set_cons_zero, List.set_cons_succ]
            refine wpAnyH_take (i := 20) (oi := ⟨some 69, _, _, _, _, _⟩) (v := ?vc2x5x10x13xs4_20) rfl (by kernel_rfl) (by kernel_rfl) (by kernel_rfl) (fun _ _ _ h => h) (Or.inl ⟨by rfl, ?yc2x5x10x13xs4_20⟩) hHeld ?rc2x5x10x13xs4_20
            case yc2x5x10x13xs4_20 =>
              intro wx hSx
              have zB8 : wx.cell? ⟨B8, 0, none⟩ = some (.slice Ax dx.length cx) := cell_at (hSx.is (List.mem_cons_of_mem _ (List.mem_cons_of_mem _ (List.mem_cons_of_mem _ (List.mem_cons_of_mem _ List.mem_cons_self))))) 0
              go_simp
              try with_reducible rfl
            try simp only [Act.put, List.setIfInBounds_toArray, List.set_cons_zero, List.set_cons_succ]
            refine wpAnyH_take (i := 21) (oi := ⟨some 70, _, _, _, _, _⟩) (v := ?vc2x5x10x13xs4_21) rfl (by kernel_rfl) (by kernel_rfl) (by kernel_rfl) (fun _ _ _ h => h) (Or.inl ⟨by rfl, ?yc2x5x10x13xs4_21⟩) hHeld ?rc2x5x10x13xs4_21
            case yc2x5x10x13xs4_21 =>
              intro wx hSx
              have zB12 : wx.cell? ⟨B12, 0, none⟩ = some (.slice Az dz.length cz) := cell_at (hSx.is List.mem_cons_self) 0
              go_simp
              try with_reducible rfl
            try simp only [Act.put, List.setIfInBounds_toArray, List.set_cons_zero, List.set_cons_succ]
            refine wpAnyH_ready (rs := [19]) (by kernel_rfl) (by simp) ?_
            refine AllReadyH.cons (o := ⟨some 68, _, _, _, _, _⟩) rfl (fun K hK => ?wc2x5x10x13x19) AllReadyH.nil
            case wc2x5x10x13x19 =>
              have HQc := Lib.hid (HC3.out Wc2x5x10x13 hHeld)
              go_simp
              refine HQc.out.mono ?_
              rintro e Wc2x5x10x13x19 ⟨rfl, hk⟩
              refine hK.out _ _ hk (fun hHeld => ?_)
              clear hK K hk HQc
              try simp only [Act.put, List.setIfInBounds_toArray, List.set_cons_zero, List.set_cons_succ]
              refine wpAnyH_ready (rs := [22]) (by kernel_rfl) (by simp) ?_
              refine AllReadyH.cons (o := ⟨some 71, _, _, _, _, _⟩) rfl (fun K hK => ?wc2x5x10x13x19x22) AllReadyH.nil
              case wc2x5x10x13x19x22 =>
                have HQc := Lib.hid (HR3.out Wc2x5x10x13x19 hHeld)
                go_simp
                refine HQc.out.mono ?_
                rintro e Wc2x5x10x13x19x22 ⟨rfl, hk⟩
                refine hK.out _ _ hk (fun hHeld => ?_)
                clear hK K hk HQc
                try simp only [Act.put, List.setIfInBounds_toArray, List.set_cons_zero, List.set_cons_succ]
                refine wpAnyH_take (i := 23) (oi := ⟨some 72, _, _, _, _, _⟩) (v := ?vc2x5x10x13x19x22xs6_23) rfl (by kernel_rfl) (by kernel_rfl) (by kernel_rfl) (fun _ _ _ h => h) (Or.inl ⟨by rfl, ?yc2x5x10x13x19x22xs6_23⟩) hHeld ?rc2x5x10x13x19x22xs6_23
                case yc2x5x10x13x19x22xs6_23 =>
                  intro wx hSx
                  go_simp
                  try with_reducible rfl
                try simp only [Act.put, List.setIfInBounds_toArray, List.set_cons_zero, List.set_cons_succ]
                refine wpAnyH_take (i := 24) (oi := ⟨some 73, _, _, _, _, _⟩) (v := ?vc2x5x10x13x19x22xs6_24) rfl (by kernel_rfl) (by kernel_rfl) (by kernel_rfl) (fun _ _ _ h => h) (Or.inl ⟨by rfl, ?yc2x5x10x13x19x22xs6_24⟩) hHeld ?rc2x5x10x13x19x22xs6_24
                case yc2x5x10x13x19x22xs6_24 =>
                  intro wx hSx
                  go_simp
                  try with_reducible rfl
                try simp only [Act.put, List.setIfInBounds_toArray, List.set_cons_zero, List.set_cons_succ]
                refine wpAnyH_take (i := 25) (oi := ⟨some 74, _, _, _, _, _⟩) (v := ?vc2x5x10x13x19x22xs6_25) rfl (by kernel_rfl) (by kernel_rfl) (by kernel_rfl) (fun _ _ _ h => h) (Or.inl ⟨by rfl, ?yc2x5x10x13x19x22xs6_25⟩) hHeld ?rc2x5x10x13x19x22xs6_25
                case yc2x5x10x13x19x22xs6_25 =>
                  intro wx hSx
                  go_simp
                  try with_reducible rfl
                try simp only [Act.put, List.setIfInBounds_toArray, List.set_cons_zero, List.set_cons_succ]
                refine wpAnyH_take (i := 26) (oi := ⟨some 75, _, _, _, _, _⟩) (v := ?vc2x5x10x13x19x22xs6_26) rfl (by kernel_rfl) (by kernel_rfl) (by kernel_rfl) (fun _ _ _ h => h) (Or.inl ⟨by rfl, ?yc2x5x10x13x19x22xs6_26⟩) hHeld ?rc2x5x10x13x19x22xs6_26
                case yc2x5x10x13x19x22xs6_26 =>
                  intro wx hSx
                  go_simp
                  try with_reducible rfl
                try simp only [Act.put, List.setIfInBounds_toArray, List.set_cons_zero, List.set_cons_succ]
                refine wpAnyH_take (i := 27) (oi := ⟨some 76, _, _, _, _, _⟩) (v := ?vc2x5x10x13x19x22xs6_27) rfl (by kernel_rfl) (by kernel_rfl) (by kernel_rfl) (fun _ _ _ h => h) (Or.inl ⟨by rfl, ?yc2x5x10x13x19x22xs6_27⟩) hHeld ?rc2x5x10x13x19x22xs6_27
                case yc2x5x10x13x19x22xs6_27 =>
                  intro wx hSx
                  go_simp
                  try with_reducible rfl
                try simp only [Act.put, List.setIfInBounds_toArray, List.set_cons_zero, List.set_cons_succ]
                refine wpAnyH_ready (rs := [28]) (by kernel_rfl) (by simp) ?_
                refine AllReadyH.cons (o := ⟨some 77, _, _, _, _, _⟩) rfl (fun K hK => ?wc2x5x10x13x19x22x28) AllReadyH.nil
                case wc2x5x10x13x19x22x28 =>
                  have HQc := Lib.hid (HC4.out Wc2x5x10x13x19x22 hHeld)
                  go_simp
                  refine HQc.out.mono ?_
                  rintro e Wc2x5x10x13x19x22x28 ⟨rfl, hk⟩
                  refine hK.out _ _ hk (fun hHeld => ?_)
                  clear hK K hk HQc
                  try simp only [Act.put, List.setIfInBounds_toArray, List.set_cons_zero, List.set_cons_succ]
                  refine wpAnyH_take (i := 29) (oi := ⟨some 78, _, _, _, _, _⟩) (v := ?vc2x5x10x13x19x22x28xs7_29) rfl (by kernel_rfl) (by kernel_rfl) (by kernel_rfl) (fun _ _ _ h => h) (Or.inl ⟨by rfl, ?yc2x5x10x13x19x22x28xs7_29⟩) hHeld ?rc2x5x10x13x19x22x28xs7_29
                  case yc2x5x10x13x19x22x28xs7_29 =>
                    intro wx hSx
                    go_simp
                    try with_reducible rfl
                  try simp only [Act.put, List.setIfInBounds_toArray, List.set_cons_zero, List.set_cons_succ]
                  refine wpAnyH_take (i := 30) (oi := ⟨some 79, _, _, _, _, _⟩) (v := ?vc2x5x10x13x19x22x28xs7_30) rfl (by kernel_rfl) (by kernel_rfl) (by kernel_rfl) (fun _ _ _ h => h) (Or.inl ⟨by rfl, ?yc2x5x10x13x19x22x28xs7_30⟩) hHeld ?rc2x5x10x13x19x22x28xs7_30
                  case yc2x5x10x13x19x22x28xs7_30 =>
                    intro wx hSx
                    go_simp
                    try with_reducible rfl
                  try simp only [Act.put, List.setIfInBounds_toArray, List.set_cons_zero, List.set_cons_succ]
                  refine wpAnyH_ready (rs := [31]) (by kernel_rfl) (by simp) ?_
                  refine AllReadyH.cons (o := ⟨some 80, _, _, _, _, _⟩) rfl (fun K hK => ?wc2x5x10x13x19x22x28x31) AllReadyH.nil
                  case wc2x5x10x13x19x22x28x31 =>
                    have HQc := Lib.hid (HZ.out Wc2x5x10x13x19x22x28 hHeld)
                    go_simp
                    refine HQc.out.mono ?_
                    rintro e Wc2x5x10x13x19x22x28x31 ⟨rfl, hk⟩
                    refine hK.out _ _ hk (fun hHeld => ?_)
                    clear hK K hk HQc
                    try simp only [Act.put, List.setIfInBounds_toArray, List.set_cons_zero, List.set_cons_succ]
                    refine wpAnyH_take (i := 32) (oi := ⟨some 81, _, _, _, _, _⟩) (v := ?vc2x5x10x13x19x22x28x31xs8_32) rfl (by kernel_rfl) (by kernel_rfl) (by kernel_rfl) (fun _ _ _ h => h) (Or.inl ⟨by rfl, ?yc2x5x10x13x19x22x28x31xs8_32⟩) hHeld ?rc2x5x10x13x19x22x28x31xs8_32
                    case yc2x5x10x13x19x22x28x31xs8_32 =>
                      intro wx hSx
                      go_simp
                      try with_reducible rfl
                    try simp only [Act.put, List.setIfInBounds_toArray, List.set_cons_zero, List.set_cons_succ]
                    refine wpAnyH_take (i := 33) (oi := ⟨some 6, _, _, _, _, _⟩) (v := ?vc2x5x10x13x19x22x28x31xs8_33) rfl (by kernel_rfl) (by kernel_rfl) (by kernel_rfl) (fun _ _ _ h => h) (Or.inl ⟨by rfl, ?yc2x5x10x13x19x22x28x31xs8_33⟩) hHeld ?rc2x5x10x13x19x22x28x31xs8_33
                    case yc2x5x10x13x19x22x28x31xs8_33 =>
                      intro wx hSx
                      go_simp
                      try with_reducible rfl
                    try simp only [Act.put, List.setIfInBounds_toArray, List.set_cons_zero, List.set_cons_succ]
                    refine wpAnyH_done (by kernel_rfl) ?_ _
                    have HKF := Lib.hid hHeld
                    clear hHeld
                    go_wp2_with fail
                    go_ret
                    exact ⟨rfl, HKF.out.below⟩
end
end Go.Proofs.YtjiecjpepiknmaaGreat
