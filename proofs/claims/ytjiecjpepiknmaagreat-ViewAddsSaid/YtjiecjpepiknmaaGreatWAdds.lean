/-
  The walk of ViewAdds.
-/
import Derived.Test.YtjiecjpepiknmaaGreatA7
import Derived.Test.YtjiecjpepiknmaaGreatA3
namespace Go.Proofs.YtjiecjpepiknmaaGreat
set_option maxRecDepth 20000
open Go.RowKit
set_option linter.unusedVariables false
set_option linter.unusedSimpArgs false
section
variable {C : Dags}

theorem refSameAllK2 {C : Dags} {w wr : World} {vs : List VI} {ts : List Th} (h : Kv C w wr vs ts) {v v' : Value} {xs ys : List EvV} (hx : Th.evs v xs ∈ ts) (hy : Th.evs v' ys ∈ ts) (hl : xs.length ≤ 1000) (hl' : ys.length ≤ 1000) : Calls Tryz.prog 14 #[v, v'] wr fun e w' => e = .returned (.bool (decide (evs xs = evs ys))) ∧ Kv C w w' vs ts :=
  (refSameAll_any v v' xs ys wr (h.is hx) (h.is hy) hl hl').mono (fun e w' he => ⟨he.1, h.later he.2.below⟩)
theorem Kv.weak2 {C : Dags} {w wr : World} {vs : List VI} {ts : List Th} {t t' : Th} (h : Kv C w wr vs (t :: ts)) (hI : t'.I wr) (hP : ∀ k, t'.P k → t.P k) : Kv C w wr vs (t' :: ts) :=
  (h.with (t := t') hI (fun k hk j u hj => (h.th t List.mem_cons_self).2 j u hj k (hP k hk))).less (fun x hx => by
    rcases List.mem_cons.1 hx with rfl | hx
    · exact List.mem_cons_self
    · exact List.mem_cons_of_mem _ (List.mem_cons_of_mem _ hx))
set_option maxHeartbeats 3200000 in
theorem viewAdds_walk (C : Dags) (CR : DagRms C) (CA : DagAlls C) (CH : DagHds C) (va vb vo vi : Value) (gs hs : List GV) (xs : List EvV) (ks : List Int) (w : World) (ha : GsS w va gs) (hb : GsS w vb hs) (ho : EvsS w vo xs) (hi : LI.Slice w vi ks) (hib : ∀ o ∈ ks, i64B o) :
    Calls Tryz.prog 3 #[va, vb, vo, vi] w fun e w' => e = .returned (.bool true) ∧ Below w.heap.size w w' := by
  have HBU := Lib.hid (build10_any CR va vb gs hs (Kv.start (C := C) w) ha hb)
  obtain ⟨Aa, ca, rfl, -⟩ := id ha.1
  obtain ⟨Ab, cb, rfl, -⟩ := id hb.1
  obtain ⟨Ao, co, rfl, ho1, ho2, -⟩ := id ho.1
  obtain ⟨Ai, ci, rfl, hi1, hi2, -⟩ := id hi
  unfold maxLen at ho2 hi2
  have HO := Lib.hid ho
  have HI := Lib.hid hi
  have HIB := Lib.hid hib
  have HML := Lib.hid (madeL_len gs hs)
  clear ha hb ho hi hib
  generalize madeL gs hs = ml at HML HBU ⊢
  go_enter Tryz.func3, Tryz.ntmps3
  go_wp2_with fail
  go_at_call 8
  refine HBU.out.mono ?_
  rintro e w1 ⟨v0, u, ds, rfl, hvV, hds, hk⟩
  have HV : Hid (VOk (18 + 0) (vws ds)) := Lib.hid (by rw [hds]; exact (foldV_ok ml).mono HML.out)
  obtain ⟨Au, cu, rfl, -⟩ := id (show DsS w1 u ds from hk.is List.mem_cons_self).1
  have HK2 : Hid (Kv C w (w1.alloc (.cells #[.slice Au ds.length cu] 28)) [v0] (Th.box w1.heap.size (.cells #[.slice Au ds.length cu] 28 (0, 0)) :: Th.vw (.slice Au ds.length cu) ds :: [])) := Lib.hid ((show Kv C w w1 [v0] (Th.vw (.slice Au ds.length cu) ds :: []) from hk).add (t := Th.box w1.heap.size (.cells #[.slice Au ds.length cu] 28 (0, 0))) (below_new w1 _) (heap_alloc_new w1 _) (fun k hk => .inl (Nat.le_of_eq hk.symm)))
  have HAP0 : Hid (∀ k, footD (.slice Au ds.length cu) ds k → k ≠ w1.heap.size) := Lib.hid (fun k hf e => by
    have := (show DsS w1 _ ds from hk.is List.mem_cons_self).foot hf
    omega)
  have HB10 : Hid (w.heap.size ≤ w1.heap.size) := Lib.hid hk.size
  have HVV0 := Lib.hid hvV
  clear hvV hds hk HBU HML
  go_upto_region 2 with (fail)
  generalize World.alloc _ _ = w2 at HK2 ⊢
  generalize w1.heap.size = B10 at HK2 HAP0 HB10 ⊢
  have HL0 : Hid (∃ (v : VI) (ds : List DV) (A : Option Addr) (c : Nat), v.g = v0.g ∧ v.V = vws ds ∧ VOk (18 + 0) (vws ds) ∧ (∀ k, footD (.slice A ds.length c) ds k → k ≠ B10) ∧ Kv C w w2 [v] (Th.box B10 (.cells #[.slice A ds.length c] 28 (0, 0)) :: Th.vw (.slice A ds.length c) ds :: [])) := Lib.hid ⟨v0, ds, Au, cu, rfl, HVV0.out, HV.out, HAP0.out, HK2.out⟩
  clear HV HK2 HAP0 HVV0
  go_upto_block 0 with (fail)
  go_cut [11] (fun s11 wx => Hid (∃ (v : VI) (ds : List DV) (A : Option Addr) (c : Nat), v.g = v0.g ∧ v.V = vws ds ∧ VOk (100) (vws ds) ∧ (∀ k, footD (.slice A ds.length c) ds k → k ≠ B10) ∧ Kv C w wx [v] (Th.box B10 (.cells #[.slice A ds.length c] 28 (0, 0)) :: Th.vw (.slice A ds.length c) ds :: [])))
  case first =>
    go_wp2_with fail
    go_loopw [11] (fun i wr => ∃ a : Nat, i = .int .i64 (a : Int) ∧ a ≤ 4 ∧ Hid (∃ (v : VI) (ds : List DV) (A : Option Addr) (c : Nat), v.g = v0.g ∧ v.V = vws ds ∧ VOk (18 + a) (vws ds) ∧ (∀ k, footD (.slice A ds.length c) ds k → k ≠ B10) ∧ Kv C w wr [v] (Th.box B10 (.cells #[.slice A ds.length c] 28 (0, 0)) :: Th.vw (.slice A ds.length c) ds :: []))) (fun i _ => 4 - (intOf i).toNat)
    case atStart => exact ⟨0, rfl, Nat.zero_le _, HL0⟩
    case round =>
      clear HL0
      obtain ⟨a, rfl, ha4, HL⟩ := hrel
      obtain ⟨v, ds, A, c, hg, hV, hok, hap, hk⟩ := HL.out
      have HG := Lib.hid hg
      have HVV := Lib.hid hV
      have HOK := Lib.hid hok
      have HAP := Lib.hid hap
      have HK := Lib.hid hk
      clear HL hg hV hok hap hk
      have HEX : Hid (∃ (v : VI) (ds : List DV) (A : Option Addr) (c : Nat), v.g = v0.g ∧ v.V = vws ds ∧ VOk (100) (vws ds) ∧ (∀ k, footD (.slice A ds.length c) ds k → k ≠ B10) ∧ Kv C w wr [v] (Th.box B10 (.cells #[.slice A ds.length c] 28 (0, 0)) :: Th.vw (.slice A ds.length c) ds :: [])) := Lib.hid ⟨v, ds, A, c, HG.out, HVV.out, HOK.out.mono (by omega), HAP.out, HK.out⟩
      by_cases h1 : a < xs.length
      · have q1 : decide ((a : Int) < (xs.length : Int)) = true := decide_eq_true (by omega)
        by_cases h2 : a < ks.length
        · have q2 : decide ((a : Int) < (ks.length : Int)) = true := decide_eq_true (by omega)
          by_cases h3 : a < 4
          · have q3 : decide ((a : Int) < 4) = true := decide_eq_true (by omega)
            clear HEX
            have hx : xs[a]? = some xs[a] := List.getElem?_eq_getElem h1
            have hko : ks[a]? = some ks[a] := List.getElem?_eq_getElem h2
            generalize xs[a] = raw at hx
            generalize ks[a] = o at hko
            have hob := HIB.out o (List.mem_of_getElem? hko)
            obtain ⟨b1, f1, hA1, hb1, hr1⟩ := ev_at HO.out hx
            have hix1 := index_any (P := Tryz.prog) knV (by decide) (b := b1) (off := f1) (cap := co) h1
            simp only [LV] at hix1
            rw [← hA1] at hix1
            obtain ⟨b2, f2, hA2, hb2, hr2⟩ := HI.out.at hko
            have hix2 := index_any (P := Tryz.prog) knI (by decide) (b := b2) (off := f2) (cap := ci) h2
            simp only [LI] at hix2
            rw [Nat.mul_one, ← hA2] at hix2
            have HKS : Hid (∀ W, Below w.heap.size w W → W.cell? ⟨b2, f2 + a, none⟩ = some (.int .i64 o)) := Lib.hid (fun W hw => (hw.cell (p := ⟨b2, f2 + a, none⟩) hb2).trans (by have := hr2 0 _ rfl; simpa only [LI, Nat.mul_one, Nat.add_zero] using this))
            have HXS : Hid (∀ W, Below w.heap.size w W → W.rangeAt b1 (f1 + a * 6) raw.cells) := Lib.hid (fun W hw j u hu => (hw.cell (p := ⟨b1, f1 + a * 6 + j, none⟩) hb1).trans (hr1 j u hu))
            have HRAW := Lib.hid (HO.out.2 raw (List.mem_of_getElem? hx))
            have HRO0 := Lib.hid (fun W => roomOf_any (a : Int) W (by omega) (by omega))
            have HRZ : Hid ((roomS (a : Int)).size ≤ 40) := Lib.hid (named_size (roomS_room (a : Int)))
            generalize roomS (a : Int) = rm at HRO0 HRZ
            have HRO := Lib.hid (fun W tt (hk : Kv C w W [v] (tt)) => (show Calls Tryz.prog 11 #[.int .i64 (a : Int)] W fun e w' => e = .returned (.string rm) ∧ Kv C w w' [v] (tt) from (HRO0.out W).mono (fun e w' he => ⟨he.1, hk.later he.2⟩)))
            have HOF : Hid (∀ W tt, Kv C w W [v] (tt) → Th.vw (.slice A ds.length c) ds ∈ tt → Calls Tryz.prog 10 #[.agg #[.slice A ds.length c], .string rm] W fun e w' => ∃ d : DV, e = .returned (.agg #[.string rm, .slice d.A d.xs.length d.cap]) ∧ evs d.xs = ofL (vws ds) rm ∧ (∀ k, footE (.slice d.A d.xs.length d.cap) d.xs k → footD (.slice A ds.length c) ds k) ∧ Kv C w w' [v] (Th.evs (.slice d.A d.xs.length d.cap) d.xs :: tt)) := Lib.hid (fun W tt hk hm => by
              refine (refOf_any (.slice A ds.length c) ds rm W (hk.is hm) (by have := (vws_len HOK.out).1; omega)).mono ?_
              rintro e w' ⟨d, rfl, hes, hdr, hdm, hdo, hb⟩
              exact ⟨d, by rw [← hdr]; rfl, hdo, fun k hk' => of_foot hdm hk', hk.add (t := Th.evs (.slice d.A d.xs.length d.cap) d.xs) hb hes (fun k hk' => .inr ⟨_, hm, of_foot hdm hk'⟩)⟩)
            have HOD : Hid (∀ W tt (d : DV), Kv C w W [v] (tt) → Th.evs (.slice d.A d.xs.length d.cap) d.xs ∈ tt → evs d.xs = ofL (vws ds) rm → Calls Tryz.prog 9 #[.agg #[.string rm, .slice d.A d.xs.length d.cap], .int .i64 (a : Int), .int .i64 o, .agg #[.string raw.ev.id, .string raw.ev.room, .slice raw.A raw.ev.parents.length raw.cap, .string raw.ev.thread, .string raw.ev.user, .int .i64 raw.ev.does]] W fun e w' => ∃ y : EvV, e = .returned (.agg #[.string y.ev.id, .string y.ev.room, .slice y.A y.ev.parents.length y.cap, .string y.ev.thread, .string y.ev.user, .int .i64 y.ev.does]) ∧ y.ev.room.size ≤ 40 ∧ (∀ k, footV y k → footE (.slice d.A d.xs.length d.cap) d.xs k ∨ W.heap.size ≤ k) ∧ Kv C w w' [v] (Th.ev y :: tt)) := Lib.hid (fun W tt d hk hm he => by
              have hof := HOK.out.of_ rm
              rw [← he, evs_len] at hof
              refine (refOdd_any rm (.slice d.A d.xs.length d.cap) d.xs (a : Int) o raw W (hk.is hm) (by omega) (Nat.le_trans HRZ.out (by decide)) (by omega) (by omega) hob.1 hob.2 (HRAW.out.below hk.below)).mono ?_
              rintro e w' ⟨y, rfl, hy, hye, hb, hft⟩
              have hf : ∀ k, footV y k → footE (.slice d.A d.xs.length d.cap) d.xs k ∨ W.heap.size ≤ k := fun k hk' => by
                rcases hft k hk'.2 with ⟨z, hz, h5, h6⟩ | h5
                · exact .inl (.inr ⟨z, hz, by rw [h6]; exact hk'.1, h5⟩)
                · exact .inr h5
              exact ⟨y, rfl, by rw [hye]; exact odd_room hof.1 HRZ.out _ _ _, hf, hk.add (t := Th.ev y) hb hy (fun k hk' => (hf k hk').elim (fun hh => .inr ⟨_, hm, hh⟩) .inl)⟩)
            clear hx hko hA1 hA2 hr1 hr2 HRO0
            go_upto_region 7 with (fail)
            go_cut [12] from 42 to 55 (fun s12 wx => ∃ B12, s12 = .pointer (some ⟨B12, 0, none⟩) ∧ Hid (∃ y : EvV, y.ev.room.size ≤ 40 ∧ (∀ k, footV y k → k ≠ B10) ∧ w.heap.size ≤ B12 ∧ (∀ t ∈ Th.ev y :: Th.box B10 (.cells #[.slice A ds.length c] 28 (0, 0)) :: Th.vw (.slice A ds.length c) ds :: [], ¬ t.P B12) ∧ Kv C w wx [v] (Th.box B12 (.cells #[.string y.ev.id, .string y.ev.room, .slice y.A y.ev.parents.length y.cap, .string y.ev.thread, .string y.ev.user, .int .i64 y.ev.does] 33 (0, 0)) :: Th.ev y :: Th.box B10 (.cells #[.slice A ds.length c] 28 (0, 0)) :: Th.vw (.slice A ds.length c) ds :: [])))
            case first =>
              refine wp_region_held_drew (S := fun W => Kv C w W [v] (Th.box B10 (.cells #[.slice A ds.length c] 28 (0, 0)) :: Th.vw (.slice A ds.length c) ds :: [])) (by kernel_rfl) (HK.out.later (below_drew wr)) (fun hHeld => ?_)
              clear HK
              generalize wr.drew = wd at hHeld ⊢
              refine wpAnyH_take (i := 0) (oi := ⟨some 42, _, _, _, _, _⟩) (v := ?vk0) rfl (by kernel_rfl) (by kernel_rfl) (by kernel_rfl) (fun _ _ _ h => h) (Or.inl ⟨by rfl, ?yk0⟩) hHeld ?rk0
              case yk0 =>
                intro wx hSx
                have z : wx.cell? ⟨B10, 0, none⟩ = some (.slice A ds.length c) := cell_at (hSx.is List.mem_cons_self) 0
                go_simp
                try with_reducible rfl
              try simp only [Act.put, List.setIfInBounds_toArray, List.set_cons_zero, List.set_cons_succ]
              refine wpAnyH_take (i := 1) (oi := ⟨some 43, _, _, _, _, _⟩) (v := ?vk1) rfl (by kernel_rfl) (by kernel_rfl) (by kernel_rfl) (fun _ _ _ h => h) (Or.inl ⟨by rfl, ?yk1⟩) hHeld ?rk1
              case yk1 =>
                intro wx hSx
                go_simp
                try with_reducible rfl
              try simp only [Act.put, List.setIfInBounds_toArray, List.set_cons_zero, List.set_cons_succ]
              refine wpAnyH_take (i := 4) (oi := ⟨some 46, _, _, _, _, _⟩) (v := ?vk4) rfl (by kernel_rfl) (by kernel_rfl) (by kernel_rfl) (fun _ _ _ h => h) (Or.inl ⟨by rfl, ?yk4⟩) hHeld ?rk4
              case yk4 =>
                intro wx hSx
                go_simp
                try with_reducible rfl
              try simp only [Act.put, List.setIfInBounds_toArray, List.set_cons_zero, List.set_cons_succ]
              refine wpAnyH_take (i := 5) (oi := ⟨some 47, _, _, _, _, _⟩) (v := ?vk5) rfl (by kernel_rfl) (by kernel_rfl) (by kernel_rfl) (fun _ _ _ h => h) (Or.inl ⟨by rfl, ?yk5⟩) hHeld ?rk5
              case yk5 =>
                intro wx hSx
                go_simp
                try with_reducible rfl
              try simp only [Act.put, List.setIfInBounds_toArray, List.set_cons_zero, List.set_cons_succ]
              refine wpAnyH_take (i := 6) (oi := ⟨some 48, _, _, _, _, _⟩) (v := ?vk6) rfl (by kernel_rfl) (by kernel_rfl) (by kernel_rfl) (fun _ _ _ h => h) (Or.inl ⟨by rfl, ?yk6⟩) hHeld ?rk6
              case yk6 =>
                intro wx hSx
                go_simp
                try with_reducible rfl
              try simp only [Act.put, List.setIfInBounds_toArray, List.set_cons_zero, List.set_cons_succ]
              refine wpAnyH_take (i := 7) (oi := ⟨some 49, _, _, _, _, _⟩) (v := ?vk7) rfl (by kernel_rfl) (by kernel_rfl) (by kernel_rfl) (fun _ _ _ h => h) (Or.inl ⟨by rfl, ?yk7⟩) hHeld ?rk7
              case yk7 =>
                intro wx hSx
                go_simp
                try with_reducible rfl
              try simp only [Act.put, List.setIfInBounds_toArray, List.set_cons_zero, List.set_cons_succ]
              refine wpAnyH_take (i := 8) (oi := ⟨some 50, _, _, _, _, _⟩) (v := ?vk8) rfl (by kernel_rfl) (by kernel_rfl) (by kernel_rfl) (fun _ _ _ h => h) (Or.inl ⟨by rfl, ?yk8⟩) hHeld ?rk8
              case yk8 =>
                intro wx hSx
                have z := HKS.out wx hSx.below
                go_simp
                try with_reducible rfl
              try simp only [Act.put, List.setIfInBounds_toArray, List.set_cons_zero, List.set_cons_succ]
              refine wpAnyH_take (i := 9) (oi := ⟨some 51, _, _, _, _, _⟩) (v := ?vk9) rfl (by kernel_rfl) (by kernel_rfl) (by kernel_rfl) (fun _ _ _ h => h) (Or.inl ⟨by rfl, ?yk9⟩) hHeld ?rk9
              case yk9 =>
                intro wx hSx
                go_simp
                try with_reducible rfl
              try simp only [Act.put, List.setIfInBounds_toArray, List.set_cons_zero, List.set_cons_succ]
              refine wpAnyH_take (i := 10) (oi := ⟨some 52, _, _, _, _, _⟩) (v := ?vk10) rfl (by kernel_rfl) (by kernel_rfl) (by kernel_rfl) (fun _ _ _ h => h) (Or.inl ⟨by rfl, ?yk10⟩) hHeld ?rk10
              case yk10 =>
                intro wx hSx
                go_simp
                try with_reducible rfl
              try simp only [Act.put, List.setIfInBounds_toArray, List.set_cons_zero, List.set_cons_succ]
              refine wpAnyH_take (i := 11) (oi := ⟨some 53, _, _, _, _, _⟩) (v := ?vk11) rfl (by kernel_rfl) (by kernel_rfl) (by kernel_rfl) (fun _ _ _ h => h) (Or.inl ⟨by rfl, ?yk11⟩) hHeld ?rk11
              case yk11 =>
                intro wx hSx
                go_simp
                try with_reducible rfl
              try simp only [Act.put, List.setIfInBounds_toArray, List.set_cons_zero, List.set_cons_succ]
              refine wpAnyH_take (i := 12) (oi := ⟨some 54, _, _, _, _, _⟩) (v := ?vk12) rfl (by kernel_rfl) (by kernel_rfl) (by kernel_rfl) (fun _ _ _ h => h) (Or.inl ⟨by rfl, ?yk12⟩) hHeld ?rk12
              case yk12 =>
                intro wx hSx
                obtain ⟨e0, e1, e2, e3, e4, e5⟩ := ev_cells (HXS.out wx hSx.below)
                unfold EvV.pv at e2
                go_simp
                try with_reducible rfl
              try simp only [Act.put, List.setIfInBounds_toArray, List.set_cons_zero, List.set_cons_succ]
              refine wpAnyH_ready (rs := [2, 14]) (by kernel_rfl) (by simp) ?_
              refine AllReadyH.cons (o := ⟨some 44, _, _, _, _, _⟩) rfl (fun K hK => ?wz2) (AllReadyH.cons (o := ⟨some 12, _, _, _, _, _⟩) rfl (fun K hK => ?wz14) AllReadyH.nil)
              case wz2 =>
                have HQc := Lib.hid (HRO.out wd _ hHeld)
                go_simp
                refine HQc.out.mono ?_
                rintro e Wz2 ⟨rfl, hk⟩
                refine hK.out _ _ hk (fun hHeld => ?_)
                clear hK K HQc hk
                try simp only [Act.put, List.setIfInBounds_toArray, List.set_cons_zero, List.set_cons_succ]
                refine wpAnyH_ready (rs := [3, 14]) (by kernel_rfl) (by simp) ?_
                refine AllReadyH.cons (o := ⟨some 45, _, _, _, _, _⟩) rfl (fun K hK => ?wza3) (AllReadyH.cons (o := ⟨some 12, _, _, _, _, _⟩) rfl (fun K hK => ?wza14) AllReadyH.nil)
                case wza3 =>
                  have HQc := Lib.hid (HOF.out Wz2 _ hHeld (List.mem_cons_of_mem _ List.mem_cons_self))
                  go_simp
                  refine HQc.out.mono ?_
                  rintro e Wza3 ⟨d, rfl, hev, hfd, hk⟩
                  have HEV := Lib.hid hev
                  have HFD := Lib.hid hfd
                  clear hev hfd
                  refine hK.out _ _ (hk.less (fun _ ht => (List.mem_cons_of_mem _ ht))) (fun hHeld => ?_)
                  clear hK K hHeld HQc
                  try simp only [Act.put, List.setIfInBounds_toArray, List.set_cons_zero, List.set_cons_succ]
                  refine anyH_narrow (S' := fun W => Kv C w W [v] (Th.evs (.slice d.A d.xs.length d.cap) d.xs :: Th.box B10 (.cells #[.slice A ds.length c] 28 (0, 0)) :: Th.vw (.slice A ds.length c) ds :: [])) (fun _ h => h.less (fun _ ht => List.mem_cons_of_mem _ ht)) _ _ _ _ ?_
                  have hHeld : Kv C w Wza3 [v] (Th.evs (.slice d.A d.xs.length d.cap) d.xs :: Th.box B10 (.cells #[.slice A ds.length c] 28 (0, 0)) :: Th.vw (.slice A ds.length c) ds :: []) := hk
                  clear hk
                  refine wpAnyH_ready (rs := [13, 14]) (by kernel_rfl) (by simp) ?_
                  refine AllReadyH.cons (o := ⟨some 55, _, _, _, _, _⟩) rfl (fun K hK => ?wzab13) (AllReadyH.cons (o := ⟨some 12, _, _, _, _, _⟩) rfl (fun K hK => ?wzab14) AllReadyH.nil)
                  case wzab13 =>
                    have HQc := Lib.hid (HOD.out Wza3 _ d hHeld List.mem_cons_self HEV.out)
                    go_simp
                    refine HQc.out.mono ?_
                    rintro e Wzab13 ⟨y, rfl, hyr, hfy, hk⟩
                    have HYR := Lib.hid hyr
                    have HYB : Hid (∀ k, footV y k → k ≠ B10) := Lib.hid (fun k hk' e => by
                      rcases hfy k hk' with hh | hh
                      · exact HAP.out k (HFD.out k hh) e
                      · have := smem_lt (show Wza3.heap[B10]? = _ from hHeld.is (List.mem_cons_of_mem _ List.mem_cons_self))
                        omega)
                    clear hyr hfy
                    refine hK.out _ _ (hk.less (fun _ ht => (List.mem_cons_of_mem _ ht))) (fun hHeld => ?_)
                    clear hK K hHeld HQc
                    try simp only [Act.put, List.setIfInBounds_toArray, List.set_cons_zero, List.set_cons_succ]
                    refine anyH_narrow (S' := fun W => Kv C w W [v] (Th.ev y :: Th.evs (.slice d.A d.xs.length d.cap) d.xs :: Th.box B10 (.cells #[.slice A ds.length c] 28 (0, 0)) :: Th.vw (.slice A ds.length c) ds :: [])) (fun _ h => h.less (fun _ ht => List.mem_cons_of_mem _ ht)) _ _ _ _ ?_
                    have hHeld : Kv C w Wzab13 [v] (Th.ev y :: Th.evs (.slice d.A d.xs.length d.cap) d.xs :: Th.box B10 (.cells #[.slice A ds.length c] 28 (0, 0)) :: Th.vw (.slice A ds.length c) ds :: []) := hk
                    clear hk
                    refine wpAnyH_ready (rs := [14]) (by kernel_rfl) (by simp) ?_
                    refine AllReadyH.cons (o := ⟨some 12, _, _, _, _, _⟩) rfl (fun K hK => ?wzabb14) AllReadyH.nil
                    case wzabb14 =>
                      have HLOW : Hid (w.heap.size ≤ Wzab13.heap.size) := Lib.hid hHeld.size
                      have HFR : Hid (∀ t ∈ Th.ev y :: Th.evs (.slice d.A d.xs.length d.cap) d.xs :: Th.box B10 (.cells #[.slice A ds.length c] 28 (0, 0)) :: Th.vw (.slice A ds.length c) ds :: [], ¬ t.P Wzab13.heap.size) := Lib.hid (fun t ht hp => by
                        have := t.lt _ _ (hHeld.is ht) hp
                        omega)
                      have hk5 := hHeld.add (t := Th.box Wzab13.heap.size (.cells #[.string ⟨#[]⟩, .string ⟨#[]⟩, .slice none 0 0, .string ⟨#[]⟩, .string ⟨#[]⟩, .int .i64 0] 33 (0, 0))) (below_new Wzab13 _) (heap_alloc_new Wzab13 _) (fun k hk => .inl (Nat.le_of_eq hk.symm))
                      clear hHeld
                      go_simp
                      refine hK.out _ _ (hk5.less (fun _ ht => List.mem_cons_of_mem _ ht)) (fun hHeld => ?_)
                      clear hK K
                      generalize Wzab13.alloc _ = Wzabb14 at hk5 hHeld ⊢
                      generalize Wzab13.heap.size = B12 at hk5 HLOW HFR ⊢
                      try simp only [Act.put, List.setIfInBounds_toArray, List.set_cons_zero, List.set_cons_succ]
                      have HBB := Lib.hid (hk5.is List.mem_cons_self)
                      have r0 : Wzabb14.cell? ⟨B12, 0, none⟩ = some (.string ⟨#[]⟩) := cell_at HBB.out 0
                      have r1 : Wzabb14.cell? ⟨B12, 1, none⟩ = some (.string ⟨#[]⟩) := cell_at HBB.out 1
                      have r2 : Wzabb14.cell? ⟨B12, 2, none⟩ = some (.slice none 0 0) := cell_at HBB.out 2
                      have r3 : Wzabb14.cell? ⟨B12, 3, none⟩ = some (.string ⟨#[]⟩) := cell_at HBB.out 3
                      have r4 : Wzabb14.cell? ⟨B12, 4, none⟩ = some (.string ⟨#[]⟩) := cell_at HBB.out 4
                      have r5 : Wzabb14.cell? ⟨B12, 5, none⟩ = some (.int .i64 0) := cell_at HBB.out 5
                      have z0 : Wzabb14.frozen? ⟨B12, 0, none⟩ = false := free_at HBB.out 0
                      have z1 : Wzabb14.frozen? ⟨B12, 1, none⟩ = false := free_at HBB.out 1
                      have z2 : Wzabb14.frozen? ⟨B12, 2, none⟩ = false := free_at HBB.out 2
                      have z3 : Wzabb14.frozen? ⟨B12, 3, none⟩ = false := free_at HBB.out 3
                      have z4 : Wzabb14.frozen? ⟨B12, 4, none⟩ = false := free_at HBB.out 4
                      have z5 : Wzabb14.frozen? ⟨B12, 5, none⟩ = false := free_at HBB.out 5
                      have HAN := Lib.hid (six_at HBB.out rfl (.string y.ev.id) (.string y.ev.room) (.slice y.A y.ev.parents.length y.cap) (.string y.ev.thread) (.string y.ev.user) (.int .i64 y.ev.does))
                      have HKP := Lib.hid (hk5.put (t' := Th.box B12 (.cells #[.string y.ev.id, .string y.ev.room, .slice y.A y.ev.parents.length y.cap, .string y.ev.thread, .string y.ev.user, .int .i64 y.ev.does] 33 (0, 0))) (sm_grown Wzabb14 B12 0 [.string y.ev.id, .string y.ev.room, .slice y.A y.ev.parents.length y.cap, .string y.ev.thread, .string y.ev.user, .int .i64 y.ev.does]) (fun k hk => by
                        injection hk with hk
                        subst hk
                        exact ⟨rfl, HLOW.out, HFR.out⟩) HAN.out (fun k hk => .inl hk))
                      simp only [World.setCells] at HKP
                      clear hk5 HBB HAN
                      refine wpAnyH_ready (rs := [15]) (by kernel_rfl) (by simp) ?_
                      refine AllReadyH.cons (o := ⟨none, _, _, _, _, _⟩) rfl (fun K hK => ?_) AllReadyH.nil
                      clear hHeld
                      go_simp
                      clear r0 r1 r2 r3 r4 r5 z0 z1 z2 z3 z4 z5
                      generalize World.setCell _ _ _ = w9 at HKP ⊢
                      refine hK.out _ _ (HKP.out.less (fun _ ht => List.mem_cons_of_mem _ ht)) (fun hHeld => ?_)
                      clear hK K
                      try simp only [Act.put, List.setIfInBounds_toArray, List.set_cons_zero, List.set_cons_succ]
                      refine wpAnyH_done (by kernel_rfl) ?_ _
                      go_wp2_with fail
                      go_meet
                      exact ⟨B12, rfl, Lib.hid ⟨y, HYR.out, HYB.out, HLOW.out, (fun t ht => HFR.out t (by rcases List.mem_cons.1 ht with rfl | ht; exact List.mem_cons_self; exact List.mem_cons_of_mem _ (List.mem_cons_of_mem _ ht))), HKP.out.less (fun t ht => by
                        rcases List.mem_cons.1 ht with rfl | ht
                        · exact List.mem_cons_self
                        rcases List.mem_cons.1 ht with rfl | ht
                        · exact List.mem_cons_of_mem _ List.mem_cons_self
                        exact List.mem_cons_of_mem _ (List.mem_cons_of_mem _ (List.mem_cons_of_mem _ ht)))⟩⟩
                  case wzab14 =>
                    have HLOW : Hid (w.heap.size ≤ Wza3.heap.size) := Lib.hid hHeld.size
                    have HFR : Hid (∀ t ∈ Th.evs (.slice d.A d.xs.length d.cap) d.xs :: Th.box B10 (.cells #[.slice A ds.length c] 28 (0, 0)) :: Th.vw (.slice A ds.length c) ds :: [], ¬ t.P Wza3.heap.size) := Lib.hid (fun t ht hp => by
                      have := t.lt _ _ (hHeld.is ht) hp
                      omega)
                    have hk5 := hHeld.add (t := Th.box Wza3.heap.size (.cells #[.string ⟨#[]⟩, .string ⟨#[]⟩, .slice none 0 0, .string ⟨#[]⟩, .string ⟨#[]⟩, .int .i64 0] 33 (0, 0))) (below_new Wza3 _) (heap_alloc_new Wza3 _) (fun k hk => .inl (Nat.le_of_eq hk.symm))
                    clear hHeld
                    go_simp
                    refine hK.out _ _ (hk5.less (fun _ ht => List.mem_cons_of_mem _ ht)) (fun hHeld => ?_)
                    clear hK K
                    generalize Wza3.alloc _ = Wzab14 at hk5 hHeld ⊢
                    generalize Wza3.heap.size = B12 at hk5 HLOW HFR ⊢
                    try simp only [Act.put, List.setIfInBounds_toArray, List.set_cons_zero, List.set_cons_succ]
                    refine wpAnyH_ready (rs := [13]) (by kernel_rfl) (by simp) ?_
                    refine AllReadyH.cons (o := ⟨some 55, _, _, _, _, _⟩) rfl (fun K hK => ?wzabn13) AllReadyH.nil
                    case wzabn13 =>
                      have HQc := Lib.hid (HOD.out Wzab14 _ d hk5 (List.mem_cons_of_mem _ List.mem_cons_self) HEV.out)
                      go_simp
                      refine HQc.out.mono ?_
                      rintro e Wzabn13 ⟨y, rfl, hyr, hfy, hk⟩
                      have HYR := Lib.hid hyr
                      have HYB : Hid (∀ k, footV y k → k ≠ B10) := Lib.hid (fun k hk' e => by
                        rcases hfy k hk' with hh | hh
                        · exact HAP.out k (HFD.out k hh) e
                        · have := smem_lt (show Wzab14.heap[B10]? = _ from hHeld.is (List.mem_cons_of_mem _ List.mem_cons_self))
                          omega)
                      replace HFR : Hid (∀ t ∈ Th.ev y :: Th.evs (.slice d.A d.xs.length d.cap) d.xs :: Th.box B10 (.cells #[.slice A ds.length c] 28 (0, 0)) :: Th.vw (.slice A ds.length c) ds :: [], ¬ t.P B12) := Lib.hid (fun t ht hp => by
                        rcases List.mem_cons.1 ht with rfl | ht
                        · rcases hfy _ hp with hh | hh
                          · exact HFR.out (Th.evs (.slice d.A d.xs.length d.cap) d.xs) List.mem_cons_self hh
                          · have := smem_lt (show Wzab14.heap[B12]? = _ from hk5.is List.mem_cons_self)
                            omega
                        · exact HFR.out t ht hp)
                      clear hyr hfy
                      refine hK.out _ _ (hk.less (fun _ ht => (List.mem_cons_of_mem _ (List.mem_cons_of_mem _ ht)))) (fun hHeld => ?_)
                      clear hK K hHeld HQc
                      try simp only [Act.put, List.setIfInBounds_toArray, List.set_cons_zero, List.set_cons_succ]
                      refine anyH_narrow (S' := fun W => Kv C w W [v] (Th.ev y :: Th.evs (.slice d.A d.xs.length d.cap) d.xs :: Th.box B10 (.cells #[.slice A ds.length c] 28 (0, 0)) :: Th.vw (.slice A ds.length c) ds :: [])) (fun _ h => h.less (fun _ ht => List.mem_cons_of_mem _ ht)) _ _ _ _ ?_
                      have hHeld : Kv C w Wzabn13 [v] (Th.ev y :: Th.evs (.slice d.A d.xs.length d.cap) d.xs :: Th.box B10 (.cells #[.slice A ds.length c] 28 (0, 0)) :: Th.vw (.slice A ds.length c) ds :: []) := (hk.swap.less (fun _ ht => List.mem_cons_of_mem _ ht))
                      clear hk5
                      have hk5 := hk.swap
                      clear hk
                      have HBB := Lib.hid (hk5.is List.mem_cons_self)
                      have r0 : Wzabn13.cell? ⟨B12, 0, none⟩ = some (.string ⟨#[]⟩) := cell_at HBB.out 0
                      have r1 : Wzabn13.cell? ⟨B12, 1, none⟩ = some (.string ⟨#[]⟩) := cell_at HBB.out 1
                      have r2 : Wzabn13.cell? ⟨B12, 2, none⟩ = some (.slice none 0 0) := cell_at HBB.out 2
                      have r3 : Wzabn13.cell? ⟨B12, 3, none⟩ = some (.string ⟨#[]⟩) := cell_at HBB.out 3
                      have r4 : Wzabn13.cell? ⟨B12, 4, none⟩ = some (.string ⟨#[]⟩) := cell_at HBB.out 4
                      have r5 : Wzabn13.cell? ⟨B12, 5, none⟩ = some (.int .i64 0) := cell_at HBB.out 5
                      have z0 : Wzabn13.frozen? ⟨B12, 0, none⟩ = false := free_at HBB.out 0
                      have z1 : Wzabn13.frozen? ⟨B12, 1, none⟩ = false := free_at HBB.out 1
                      have z2 : Wzabn13.frozen? ⟨B12, 2, none⟩ = false := free_at HBB.out 2
                      have z3 : Wzabn13.frozen? ⟨B12, 3, none⟩ = false := free_at HBB.out 3
                      have z4 : Wzabn13.frozen? ⟨B12, 4, none⟩ = false := free_at HBB.out 4
                      have z5 : Wzabn13.frozen? ⟨B12, 5, none⟩ = false := free_at HBB.out 5
                      have HAN := Lib.hid (six_at HBB.out rfl (.string y.ev.id) (.string y.ev.room) (.slice y.A y.ev.parents.length y.cap) (.string y.ev.thread) (.string y.ev.user) (.int .i64 y.ev.does))
                      have HKP := Lib.hid (hk5.put (t' := Th.box B12 (.cells #[.string y.ev.id, .string y.ev.room, .slice y.A y.ev.parents.length y.cap, .string y.ev.thread, .string y.ev.user, .int .i64 y.ev.does] 33 (0, 0))) (sm_grown Wzabn13 B12 0 [.string y.ev.id, .string y.ev.room, .slice y.A y.ev.parents.length y.cap, .string y.ev.thread, .string y.ev.user, .int .i64 y.ev.does]) (fun k hk => by
                        injection hk with hk
                        subst hk
                        exact ⟨rfl, HLOW.out, HFR.out⟩) HAN.out (fun k hk => .inl hk))
                      simp only [World.setCells] at HKP
                      clear hk5 HBB HAN
                      refine wpAnyH_ready (rs := [15]) (by kernel_rfl) (by simp) ?_
                      refine AllReadyH.cons (o := ⟨none, _, _, _, _, _⟩) rfl (fun K hK => ?_) AllReadyH.nil
                      clear hHeld
                      go_simp
                      clear r0 r1 r2 r3 r4 r5 z0 z1 z2 z3 z4 z5
                      generalize World.setCell _ _ _ = w9 at HKP ⊢
                      refine hK.out _ _ (HKP.out.less (fun _ ht => List.mem_cons_of_mem _ ht)) (fun hHeld => ?_)
                      clear hK K
                      try simp only [Act.put, List.setIfInBounds_toArray, List.set_cons_zero, List.set_cons_succ]
                      refine wpAnyH_done (by kernel_rfl) ?_ _
                      go_wp2_with fail
                      go_meet
                      exact ⟨B12, rfl, Lib.hid ⟨y, HYR.out, HYB.out, HLOW.out, (fun t ht => HFR.out t (by rcases List.mem_cons.1 ht with rfl | ht; exact List.mem_cons_self; exact List.mem_cons_of_mem _ (List.mem_cons_of_mem _ ht))), HKP.out.less (fun t ht => by
                        rcases List.mem_cons.1 ht with rfl | ht
                        · exact List.mem_cons_self
                        rcases List.mem_cons.1 ht with rfl | ht
                        · exact List.mem_cons_of_mem _ List.mem_cons_self
                        exact List.mem_cons_of_mem _ (List.mem_cons_of_mem _ (List.mem_cons_of_mem _ ht)))⟩⟩
                case wza14 =>
                  have HLOW : Hid (w.heap.size ≤ Wz2.heap.size) := Lib.hid hHeld.size
                  have HFR : Hid (∀ t ∈ Th.box B10 (.cells #[.slice A ds.length c] 28 (0, 0)) :: Th.vw (.slice A ds.length c) ds :: [], ¬ t.P Wz2.heap.size) := Lib.hid (fun t ht hp => by
                    have := t.lt _ _ (hHeld.is ht) hp
                    omega)
                  have hk5 := hHeld.add (t := Th.box Wz2.heap.size (.cells #[.string ⟨#[]⟩, .string ⟨#[]⟩, .slice none 0 0, .string ⟨#[]⟩, .string ⟨#[]⟩, .int .i64 0] 33 (0, 0))) (below_new Wz2 _) (heap_alloc_new Wz2 _) (fun k hk => .inl (Nat.le_of_eq hk.symm))
                  clear hHeld
                  go_simp
                  refine hK.out _ _ (hk5.less (fun _ ht => List.mem_cons_of_mem _ ht)) (fun hHeld => ?_)
                  clear hK K
                  generalize Wz2.alloc _ = Wza14 at hk5 hHeld ⊢
                  generalize Wz2.heap.size = B12 at hk5 HLOW HFR ⊢
                  try simp only [Act.put, List.setIfInBounds_toArray, List.set_cons_zero, List.set_cons_succ]
                  refine wpAnyH_ready (rs := [3]) (by kernel_rfl) (by simp) ?_
                  refine AllReadyH.cons (o := ⟨some 45, _, _, _, _, _⟩) rfl (fun K hK => ?wzan3) AllReadyH.nil
                  case wzan3 =>
                    have HQc := Lib.hid (HOF.out Wza14 _ hk5 (List.mem_cons_of_mem _ (List.mem_cons_of_mem _ List.mem_cons_self)))
                    go_simp
                    refine HQc.out.mono ?_
                    rintro e Wzan3 ⟨d, rfl, hev, hfd, hk⟩
                    have HEV := Lib.hid hev
                    have HFD := Lib.hid hfd
                    replace HFR : Hid (∀ t ∈ Th.evs (.slice d.A d.xs.length d.cap) d.xs :: Th.box B10 (.cells #[.slice A ds.length c] 28 (0, 0)) :: Th.vw (.slice A ds.length c) ds :: [], ¬ t.P B12) := Lib.hid (fun t ht hp => by
                      rcases List.mem_cons.1 ht with rfl | ht
                      · exact HFR.out (Th.vw (.slice A ds.length c) ds) (List.mem_cons_of_mem _ List.mem_cons_self) (hfd _ hp)
                      · exact HFR.out t ht hp)
                    clear hev hfd
                    refine hK.out _ _ (hk.less (fun _ ht => (List.mem_cons_of_mem _ (List.mem_cons_of_mem _ ht)))) (fun hHeld => ?_)
                    clear hK K hHeld HQc
                    try simp only [Act.put, List.setIfInBounds_toArray, List.set_cons_zero, List.set_cons_succ]
                    refine anyH_narrow (S' := fun W => Kv C w W [v] (Th.evs (.slice d.A d.xs.length d.cap) d.xs :: Th.box B10 (.cells #[.slice A ds.length c] 28 (0, 0)) :: Th.vw (.slice A ds.length c) ds :: [])) (fun _ h => h.less (fun _ ht => List.mem_cons_of_mem _ ht)) _ _ _ _ ?_
                    have hHeld : Kv C w Wzan3 [v] (Th.evs (.slice d.A d.xs.length d.cap) d.xs :: Th.box B10 (.cells #[.slice A ds.length c] 28 (0, 0)) :: Th.vw (.slice A ds.length c) ds :: []) := (hk.swap.less (fun _ ht => List.mem_cons_of_mem _ ht))
                    clear hk5
                    have hk5 := hk.swap
                    clear hk
                    refine wpAnyH_ready (rs := [13]) (by kernel_rfl) (by simp) ?_
                    refine AllReadyH.cons (o := ⟨some 55, _, _, _, _, _⟩) rfl (fun K hK => ?wzanb13) AllReadyH.nil
                    case wzanb13 =>
                      have HQc := Lib.hid (HOD.out Wzan3 _ d hk5 (List.mem_cons_of_mem _ List.mem_cons_self) HEV.out)
                      go_simp
                      refine HQc.out.mono ?_
                      rintro e Wzanb13 ⟨y, rfl, hyr, hfy, hk⟩
                      have HYR := Lib.hid hyr
                      have HYB : Hid (∀ k, footV y k → k ≠ B10) := Lib.hid (fun k hk' e => by
                        rcases hfy k hk' with hh | hh
                        · exact HAP.out k (HFD.out k hh) e
                        · have := smem_lt (show Wzan3.heap[B10]? = _ from hHeld.is (List.mem_cons_of_mem _ List.mem_cons_self))
                          omega)
                      replace HFR : Hid (∀ t ∈ Th.ev y :: Th.evs (.slice d.A d.xs.length d.cap) d.xs :: Th.box B10 (.cells #[.slice A ds.length c] 28 (0, 0)) :: Th.vw (.slice A ds.length c) ds :: [], ¬ t.P B12) := Lib.hid (fun t ht hp => by
                        rcases List.mem_cons.1 ht with rfl | ht
                        · rcases hfy _ hp with hh | hh
                          · exact HFR.out (Th.evs (.slice d.A d.xs.length d.cap) d.xs) List.mem_cons_self hh
                          · have := smem_lt (show Wzan3.heap[B12]? = _ from hk5.is List.mem_cons_self)
                            omega
                        · exact HFR.out t ht hp)
                      clear hyr hfy
                      refine hK.out _ _ (hk.less (fun _ ht => (List.mem_cons_of_mem _ (List.mem_cons_of_mem _ ht)))) (fun hHeld => ?_)
                      clear hK K hHeld HQc
                      try simp only [Act.put, List.setIfInBounds_toArray, List.set_cons_zero, List.set_cons_succ]
                      refine anyH_narrow (S' := fun W => Kv C w W [v] (Th.ev y :: Th.evs (.slice d.A d.xs.length d.cap) d.xs :: Th.box B10 (.cells #[.slice A ds.length c] 28 (0, 0)) :: Th.vw (.slice A ds.length c) ds :: [])) (fun _ h => h.less (fun _ ht => List.mem_cons_of_mem _ ht)) _ _ _ _ ?_
                      have hHeld : Kv C w Wzanb13 [v] (Th.ev y :: Th.evs (.slice d.A d.xs.length d.cap) d.xs :: Th.box B10 (.cells #[.slice A ds.length c] 28 (0, 0)) :: Th.vw (.slice A ds.length c) ds :: []) := (hk.swap.less (fun _ ht => List.mem_cons_of_mem _ ht))
                      clear hk5
                      have hk5 := hk.swap
                      clear hk
                      have HBB := Lib.hid (hk5.is List.mem_cons_self)
                      have r0 : Wzanb13.cell? ⟨B12, 0, none⟩ = some (.string ⟨#[]⟩) := cell_at HBB.out 0
                      have r1 : Wzanb13.cell? ⟨B12, 1, none⟩ = some (.string ⟨#[]⟩) := cell_at HBB.out 1
                      have r2 : Wzanb13.cell? ⟨B12, 2, none⟩ = some (.slice none 0 0) := cell_at HBB.out 2
                      have r3 : Wzanb13.cell? ⟨B12, 3, none⟩ = some (.string ⟨#[]⟩) := cell_at HBB.out 3
                      have r4 : Wzanb13.cell? ⟨B12, 4, none⟩ = some (.string ⟨#[]⟩) := cell_at HBB.out 4
                      have r5 : Wzanb13.cell? ⟨B12, 5, none⟩ = some (.int .i64 0) := cell_at HBB.out 5
                      have z0 : Wzanb13.frozen? ⟨B12, 0, none⟩ = false := free_at HBB.out 0
                      have z1 : Wzanb13.frozen? ⟨B12, 1, none⟩ = false := free_at HBB.out 1
                      have z2 : Wzanb13.frozen? ⟨B12, 2, none⟩ = false := free_at HBB.out 2
                      have z3 : Wzanb13.frozen? ⟨B12, 3, none⟩ = false := free_at HBB.out 3
                      have z4 : Wzanb13.frozen? ⟨B12, 4, none⟩ = false := free_at HBB.out 4
                      have z5 : Wzanb13.frozen? ⟨B12, 5, none⟩ = false := free_at HBB.out 5
                      have HAN := Lib.hid (six_at HBB.out rfl (.string y.ev.id) (.string y.ev.room) (.slice y.A y.ev.parents.length y.cap) (.string y.ev.thread) (.string y.ev.user) (.int .i64 y.ev.does))
                      have HKP := Lib.hid (hk5.put (t' := Th.box B12 (.cells #[.string y.ev.id, .string y.ev.room, .slice y.A y.ev.parents.length y.cap, .string y.ev.thread, .string y.ev.user, .int .i64 y.ev.does] 33 (0, 0))) (sm_grown Wzanb13 B12 0 [.string y.ev.id, .string y.ev.room, .slice y.A y.ev.parents.length y.cap, .string y.ev.thread, .string y.ev.user, .int .i64 y.ev.does]) (fun k hk => by
                        injection hk with hk
                        subst hk
                        exact ⟨rfl, HLOW.out, HFR.out⟩) HAN.out (fun k hk => .inl hk))
                      simp only [World.setCells] at HKP
                      clear hk5 HBB HAN
                      refine wpAnyH_ready (rs := [15]) (by kernel_rfl) (by simp) ?_
                      refine AllReadyH.cons (o := ⟨none, _, _, _, _, _⟩) rfl (fun K hK => ?_) AllReadyH.nil
                      clear hHeld
                      go_simp
                      clear r0 r1 r2 r3 r4 r5 z0 z1 z2 z3 z4 z5
                      generalize World.setCell _ _ _ = w9 at HKP ⊢
                      refine hK.out _ _ (HKP.out.less (fun _ ht => List.mem_cons_of_mem _ ht)) (fun hHeld => ?_)
                      clear hK K
                      try simp only [Act.put, List.setIfInBounds_toArray, List.set_cons_zero, List.set_cons_succ]
                      refine wpAnyH_done (by kernel_rfl) ?_ _
                      go_wp2_with fail
                      go_meet
                      exact ⟨B12, rfl, Lib.hid ⟨y, HYR.out, HYB.out, HLOW.out, (fun t ht => HFR.out t (by rcases List.mem_cons.1 ht with rfl | ht; exact List.mem_cons_self; exact List.mem_cons_of_mem _ (List.mem_cons_of_mem _ ht))), HKP.out.less (fun t ht => by
                        rcases List.mem_cons.1 ht with rfl | ht
                        · exact List.mem_cons_self
                        rcases List.mem_cons.1 ht with rfl | ht
                        · exact List.mem_cons_of_mem _ List.mem_cons_self
                        exact List.mem_cons_of_mem _ (List.mem_cons_of_mem _ (List.mem_cons_of_mem _ ht)))⟩⟩
              case wz14 =>
                have HLOW : Hid (w.heap.size ≤ wd.heap.size) := Lib.hid hHeld.size
                have HFR : Hid (∀ t ∈ Th.box B10 (.cells #[.slice A ds.length c] 28 (0, 0)) :: Th.vw (.slice A ds.length c) ds :: [], ¬ t.P wd.heap.size) := Lib.hid (fun t ht hp => by
                  have := t.lt _ _ (hHeld.is ht) hp
                  omega)
                have hk5 := hHeld.add (t := Th.box wd.heap.size (.cells #[.string ⟨#[]⟩, .string ⟨#[]⟩, .slice none 0 0, .string ⟨#[]⟩, .string ⟨#[]⟩, .int .i64 0] 33 (0, 0))) (below_new wd _) (heap_alloc_new wd _) (fun k hk => .inl (Nat.le_of_eq hk.symm))
                clear hHeld
                go_simp
                refine hK.out _ _ (hk5.less (fun _ ht => List.mem_cons_of_mem _ ht)) (fun hHeld => ?_)
                clear hK K
                generalize wd.alloc _ = Wz14 at hk5 hHeld ⊢
                generalize wd.heap.size = B12 at hk5 HLOW HFR ⊢
                try simp only [Act.put, List.setIfInBounds_toArray, List.set_cons_zero, List.set_cons_succ]
                refine wpAnyH_ready (rs := [2]) (by kernel_rfl) (by simp) ?_
                refine AllReadyH.cons (o := ⟨some 44, _, _, _, _, _⟩) rfl (fun K hK => ?wzn2) AllReadyH.nil
                case wzn2 =>
                  have HQc := Lib.hid (HRO.out Wz14 _ hk5)
                  go_simp
                  refine HQc.out.mono ?_
                  rintro e Wzn2 ⟨rfl, hk⟩
                  refine hK.out _ _ (hk.less (fun _ ht => List.mem_cons_of_mem _ ht)) (fun hHeld => ?_)
                  clear hK K HQc hk5
                  have hk5 := hk
                  clear hk
                  try simp only [Act.put, List.setIfInBounds_toArray, List.set_cons_zero, List.set_cons_succ]
                  refine wpAnyH_ready (rs := [3]) (by kernel_rfl) (by simp) ?_
                  refine AllReadyH.cons (o := ⟨some 45, _, _, _, _, _⟩) rfl (fun K hK => ?wzna3) AllReadyH.nil
                  case wzna3 =>
                    have HQc := Lib.hid (HOF.out Wzn2 _ hk5 (List.mem_cons_of_mem _ (List.mem_cons_of_mem _ List.mem_cons_self)))
                    go_simp
                    refine HQc.out.mono ?_
                    rintro e Wzna3 ⟨d, rfl, hev, hfd, hk⟩
                    have HEV := Lib.hid hev
                    have HFD := Lib.hid hfd
                    replace HFR : Hid (∀ t ∈ Th.evs (.slice d.A d.xs.length d.cap) d.xs :: Th.box B10 (.cells #[.slice A ds.length c] 28 (0, 0)) :: Th.vw (.slice A ds.length c) ds :: [], ¬ t.P B12) := Lib.hid (fun t ht hp => by
                      rcases List.mem_cons.1 ht with rfl | ht
                      · exact HFR.out (Th.vw (.slice A ds.length c) ds) (List.mem_cons_of_mem _ List.mem_cons_self) (hfd _ hp)
                      · exact HFR.out t ht hp)
                    clear hev hfd
                    refine hK.out _ _ (hk.less (fun _ ht => (List.mem_cons_of_mem _ (List.mem_cons_of_mem _ ht)))) (fun hHeld => ?_)
                    clear hK K hHeld HQc
                    try simp only [Act.put, List.setIfInBounds_toArray, List.set_cons_zero, List.set_cons_succ]
                    refine anyH_narrow (S' := fun W => Kv C w W [v] (Th.evs (.slice d.A d.xs.length d.cap) d.xs :: Th.box B10 (.cells #[.slice A ds.length c] 28 (0, 0)) :: Th.vw (.slice A ds.length c) ds :: [])) (fun _ h => h.less (fun _ ht => List.mem_cons_of_mem _ ht)) _ _ _ _ ?_
                    have hHeld : Kv C w Wzna3 [v] (Th.evs (.slice d.A d.xs.length d.cap) d.xs :: Th.box B10 (.cells #[.slice A ds.length c] 28 (0, 0)) :: Th.vw (.slice A ds.length c) ds :: []) := (hk.swap.less (fun _ ht => List.mem_cons_of_mem _ ht))
                    clear hk5
                    have hk5 := hk.swap
                    clear hk
                    refine wpAnyH_ready (rs := [13]) (by kernel_rfl) (by simp) ?_
                    refine AllReadyH.cons (o := ⟨some 55, _, _, _, _, _⟩) rfl (fun K hK => ?wznab13) AllReadyH.nil
                    case wznab13 =>
                      have HQc := Lib.hid (HOD.out Wzna3 _ d hk5 (List.mem_cons_of_mem _ List.mem_cons_self) HEV.out)
                      go_simp
                      refine HQc.out.mono ?_
                      rintro e Wznab13 ⟨y, rfl, hyr, hfy, hk⟩
                      have HYR := Lib.hid hyr
                      have HYB : Hid (∀ k, footV y k → k ≠ B10) := Lib.hid (fun k hk' e => by
                        rcases hfy k hk' with hh | hh
                        · exact HAP.out k (HFD.out k hh) e
                        · have := smem_lt (show Wzna3.heap[B10]? = _ from hHeld.is (List.mem_cons_of_mem _ List.mem_cons_self))
                          omega)
                      replace HFR : Hid (∀ t ∈ Th.ev y :: Th.evs (.slice d.A d.xs.length d.cap) d.xs :: Th.box B10 (.cells #[.slice A ds.length c] 28 (0, 0)) :: Th.vw (.slice A ds.length c) ds :: [], ¬ t.P B12) := Lib.hid (fun t ht hp => by
                        rcases List.mem_cons.1 ht with rfl | ht
                        · rcases hfy _ hp with hh | hh
                          · exact HFR.out (Th.evs (.slice d.A d.xs.length d.cap) d.xs) List.mem_cons_self hh
                          · have := smem_lt (show Wzna3.heap[B12]? = _ from hk5.is List.mem_cons_self)
                            omega
                        · exact HFR.out t ht hp)
                      clear hyr hfy
                      refine hK.out _ _ (hk.less (fun _ ht => (List.mem_cons_of_mem _ (List.mem_cons_of_mem _ ht)))) (fun hHeld => ?_)
                      clear hK K hHeld HQc
                      try simp only [Act.put, List.setIfInBounds_toArray, List.set_cons_zero, List.set_cons_succ]
                      refine anyH_narrow (S' := fun W => Kv C w W [v] (Th.ev y :: Th.evs (.slice d.A d.xs.length d.cap) d.xs :: Th.box B10 (.cells #[.slice A ds.length c] 28 (0, 0)) :: Th.vw (.slice A ds.length c) ds :: [])) (fun _ h => h.less (fun _ ht => List.mem_cons_of_mem _ ht)) _ _ _ _ ?_
                      have hHeld : Kv C w Wznab13 [v] (Th.ev y :: Th.evs (.slice d.A d.xs.length d.cap) d.xs :: Th.box B10 (.cells #[.slice A ds.length c] 28 (0, 0)) :: Th.vw (.slice A ds.length c) ds :: []) := (hk.swap.less (fun _ ht => List.mem_cons_of_mem _ ht))
                      clear hk5
                      have hk5 := hk.swap
                      clear hk
                      have HBB := Lib.hid (hk5.is List.mem_cons_self)
                      have r0 : Wznab13.cell? ⟨B12, 0, none⟩ = some (.string ⟨#[]⟩) := cell_at HBB.out 0
                      have r1 : Wznab13.cell? ⟨B12, 1, none⟩ = some (.string ⟨#[]⟩) := cell_at HBB.out 1
                      have r2 : Wznab13.cell? ⟨B12, 2, none⟩ = some (.slice none 0 0) := cell_at HBB.out 2
                      have r3 : Wznab13.cell? ⟨B12, 3, none⟩ = some (.string ⟨#[]⟩) := cell_at HBB.out 3
                      have r4 : Wznab13.cell? ⟨B12, 4, none⟩ = some (.string ⟨#[]⟩) := cell_at HBB.out 4
                      have r5 : Wznab13.cell? ⟨B12, 5, none⟩ = some (.int .i64 0) := cell_at HBB.out 5
                      have z0 : Wznab13.frozen? ⟨B12, 0, none⟩ = false := free_at HBB.out 0
                      have z1 : Wznab13.frozen? ⟨B12, 1, none⟩ = false := free_at HBB.out 1
                      have z2 : Wznab13.frozen? ⟨B12, 2, none⟩ = false := free_at HBB.out 2
                      have z3 : Wznab13.frozen? ⟨B12, 3, none⟩ = false := free_at HBB.out 3
                      have z4 : Wznab13.frozen? ⟨B12, 4, none⟩ = false := free_at HBB.out 4
                      have z5 : Wznab13.frozen? ⟨B12, 5, none⟩ = false := free_at HBB.out 5
                      have HAN := Lib.hid (six_at HBB.out rfl (.string y.ev.id) (.string y.ev.room) (.slice y.A y.ev.parents.length y.cap) (.string y.ev.thread) (.string y.ev.user) (.int .i64 y.ev.does))
                      have HKP := Lib.hid (hk5.put (t' := Th.box B12 (.cells #[.string y.ev.id, .string y.ev.room, .slice y.A y.ev.parents.length y.cap, .string y.ev.thread, .string y.ev.user, .int .i64 y.ev.does] 33 (0, 0))) (sm_grown Wznab13 B12 0 [.string y.ev.id, .string y.ev.room, .slice y.A y.ev.parents.length y.cap, .string y.ev.thread, .string y.ev.user, .int .i64 y.ev.does]) (fun k hk => by
                        injection hk with hk
                        subst hk
                        exact ⟨rfl, HLOW.out, HFR.out⟩) HAN.out (fun k hk => .inl hk))
                      simp only [World.setCells] at HKP
                      clear hk5 HBB HAN
                      refine wpAnyH_ready (rs := [15]) (by kernel_rfl) (by simp) ?_
                      refine AllReadyH.cons (o := ⟨none, _, _, _, _, _⟩) rfl (fun K hK => ?_) AllReadyH.nil
                      clear hHeld
                      go_simp
                      clear r0 r1 r2 r3 r4 r5 z0 z1 z2 z3 z4 z5
                      generalize World.setCell _ _ _ = w9 at HKP ⊢
                      refine hK.out _ _ (HKP.out.less (fun _ ht => List.mem_cons_of_mem _ ht)) (fun hHeld => ?_)
                      clear hK K
                      try simp only [Act.put, List.setIfInBounds_toArray, List.set_cons_zero, List.set_cons_succ]
                      refine wpAnyH_done (by kernel_rfl) ?_ _
                      go_wp2_with fail
                      go_meet
                      exact ⟨B12, rfl, Lib.hid ⟨y, HYR.out, HYB.out, HLOW.out, (fun t ht => HFR.out t (by rcases List.mem_cons.1 ht with rfl | ht; exact List.mem_cons_self; exact List.mem_cons_of_mem _ (List.mem_cons_of_mem _ ht))), HKP.out.less (fun t ht => by
                        rcases List.mem_cons.1 ht with rfl | ht
                        · exact List.mem_cons_self
                        rcases List.mem_cons.1 ht with rfl | ht
                        · exact List.mem_cons_of_mem _ List.mem_cons_self
                        exact List.mem_cons_of_mem _ (List.mem_cons_of_mem _ (List.mem_cons_of_mem _ ht)))⟩⟩
            case rest =>
              obtain ⟨B12, rfl, HY⟩ := hcut
              obtain ⟨y, hyr, hyb, hlow, hfr, hky⟩ := HY.out
              have HLW := Lib.hid hlow
              have HFR := Lib.hid hfr
              have HYR := Lib.hid hyr
              have HYB := Lib.hid hyb
              have HKT := Lib.hid hky
              clear HY hyr hyb hlow hfr hky HK HRO HOF HOD
              obtain ⟨wt, hwt⟩ : ∃ wt, wt = wc := ⟨_, rfl⟩
              subst hwt
              have z8 := HKS.out wt HKT.out.below
              by_cases h5 : o.tmod 5 = 0
              · have q5 : (o.tmod 5 == 0) = true := by rw [beq_iff_eq]; exact h5
                obtain ⟨ri, hri⟩ : ∃ ri, o.tdiv 5 = ri := ⟨_, rfl⟩
                have h6 : o.tmod 5 + 5 * o.tdiv 5 = o := by first | exact Int.tmod_add_mul_tdiv o 5 | exact Int.tmod_add_tdiv o 5
                rw [h5, hri] at h6
                have hb5 := hob.1
                have hb6 := hob.2
                have q6 : IntKind.i64.wrap ri = ri := IntWalk.i64_in _ (by omega)
                have HRO2 := Lib.hid (fun W => roomOf_any ri W (by omega) (by omega))
                have HRZ2 : Hid ((roomS ri).size ≤ 40) := Lib.hid (named_size (roomS_room ri))
                generalize roomS ri = rm2 at HRO2 HRZ2
                clear h5 h6
                go_wp2_with fail
                go_at_call 11
                refine (HRO2.out _).mono ?_
                rintro e wq ⟨rfl, bq⟩
                have HKQ := Lib.hid (HKT.out.later bq)
                clear bq HKT HRO2 z8 HYR
                have HBQ := Lib.hid (HKQ.out.is List.mem_cons_self)
                have r1 : wq.cell? ⟨B12, 1, none⟩ = some (.string y.ev.room) := cell_at HBQ.out 1
                have z1 : wq.frozen? ⟨B12, 1, none⟩ = false := free_at HBQ.out 1
                obtain ⟨y2, hy2⟩ : ∃ y2 : EvV, y2 = ⟨⟨y.ev.id, rm2, y.ev.parents, y.ev.thread, y.ev.user, y.ev.does⟩, y.A, y.cap⟩ := ⟨_, rfl⟩
                have HYA := Lib.hid (show y.at wq from HKQ.out.is (List.mem_cons_of_mem _ List.mem_cons_self))
                have HKT : Hid (Kv C w (wq.setCell ⟨B12, 1, none⟩ (.string rm2)) [v] (Th.box B12 (.cells #[.string y2.ev.id, .string y2.ev.room, .slice y2.A y2.ev.parents.length y2.cap, .string y2.ev.thread, .string y2.ev.user, .int .i64 y2.ev.does] 33 (0, 0)) :: Th.ev y2 :: Th.box B10 (.cells #[.slice A ds.length c] 28 (0, 0)) :: Th.vw (.slice A ds.length c) ds :: [])) := Lib.hid (by
                  subst hy2
                  have k1 := HKQ.out.put (t' := Th.box B12 (.cells #[.string y.ev.id, .string rm2, .slice y.A y.ev.parents.length y.cap, .string y.ev.thread, .string y.ev.user, .int .i64 y.ev.does] 33 (0, 0))) (sm_grown wq B12 1 [.string rm2]) (fun k hk => by
                    injection hk with hk
                    subst hk
                    exact ⟨rfl, HLW.out, HFR.out⟩) (heap_set HBQ.out 1 (.string rm2)) (fun k hk => .inl hk)
                  exact (k1.swap.weak2 (t' := Th.ev ⟨⟨y.ev.id, rm2, y.ev.parents, y.ev.thread, y.ev.user, y.ev.does⟩, y.A, y.cap⟩) ⟨(k1.is (List.mem_cons_of_mem _ List.mem_cons_self)).1, HYA.out.2.1, Nat.le_trans HRZ2.out (by decide), HYA.out.2.2.2⟩ (fun k hk => hk)).swap)
                have HYR : Hid (y2.ev.room.size ≤ 40) := Lib.hid (by subst hy2; exact HRZ2.out)
                have HYB : Hid (∀ k, footV y2 k → k ≠ B10) := Lib.hid (by subst hy2; exact HYB.out)
                clear hy2 HYA HKQ
                go_upto_region 10 with (fail)
                clear r1 z1
                generalize World.setCell _ _ _ = wt at HKT ⊢
                have c10 : wt.cell? ⟨B10, 0, none⟩ = some (.slice A ds.length c) := cell_at (HKT.out.is (List.mem_cons_of_mem _ (List.mem_cons_of_mem _ List.mem_cons_self))) 0
                have f0 : wt.cell? ⟨B12, 0, none⟩ = some (.string y2.ev.id) := cell_at (HKT.out.is List.mem_cons_self) 0
                have f1 : wt.cell? ⟨B12, 1, none⟩ = some (.string y2.ev.room) := cell_at (HKT.out.is List.mem_cons_self) 1
                have f2 : wt.cell? ⟨B12, 2, none⟩ = some (.slice y2.A y2.ev.parents.length y2.cap) := cell_at (HKT.out.is List.mem_cons_self) 2
                have f3 : wt.cell? ⟨B12, 3, none⟩ = some (.string y2.ev.thread) := cell_at (HKT.out.is List.mem_cons_self) 3
                have f4 : wt.cell? ⟨B12, 4, none⟩ = some (.string y2.ev.user) := cell_at (HKT.out.is List.mem_cons_self) 4
                have f5 : wt.cell? ⟨B12, 5, none⟩ = some (.int .i64 y2.ev.does) := cell_at (HKT.out.is List.mem_cons_self) 5
                have HQ := Lib.hid (refAdd10_any (.slice A ds.length c) ds y2 wt (HKT.out.is (List.mem_cons_of_mem _ (List.mem_cons_of_mem _ (List.mem_cons_of_mem _ List.mem_cons_self)))) (HKT.out.is (List.mem_cons_of_mem _ List.mem_cons_self)) (by have := (vws_len HOK.out).1; omega) (fun d hd => by have := (vws_len HOK.out).2 d hd; omega))
                unfold EvV.val EvV.pv at HQ
                go_wp2_with fail
                go_at_call 12
                refine HQ.out.mono ?_
                rintro e x1 ⟨u', ds', rfl, hds', hvw', hft', hb'⟩
                obtain ⟨A', c', rfl, -⟩ := id hds'.1
                have HX1 := Lib.hid (HKT.out.add (t := Th.vw (.slice A' ds'.length c') ds') hb' hds' (fun k hk => (hft' k hk).elim (fun hh => .inr ⟨_, (List.mem_cons_of_mem _ (List.mem_cons_of_mem _ (List.mem_cons_of_mem _ List.mem_cons_self))), hh⟩) (fun hh => hh.elim (fun hh => .inr ⟨_, (List.mem_cons_of_mem _ List.mem_cons_self), hh⟩) .inl)))
                have HAP' : Hid (∀ k, footD (.slice A' ds'.length c') ds' k → k ≠ B10) := Lib.hid (fun k hk e => by
                  rcases hft' k hk with hh | hh | hh
                  · exact HAP.out k hh e
                  · exact HYB.out k hh e
                  · have := smem_lt (show wt.heap[B10]? = _ from HKT.out.is (List.mem_cons_of_mem _ (List.mem_cons_of_mem _ List.mem_cons_self)))
                    omega)
                have HVW' := Lib.hid hvw'
                clear hds' hvw' hft' hb' HQ c10 f0 f1 f2 f3 f4 f5
                have HX2 := Lib.hid (HX1.out.add (t := Th.box x1.heap.size (.cells #[.slice A' ds'.length c'] 28 (0, 0))) (below_new x1 _) (heap_alloc_new x1 _) (fun k hk => .inl (Nat.le_of_eq hk.symm)))
                go_upto_region 11 with (fail)
                generalize World.alloc _ _ = x2 at HX2 ⊢
                generalize x1.heap.size = B13 at HX2 ⊢
                clear HX1 HKT
                have f0 : x2.cell? ⟨B12, 0, none⟩ = some (.string y2.ev.id) := cell_at (HX2.out.is (List.mem_cons_of_mem _ (List.mem_cons_of_mem _ List.mem_cons_self))) 0
                have f1 : x2.cell? ⟨B12, 1, none⟩ = some (.string y2.ev.room) := cell_at (HX2.out.is (List.mem_cons_of_mem _ (List.mem_cons_of_mem _ List.mem_cons_self))) 1
                have f2 : x2.cell? ⟨B12, 2, none⟩ = some (.slice y2.A y2.ev.parents.length y2.cap) := cell_at (HX2.out.is (List.mem_cons_of_mem _ (List.mem_cons_of_mem _ List.mem_cons_self))) 2
                have f3 : x2.cell? ⟨B12, 3, none⟩ = some (.string y2.ev.thread) := cell_at (HX2.out.is (List.mem_cons_of_mem _ (List.mem_cons_of_mem _ List.mem_cons_self))) 3
                have f4 : x2.cell? ⟨B12, 4, none⟩ = some (.string y2.ev.user) := cell_at (HX2.out.is (List.mem_cons_of_mem _ (List.mem_cons_of_mem _ List.mem_cons_self))) 4
                have f5 : x2.cell? ⟨B12, 5, none⟩ = some (.int .i64 y2.ev.does) := cell_at (HX2.out.is (List.mem_cons_of_mem _ (List.mem_cons_of_mem _ List.mem_cons_self))) 5
                have HQ := Lib.hid (viewAdd_any CR HX2.out (i := 0) rfl (by rw [HVV.out]; exact HOK.out.mono (by omega)) y2 (List.mem_cons_of_mem _ (List.mem_cons_of_mem _ (List.mem_cons_of_mem _ List.mem_cons_self))) HYR.out)
                rw [HVV.out, HG.out] at HQ
                unfold EvV.val EvV.pv at HQ
                generalize errV (vws ds) y2.ev = er at HQ ⊢
                have q8 : (er != er) = false := by simp
                go_wp2_with fail
                go_at_call 13
                refine HQ.out.mono ?_
                rintro e x3 ⟨v', rfl, hg', hv', hk'⟩
                have HX3 := Lib.hid (show Kv C w x3 [v'] (Th.box B13 (.cells #[.slice A' ds'.length c'] 28 (0, 0)) :: Th.vw (.slice A' ds'.length c') ds' :: Th.box B12 (.cells #[.string y2.ev.id, .string y2.ev.room, .slice y2.A y2.ev.parents.length y2.cap, .string y2.ev.thread, .string y2.ev.user, .int .i64 y2.ev.does] 33 (0, 0)) :: Th.ev y2 :: Th.box B10 (.cells #[.slice A ds.length c] 28 (0, 0)) :: Th.vw (.slice A ds.length c) ds :: []) from hk')
                have HN := Lib.hid (And.intro (hg') hv')
                clear hk' hg' hv' HQ HX2 f0 f1 f2 f3 f4 f5
                have c13 : x3.cell? ⟨B13, 0, none⟩ = some (.slice A' ds'.length c') := cell_at (HX3.out.is List.mem_cons_self) 0
                have HX4 := Lib.hid (HX3.out.less (ts' := Th.box B10 (.cells #[.slice A ds.length c] 28 (0, 0)) :: Th.vw (.slice A' ds'.length c') ds' :: []) (fun t ht => by
                  rcases List.mem_cons.1 ht with rfl | ht
                  · exact (List.mem_cons_of_mem _ (List.mem_cons_of_mem _ (List.mem_cons_of_mem _ (List.mem_cons_of_mem _ List.mem_cons_self))))
                  rcases List.mem_cons.1 ht with rfl | ht
                  · exact (List.mem_cons_of_mem _ List.mem_cons_self)
                  · cases ht))
                have HB4 := Lib.hid (HX4.out.is List.mem_cons_self)
                have y0 : x3.cell? ⟨B10, 0, none⟩ = some (.slice A ds.length c) := cell_at HB4.out 0
                have z0 : x3.frozen? ⟨B10, 0, none⟩ = false := free_at HB4.out 0
                have HAN := Lib.hid (one_at HB4.out (.slice A' ds'.length c') _ rfl)
                have HX5 := Lib.hid (HX4.out.put (t' := Th.box B10 (.cells #[.slice A' ds'.length c'] 28 (0, 0))) HAN.out.2 (fun k hk => by
                  injection hk with hk
                  subst hk
                  exact ⟨rfl, HB10.out, fun t ht hp => by
                    rcases List.mem_cons.1 ht with rfl | ht
                    · exact HAP'.out _ hp rfl
                    · cases ht⟩) HAN.out.1 (fun k hk => .inl hk))
                clear HX3 HX4 HAN
                have HOK' : Hid (VOk (18 + (a + 1)) (vws ds')) := Lib.hid (by rw [HVW'.out]; exact addV_ok HOK.out)
                have HL2 : Hid (∀ W, Kv C w W [v'] (Th.box B10 (.cells #[.slice A' ds'.length c'] 28 (0, 0)) :: Th.vw (.slice A' ds'.length c') ds' :: []) → ∃ (v : VI) (ds : List DV) (A : Option Addr) (c : Nat), v.g = v0.g ∧ v.V = vws ds ∧ VOk (18 + (a + 1)) (vws ds) ∧ (∀ k, footD (.slice A ds.length c) ds k → k ≠ B10) ∧ Kv C w W [v] (Th.box B10 (.cells #[.slice A ds.length c] 28 (0, 0)) :: Th.vw (.slice A ds.length c) ds :: [])) := Lib.hid (fun W hk => ⟨v', ds', A', c', HN.out.1, HN.out.2.trans HVW'.out.symm, HOK'.out, HAP'.out, hk⟩)
                go_wp2_with fail
                generalize World.setCell _ _ _ = x6 at HX5 ⊢
                refine ⟨⟨a + 1, by go_num, by omega, Lib.hid (HL2.out _ HX5.out)⟩, ?_⟩
                simp [intOf]; omega
              · have q5 : (o.tmod 5 == 0) = false := by rw [beq_eq_false_iff_ne]; exact h5
                clear h5
                have c10 : wt.cell? ⟨B10, 0, none⟩ = some (.slice A ds.length c) := cell_at (HKT.out.is (List.mem_cons_of_mem _ (List.mem_cons_of_mem _ List.mem_cons_self))) 0
                have f0 : wt.cell? ⟨B12, 0, none⟩ = some (.string y.ev.id) := cell_at (HKT.out.is List.mem_cons_self) 0
                have f1 : wt.cell? ⟨B12, 1, none⟩ = some (.string y.ev.room) := cell_at (HKT.out.is List.mem_cons_self) 1
                have f2 : wt.cell? ⟨B12, 2, none⟩ = some (.slice y.A y.ev.parents.length y.cap) := cell_at (HKT.out.is List.mem_cons_self) 2
                have f3 : wt.cell? ⟨B12, 3, none⟩ = some (.string y.ev.thread) := cell_at (HKT.out.is List.mem_cons_self) 3
                have f4 : wt.cell? ⟨B12, 4, none⟩ = some (.string y.ev.user) := cell_at (HKT.out.is List.mem_cons_self) 4
                have f5 : wt.cell? ⟨B12, 5, none⟩ = some (.int .i64 y.ev.does) := cell_at (HKT.out.is List.mem_cons_self) 5
                have HQ := Lib.hid (refAdd10_any (.slice A ds.length c) ds y wt (HKT.out.is (List.mem_cons_of_mem _ (List.mem_cons_of_mem _ (List.mem_cons_of_mem _ List.mem_cons_self)))) (HKT.out.is (List.mem_cons_of_mem _ List.mem_cons_self)) (by have := (vws_len HOK.out).1; omega) (fun d hd => by have := (vws_len HOK.out).2 d hd; omega))
                unfold EvV.val EvV.pv at HQ
                go_wp2_with fail
                go_at_call 12
                refine HQ.out.mono ?_
                rintro e x1 ⟨u', ds', rfl, hds', hvw', hft', hb'⟩
                obtain ⟨A', c', rfl, -⟩ := id hds'.1
                have HX1 := Lib.hid (HKT.out.add (t := Th.vw (.slice A' ds'.length c') ds') hb' hds' (fun k hk => (hft' k hk).elim (fun hh => .inr ⟨_, (List.mem_cons_of_mem _ (List.mem_cons_of_mem _ (List.mem_cons_of_mem _ List.mem_cons_self))), hh⟩) (fun hh => hh.elim (fun hh => .inr ⟨_, (List.mem_cons_of_mem _ List.mem_cons_self), hh⟩) .inl)))
                have HAP' : Hid (∀ k, footD (.slice A' ds'.length c') ds' k → k ≠ B10) := Lib.hid (fun k hk e => by
                  rcases hft' k hk with hh | hh | hh
                  · exact HAP.out k hh e
                  · exact HYB.out k hh e
                  · have := smem_lt (show wt.heap[B10]? = _ from HKT.out.is (List.mem_cons_of_mem _ (List.mem_cons_of_mem _ List.mem_cons_self)))
                    omega)
                have HVW' := Lib.hid hvw'
                clear hds' hvw' hft' hb' HQ c10 f0 f1 f2 f3 f4 f5
                have HX2 := Lib.hid (HX1.out.add (t := Th.box x1.heap.size (.cells #[.slice A' ds'.length c'] 28 (0, 0))) (below_new x1 _) (heap_alloc_new x1 _) (fun k hk => .inl (Nat.le_of_eq hk.symm)))
                go_upto_region 11 with (fail)
                generalize World.alloc _ _ = x2 at HX2 ⊢
                generalize x1.heap.size = B13 at HX2 ⊢
                clear HX1 HKT
                have f0 : x2.cell? ⟨B12, 0, none⟩ = some (.string y.ev.id) := cell_at (HX2.out.is (List.mem_cons_of_mem _ (List.mem_cons_of_mem _ List.mem_cons_self))) 0
                have f1 : x2.cell? ⟨B12, 1, none⟩ = some (.string y.ev.room) := cell_at (HX2.out.is (List.mem_cons_of_mem _ (List.mem_cons_of_mem _ List.mem_cons_self))) 1
                have f2 : x2.cell? ⟨B12, 2, none⟩ = some (.slice y.A y.ev.parents.length y.cap) := cell_at (HX2.out.is (List.mem_cons_of_mem _ (List.mem_cons_of_mem _ List.mem_cons_self))) 2
                have f3 : x2.cell? ⟨B12, 3, none⟩ = some (.string y.ev.thread) := cell_at (HX2.out.is (List.mem_cons_of_mem _ (List.mem_cons_of_mem _ List.mem_cons_self))) 3
                have f4 : x2.cell? ⟨B12, 4, none⟩ = some (.string y.ev.user) := cell_at (HX2.out.is (List.mem_cons_of_mem _ (List.mem_cons_of_mem _ List.mem_cons_self))) 4
                have f5 : x2.cell? ⟨B12, 5, none⟩ = some (.int .i64 y.ev.does) := cell_at (HX2.out.is (List.mem_cons_of_mem _ (List.mem_cons_of_mem _ List.mem_cons_self))) 5
                have HQ := Lib.hid (viewAdd_any CR HX2.out (i := 0) rfl (by rw [HVV.out]; exact HOK.out.mono (by omega)) y (List.mem_cons_of_mem _ (List.mem_cons_of_mem _ (List.mem_cons_of_mem _ List.mem_cons_self))) HYR.out)
                rw [HVV.out, HG.out] at HQ
                unfold EvV.val EvV.pv at HQ
                generalize errV (vws ds) y.ev = er at HQ ⊢
                have q8 : (er != er) = false := by simp
                go_wp2_with fail
                go_at_call 13
                refine HQ.out.mono ?_
                rintro e x3 ⟨v', rfl, hg', hv', hk'⟩
                have HX3 := Lib.hid (show Kv C w x3 [v'] (Th.box B13 (.cells #[.slice A' ds'.length c'] 28 (0, 0)) :: Th.vw (.slice A' ds'.length c') ds' :: Th.box B12 (.cells #[.string y.ev.id, .string y.ev.room, .slice y.A y.ev.parents.length y.cap, .string y.ev.thread, .string y.ev.user, .int .i64 y.ev.does] 33 (0, 0)) :: Th.ev y :: Th.box B10 (.cells #[.slice A ds.length c] 28 (0, 0)) :: Th.vw (.slice A ds.length c) ds :: []) from hk')
                have HN := Lib.hid (And.intro (hg') hv')
                clear hk' hg' hv' HQ HX2 f0 f1 f2 f3 f4 f5
                have c13 : x3.cell? ⟨B13, 0, none⟩ = some (.slice A' ds'.length c') := cell_at (HX3.out.is List.mem_cons_self) 0
                have HX4 := Lib.hid (HX3.out.less (ts' := Th.box B10 (.cells #[.slice A ds.length c] 28 (0, 0)) :: Th.vw (.slice A' ds'.length c') ds' :: []) (fun t ht => by
                  rcases List.mem_cons.1 ht with rfl | ht
                  · exact (List.mem_cons_of_mem _ (List.mem_cons_of_mem _ (List.mem_cons_of_mem _ (List.mem_cons_of_mem _ List.mem_cons_self))))
                  rcases List.mem_cons.1 ht with rfl | ht
                  · exact (List.mem_cons_of_mem _ List.mem_cons_self)
                  · cases ht))
                have HB4 := Lib.hid (HX4.out.is List.mem_cons_self)
                have y0 : x3.cell? ⟨B10, 0, none⟩ = some (.slice A ds.length c) := cell_at HB4.out 0
                have z0 : x3.frozen? ⟨B10, 0, none⟩ = false := free_at HB4.out 0
                have HAN := Lib.hid (one_at HB4.out (.slice A' ds'.length c') _ rfl)
                have HX5 := Lib.hid (HX4.out.put (t' := Th.box B10 (.cells #[.slice A' ds'.length c'] 28 (0, 0))) HAN.out.2 (fun k hk => by
                  injection hk with hk
                  subst hk
                  exact ⟨rfl, HB10.out, fun t ht hp => by
                    rcases List.mem_cons.1 ht with rfl | ht
                    · exact HAP'.out _ hp rfl
                    · cases ht⟩) HAN.out.1 (fun k hk => .inl hk))
                clear HX3 HX4 HAN
                have HOK' : Hid (VOk (18 + (a + 1)) (vws ds')) := Lib.hid (by rw [HVW'.out]; exact addV_ok HOK.out)
                have HL2 : Hid (∀ W, Kv C w W [v'] (Th.box B10 (.cells #[.slice A' ds'.length c'] 28 (0, 0)) :: Th.vw (.slice A' ds'.length c') ds' :: []) → ∃ (v : VI) (ds : List DV) (A : Option Addr) (c : Nat), v.g = v0.g ∧ v.V = vws ds ∧ VOk (18 + (a + 1)) (vws ds) ∧ (∀ k, footD (.slice A ds.length c) ds k → k ≠ B10) ∧ Kv C w W [v] (Th.box B10 (.cells #[.slice A ds.length c] 28 (0, 0)) :: Th.vw (.slice A ds.length c) ds :: [])) := Lib.hid (fun W hk => ⟨v', ds', A', c', HN.out.1, HN.out.2.trans HVW'.out.symm, HOK'.out, HAP'.out, hk⟩)
                go_wp2_with fail
                generalize World.setCell _ _ _ = x6 at HX5 ⊢
                refine ⟨⟨a + 1, by go_num, by omega, Lib.hid (HL2.out _ HX5.out)⟩, ?_⟩
                simp [intOf]; omega
          · have q3 : decide ((a : Int) < 4) = false := decide_eq_false (by omega)
            go_wp2_with fail
            go_meet
            exact HEX
        · have q2 : decide ((a : Int) < (ks.length : Int)) = false := decide_eq_false (by omega)
          go_wp2_with fail
          go_meet
          exact HEX
      · have q1 : decide ((a : Int) < (xs.length : Int)) = false := decide_eq_false (by omega)
        go_wp2_with fail
        go_meet
        exact HEX
  case rest =>
    obtain ⟨v, ds, A, c, hg, hV, hok, hap, hk⟩ := hcut.out
    have HG := Lib.hid hg
    have HVV := Lib.hid hV
    have HOK := Lib.hid hok
    have HK0 := Lib.hid hk
    clear hcut hg hV hok hap hk HL0
    have HST := Lib.hid (fun W tt (v1 v2 : Value) (us : List ByteArray) (hk : Kv C w W [v] (tt)) (h1 : Th.row LT v1 us ∈ tt) (h2 : Th.row LT v2 us ∈ tt) => (show Calls Tryz.prog 17 #[v1, v2] W fun e w' => e = .returned (.bool true) ∧ Kv C w w' [v] (tt) from (sameTexts_any v1 v2 us us W (hk.is h1) (hk.is h2)).mono (fun e w' ⟨he, d, hw⟩ => ⟨by rw [he, decide_eq_true rfl], hk.later (by rw [hw]; exact ((Gr.refl W).drewN d).below)⟩)))
    go_wp2_with fail
    go_loopw [15] (fun i wr => ∃ a : Nat, i = .int .i64 (a : Int) ∧ a ≤ 2 ∧ Hid (Kv C w wr [v] (Th.box B10 (.cells #[.slice A ds.length c] 28 (0, 0)) :: Th.vw (.slice A ds.length c) ds :: []))) (fun i _ => 2 - (intOf i).toNat)
    case atStart => exact ⟨0, rfl, Nat.zero_le _, HK0⟩
    case round =>
      clear HK0
      obtain ⟨a, rfl, ha2, HK⟩ := hrel
      by_cases h1 : a < 2
      · have q1 : decide ((a : Int) < 2) = true := decide_eq_true (by omega)
        have HRO := Lib.hid (fun W => roomOf_any (a : Int) W (by omega) (by omega))
        have HRZ : Hid ((roomS (a : Int)).size ≤ 40) := Lib.hid (named_size (roomS_room (a : Int)))
        generalize roomS (a : Int) = rm at HRO HRZ
        go_wp2_with fail
        go_at_call 11
        refine (HRO.out _).mono ?_
        rintro e w4 ⟨rfl, b4⟩
        have HK4 := Lib.hid (HK.out.later b4)
        clear b4 HK HRO
        have c10 : w4.cell? ⟨B10, 0, none⟩ = some (.slice A ds.length c) := cell_at (HK4.out.is List.mem_cons_self) 0
        have HQ := Lib.hid (refOf_any (.slice A ds.length c) ds rm w4 (HK4.out.is (List.mem_cons_of_mem _ List.mem_cons_self)) (by have := (vws_len HOK.out).1; omega))
        go_wp2_with fail
        go_at_call 10
        refine HQ.out.mono ?_
        rintro e w5 ⟨d, rfl, hes, rfl, hdm, hdo, hb⟩
        have HK5 := Lib.hid (HK4.out.add (t := Th.evs (.slice d.A d.xs.length d.cap) d.xs) hb hes (fun k hk' => .inr ⟨_, (List.mem_cons_of_mem _ List.mem_cons_self), of_foot hdm hk'⟩))
        have HDO := Lib.hid hdo
        obtain ⟨rm, hrm⟩ : ∃ rm, rm = d.room := ⟨_, rfl⟩
        unfold DV.val DV.lv
        rw [← hrm] at HDO HRZ ⊢
        clear hrm
        have HK6 := Lib.hid (HK5.out.add (t := Th.box w5.heap.size (.cells #[.string rm, .slice d.A d.xs.length d.cap] 36 (0, 0))) (below_new w5 _) (heap_alloc_new w5 _) (fun k hk => .inl (Nat.le_of_eq hk.symm)))
        clear hes hdm hdo hb HQ c10 HK4 HK5
        go_upto_region 19 with (fail)
        generalize World.alloc _ _ = w6 at HK6 ⊢
        generalize w5.heap.size = B17 at HK6 ⊢
        have hof := HOK.out.of_ rm
        have HLA : Hid ((allL (ofL (vws ds) rm)).length ≤ 100) := Lib.hid (by rw [allL_len]; exact hof.2)
        have HVX : Hid (Valid rm (evs d.xs) ∧ d.xs.length ≤ 1000) := Lib.hid (by
          have h2 := hof
          rw [← HDO.out, evs_len] at h2
          exact ⟨h2.1, Nat.le_trans h2.2 (by decide)⟩)
        have hlen : ∀ ys : List EvV, evs ys = allL (ofL (vws ds) rm) → ys.length ≤ 1000 := fun ys he => by
          have h1 := congrArg List.length he
          rw [evs_len] at h1
          have := HLA.out
          omega
        have HEC : Hid (∀ W tt, Kv C w W [v] (tt) → Calls Tryz.prog 15 #[.pointer (some ⟨v0.g, 0, none⟩), .string rm] W fun e w' => ∃ v' ys, e = .returned v' ∧ evs ys = allL (ofL (vws ds) rm) ∧ ys.length ≤ 1000 ∧ Kv C w w' [v] (Th.evs v' ys :: tt)) := Lib.hid (fun W tt hk => by
          have := viewEvents_any CA hk (i := 0) rfl rm HRZ.out
          rw [HVV.out, HG.out] at this
          exact this.mono (fun e w' ⟨v', he, ys, hy, h1, _⟩ => ⟨v', ys, he, hy, hlen ys hy, h1⟩))
        have HAR : Hid (∀ W tt, Kv C w W [v] (tt) → Th.evs (.slice d.A d.xs.length d.cap) d.xs ∈ tt → Calls Tryz.prog 16 #[.agg #[.string rm, .slice d.A d.xs.length d.cap]] W fun e w' => ∃ v' ys, e = .returned v' ∧ evs ys = allL (ofL (vws ds) rm) ∧ ys.length ≤ 1000 ∧ Kv C w w' [v] (Th.evs v' ys :: tt)) := Lib.hid (fun W tt hk hm => by
          have hds := hk.is hm
          refine (refAll_any rm (.slice d.A d.xs.length d.cap) d.xs W hds HVX.out.1 HVX.out.2).mono ?_
          rintro e w' ⟨v', ys, rfl, hmi, hev, hys, hb⟩
          rw [HDO.out] at hev
          refine ⟨v', ys, rfl, hev, hlen ys hev, hk.add (t := Th.evs v' ys) hb ⟨hmi.slice, fun y hy => (hds.2 y (hys y hy)).below hb⟩ (fun k hk => ?_)⟩
          rcases hk with ⟨h0, hk⟩ | ⟨y, hy, hk⟩
          · exact .inl (hmi.lt k hk).1
          · exact .inr ⟨_, hm, .inr ⟨y, hys y hy, hk⟩⟩)
        have HSA := Lib.hid (fun W tt (v1 v2 : Value) (xs1 xs2 : List EvV) (hk : Kv C w W [v] (tt)) (m1 : Th.evs v1 xs1 ∈ tt) (m2 : Th.evs v2 xs2 ∈ tt) (e1 : evs xs1 = allL (ofL (vws ds) rm)) (e2 : evs xs2 = allL (ofL (vws ds) rm)) (l1 : xs1.length ≤ 1000) (l2 : xs2.length ≤ 1000) => (show Calls Tryz.prog 14 #[v1, v2] W fun e w' => e = .returned (.bool true) ∧ Kv C w w' [v] (tt) from (refSameAllK2 hk m1 m2 l1 l2).mono (fun e w' he => ⟨by rw [he.1, e1, e2, decide_eq_true rfl], he.2⟩)))
        have HHC : Hid (∀ W tt, Kv C w W [v] (tt) → Calls Tryz.prog 18 #[.pointer (some ⟨v0.g, 0, none⟩), .string rm] W fun e w' => ∃ v', e = .returned v' ∧ Kv C w w' [v] (Th.row LT v' (headsL (ofL (vws ds) rm)) :: tt)) := Lib.hid (fun W tt hk => by
          have := viewHeads_any CH hk (i := 0) rfl rm HRZ.out
          rw [HVV.out, HG.out] at this
          exact this.mono (fun e w' ⟨v', he, h1, _⟩ => ⟨v', he, h1⟩))
        have HHR : Hid (∀ W tt, Kv C w W [v] (tt) → Th.evs (.slice d.A d.xs.length d.cap) d.xs ∈ tt → Calls Tryz.prog 19 #[.agg #[.string rm, .slice d.A d.xs.length d.cap]] W fun e w' => ∃ v', e = .returned v' ∧ Kv C w w' [v] (Th.row LT v' (headsL (ofL (vws ds) rm)) :: tt)) := Lib.hid (fun W tt hk hm => by
          refine (refHeads_any rm (.slice d.A d.xs.length d.cap) d.xs W (hk.is hm) HVX.out.1 HVX.out.2).mono ?_
          rintro e w' ⟨v', rfl, hmi, hb⟩
          rw [HDO.out] at hmi
          exact ⟨v', rfl, hk.add (t := Th.row LT v' (headsL (ofL (vws ds) rm))) hb hmi.slice (fun k hk => .inl (hmi.lt k hk.2).1)⟩)
        generalize allL (ofL (vws ds) rm) = als at HEC HAR HSA HLA hlen
        generalize headsL (ofL (vws ds) rm) = hds at HHC HHR
        clear hlen hof
        refine wp_region_held_drew (S := fun W => Kv C w W [v] (Th.box B17 (.cells #[.string rm, .slice d.A d.xs.length d.cap] 36 (0, 0)) :: Th.evs (.slice d.A d.xs.length d.cap) d.xs :: Th.box B10 (.cells #[.slice A ds.length c] 28 (0, 0)) :: Th.vw (.slice A ds.length c) ds :: [])) (by kernel_rfl) (HK6.out.later (below_drew _)) (fun hHeld => ?_)
        clear HK6
        generalize World.drew _ = wd at hHeld ⊢
        refine wpAnyH_take (i := 0) (oi := ⟨some 90, _, _, _, _, _⟩) (v := ?vms0_0) rfl (by kernel_rfl) (by kernel_rfl) (by kernel_rfl) (fun _ _ _ h => h) (Or.inl ⟨by rfl, ?yms0_0⟩) hHeld ?rms0_0
        case yms0_0 =>
          intro wx hSx
          go_simp
          try with_reducible rfl
        try simp only [Act.put, List.setIfInBounds_toArray, List.set_cons_zero, List.set_cons_succ]
        refine wpAnyH_take (i := 1) (oi := ⟨some 91, _, _, _, _, _⟩) (v := ?vms0_1) rfl (by kernel_rfl) (by kernel_rfl) (by kernel_rfl) (fun _ _ _ h => h) (Or.inl ⟨by rfl, ?yms0_1⟩) hHeld ?rms0_1
        case yms0_1 =>
          intro wx hSx
          go_simp
          try with_reducible rfl
        try simp only [Act.put, List.setIfInBounds_toArray, List.set_cons_zero, List.set_cons_succ]
        refine wpAnyH_take (i := 3) (oi := ⟨some 93, _, _, _, _, _⟩) (v := ?vms0_3) rfl (by kernel_rfl) (by kernel_rfl) (by kernel_rfl) (fun _ _ _ h => h) (Or.inl ⟨by rfl, ?yms0_3⟩) hHeld ?rms0_3
        case yms0_3 =>
          intro wx hSx
          have z0 : wx.cell? ⟨B17, 0, none⟩ = some (.string rm) := cell_at (hSx.is List.mem_cons_self) 0
          have z1 : wx.cell? ⟨B17, 1, none⟩ = some (.slice d.A d.xs.length d.cap) := cell_at (hSx.is List.mem_cons_self) 1
          go_simp
          try with_reducible rfl
        try simp only [Act.put, List.setIfInBounds_toArray, List.set_cons_zero, List.set_cons_succ]
        refine wpAnyH_ready (rs := [2]) (by kernel_rfl) (by simp) ?_
        refine AllReadyH.cons (o := ⟨some 92, _, _, _, _, _⟩) rfl (fun K hK => ?_) AllReadyH.nil
        have HQc := Lib.hid (HEC.out wd _ hHeld)
        go_simp
        refine HQc.out.mono ?_
        rintro e Wm2 ⟨v2, ys2, rfl, he2, hl2, hk⟩
        refine hK.out _ _ (hk.less (fun _ ht => List.mem_cons_of_mem _ ht)) (fun hHeld => ?_)
        clear hK K hHeld
        try simp only [Act.put, List.setIfInBounds_toArray, List.set_cons_zero, List.set_cons_succ]
        refine anyH_narrow (S' := fun W => Kv C w W [v] (Th.evs v2 ys2 :: Th.box B17 (.cells #[.string rm, .slice d.A d.xs.length d.cap] 36 (0, 0)) :: Th.evs (.slice d.A d.xs.length d.cap) d.xs :: Th.box B10 (.cells #[.slice A ds.length c] 28 (0, 0)) :: Th.vw (.slice A ds.length c) ds :: [])) (fun _ h => h.less (fun _ ht => List.mem_cons_of_mem _ ht)) _ _ _ _ ?_
        have hHeld := hk
        clear hk HQc
        have HE2 := Lib.hid he2
        have HL2 := Lib.hid hl2
        clear he2 hl2
        refine wpAnyH_ready (rs := [4]) (by kernel_rfl) (by simp) ?_
        refine AllReadyH.cons (o := ⟨some 94, _, _, _, _, _⟩) rfl (fun K hK => ?_) AllReadyH.nil
        have HQc := Lib.hid (HAR.out Wm2 _ hHeld (List.mem_cons_of_mem _ (List.mem_cons_of_mem _ List.mem_cons_self)))
        go_simp
        refine HQc.out.mono ?_
        rintro e Wm4 ⟨v4, ys4, rfl, he4, hl4, hk⟩
        refine hK.out _ _ (hk.less (fun _ ht => List.mem_cons_of_mem _ ht)) (fun hHeld => ?_)
        clear hK K hHeld
        try simp only [Act.put, List.setIfInBounds_toArray, List.set_cons_zero, List.set_cons_succ]
        refine anyH_narrow (S' := fun W => Kv C w W [v] (Th.evs v4 ys4 :: Th.evs v2 ys2 :: Th.box B17 (.cells #[.string rm, .slice d.A d.xs.length d.cap] 36 (0, 0)) :: Th.evs (.slice d.A d.xs.length d.cap) d.xs :: Th.box B10 (.cells #[.slice A ds.length c] 28 (0, 0)) :: Th.vw (.slice A ds.length c) ds :: [])) (fun _ h => h.less (fun _ ht => List.mem_cons_of_mem _ ht)) _ _ _ _ ?_
        have hHeld := hk
        clear hk HQc
        have HE4 := Lib.hid he4
        have HL4 := Lib.hid hl4
        clear he4 hl4
        refine wpAnyH_ready (rs := [5]) (by kernel_rfl) (by simp) ?_
        refine AllReadyH.cons (o := ⟨some 95, _, _, _, _, _⟩) rfl (fun K hK => ?_) AllReadyH.nil
        have HQc := Lib.hid (HSA.out Wm4 _ v2 v4 ys2 ys4 hHeld (List.mem_cons_of_mem _ List.mem_cons_self) List.mem_cons_self HE2.out HE4.out HL2.out HL4.out)
        go_simp
        refine HQc.out.mono ?_
        rintro e Wm5 ⟨rfl, hk⟩
        refine hK.out _ _ hk (fun hHeld => ?_)
        clear hK K hk HQc
        try simp only [Act.put, List.setIfInBounds_toArray, List.set_cons_zero, List.set_cons_succ]
        refine wpAnyH_take (i := 6) (oi := ⟨some 96, _, _, _, _, _⟩) (v := ?vms3_6) rfl (by kernel_rfl) (by kernel_rfl) (by kernel_rfl) (fun _ _ _ h => h) (Or.inl ⟨by rfl, ?yms3_6⟩) hHeld ?rms3_6
        case yms3_6 =>
          intro wx hSx
          go_simp
          try with_reducible rfl
        try simp only [Act.put, List.setIfInBounds_toArray, List.set_cons_zero, List.set_cons_succ]
        refine wpAnyH_take (i := 7) (oi := ⟨some 97, _, _, _, _, _⟩) (v := ?vms3_7) rfl (by kernel_rfl) (by kernel_rfl) (by kernel_rfl) (fun _ _ _ h => h) (Or.inl ⟨by rfl, ?yms3_7⟩) hHeld ?rms3_7
        case yms3_7 =>
          intro wx hSx
          go_simp
          try with_reducible rfl
        try simp only [Act.put, List.setIfInBounds_toArray, List.set_cons_zero, List.set_cons_succ]
        refine wpAnyH_take (i := 8) (oi := ⟨some 98, _, _, _, _, _⟩) (v := ?vms3_8) rfl (by kernel_rfl) (by kernel_rfl) (by kernel_rfl) (fun _ _ _ h => h) (Or.inl ⟨by rfl, ?yms3_8⟩) hHeld ?rms3_8
        case yms3_8 =>
          intro wx hSx
          go_simp
          try with_reducible rfl
        try simp only [Act.put, List.setIfInBounds_toArray, List.set_cons_zero, List.set_cons_succ]
        refine wpAnyH_take (i := 9) (oi := ⟨some 99, _, _, _, _, _⟩) (v := ?vms3_9) rfl (by kernel_rfl) (by kernel_rfl) (by kernel_rfl) (fun _ _ _ h => h) (Or.inl ⟨by rfl, ?yms3_9⟩) hHeld ?rms3_9
        case yms3_9 =>
          intro wx hSx
          go_simp
          try with_reducible rfl
        try simp only [Act.put, List.setIfInBounds_toArray, List.set_cons_zero, List.set_cons_succ]
        refine wpAnyH_take (i := 11) (oi := ⟨some 101, _, _, _, _, _⟩) (v := ?vms3_11) rfl (by kernel_rfl) (by kernel_rfl) (by kernel_rfl) (fun _ _ _ h => h) (Or.inl ⟨by rfl, ?yms3_11⟩) hHeld ?rms3_11
        case yms3_11 =>
          intro wx hSx
          have z0 : wx.cell? ⟨B17, 0, none⟩ = some (.string rm) := cell_at (hSx.is (List.mem_cons_of_mem _ (List.mem_cons_of_mem _ List.mem_cons_self))) 0
          have z1 : wx.cell? ⟨B17, 1, none⟩ = some (.slice d.A d.xs.length d.cap) := cell_at (hSx.is (List.mem_cons_of_mem _ (List.mem_cons_of_mem _ List.mem_cons_self))) 1
          go_simp
          try with_reducible rfl
        try simp only [Act.put, List.setIfInBounds_toArray, List.set_cons_zero, List.set_cons_succ]
        refine wpAnyH_ready (rs := [10]) (by kernel_rfl) (by simp) ?_
        refine AllReadyH.cons (o := ⟨some 100, _, _, _, _, _⟩) rfl (fun K hK => ?_) AllReadyH.nil
        have HQc := Lib.hid (HHC.out Wm5 _ hHeld)
        go_simp
        refine HQc.out.mono ?_
        rintro e Wm10 ⟨v10, rfl, hk⟩
        refine hK.out _ _ (hk.less (fun _ ht => List.mem_cons_of_mem _ ht)) (fun hHeld => ?_)
        clear hK K hHeld
        try simp only [Act.put, List.setIfInBounds_toArray, List.set_cons_zero, List.set_cons_succ]
        refine anyH_narrow (S' := fun W => Kv C w W [v] (Th.row LT v10 hds :: Th.evs v4 ys4 :: Th.evs v2 ys2 :: Th.box B17 (.cells #[.string rm, .slice d.A d.xs.length d.cap] 36 (0, 0)) :: Th.evs (.slice d.A d.xs.length d.cap) d.xs :: Th.box B10 (.cells #[.slice A ds.length c] 28 (0, 0)) :: Th.vw (.slice A ds.length c) ds :: [])) (fun _ h => h.less (fun _ ht => List.mem_cons_of_mem _ ht)) _ _ _ _ ?_
        have hHeld := hk
        clear hk HQc
        refine wpAnyH_ready (rs := [12]) (by kernel_rfl) (by simp) ?_
        refine AllReadyH.cons (o := ⟨some 102, _, _, _, _, _⟩) rfl (fun K hK => ?_) AllReadyH.nil
        have HQc := Lib.hid (HHR.out Wm10 _ hHeld (List.mem_cons_of_mem _ (List.mem_cons_of_mem _ (List.mem_cons_of_mem _ (List.mem_cons_of_mem _ List.mem_cons_self)))))
        go_simp
        refine HQc.out.mono ?_
        rintro e Wm12 ⟨v12, rfl, hk⟩
        refine hK.out _ _ (hk.less (fun _ ht => List.mem_cons_of_mem _ ht)) (fun hHeld => ?_)
        clear hK K hHeld
        try simp only [Act.put, List.setIfInBounds_toArray, List.set_cons_zero, List.set_cons_succ]
        refine anyH_narrow (S' := fun W => Kv C w W [v] (Th.row LT v12 hds :: Th.row LT v10 hds :: Th.evs v4 ys4 :: Th.evs v2 ys2 :: Th.box B17 (.cells #[.string rm, .slice d.A d.xs.length d.cap] 36 (0, 0)) :: Th.evs (.slice d.A d.xs.length d.cap) d.xs :: Th.box B10 (.cells #[.slice A ds.length c] 28 (0, 0)) :: Th.vw (.slice A ds.length c) ds :: [])) (fun _ h => h.less (fun _ ht => List.mem_cons_of_mem _ ht)) _ _ _ _ ?_
        have hHeld := hk
        clear hk HQc
        refine wpAnyH_ready (rs := [13]) (by kernel_rfl) (by simp) ?_
        refine AllReadyH.cons (o := ⟨some 103, _, _, _, _, _⟩) rfl (fun K hK => ?_) AllReadyH.nil
        have HQc := Lib.hid (HST.out Wm12 _ v10 v12 hds hHeld (List.mem_cons_of_mem _ List.mem_cons_self) List.mem_cons_self)
        go_simp
        refine HQc.out.mono ?_
        rintro e Wm13 ⟨rfl, hk⟩
        refine hK.out _ _ hk (fun hHeld => ?_)
        clear hK K hk HQc
        try simp only [Act.put, List.setIfInBounds_toArray, List.set_cons_zero, List.set_cons_succ]
        refine wpAnyH_take (i := 14) (oi := ⟨some 104, _, _, _, _, _⟩) (v := ?vms6_14) rfl (by kernel_rfl) (by kernel_rfl) (by kernel_rfl) (fun _ _ _ h => h) (Or.inl ⟨by rfl, ?yms6_14⟩) hHeld ?rms6_14
        case yms6_14 =>
          intro wx hSx
          go_simp
          try with_reducible rfl
        try simp only [Act.put, List.setIfInBounds_toArray, List.set_cons_zero, List.set_cons_succ]
        refine wpAnyH_take (i := 15) (oi := ⟨some 105, _, _, _, _, _⟩) (v := ?vms6_15) rfl (by kernel_rfl) (by kernel_rfl) (by kernel_rfl) (fun _ _ _ h => h) (Or.inl ⟨by rfl, ?yms6_15⟩) hHeld ?rms6_15
        case yms6_15 =>
          intro wx hSx
          go_simp
          try with_reducible rfl
        try simp only [Act.put, List.setIfInBounds_toArray, List.set_cons_zero, List.set_cons_succ]
        refine wpAnyH_done (by kernel_rfl) ?_ _
        have HKF : Hid (Kv C w Wm13 [v] (Th.box B10 (.cells #[.slice A ds.length c] 28 (0, 0)) :: Th.vw (.slice A ds.length c) ds :: [])) := Lib.hid (hHeld.less (fun _ ht => (List.mem_cons_of_mem _ (List.mem_cons_of_mem _ (List.mem_cons_of_mem _ (List.mem_cons_of_mem _ (List.mem_cons_of_mem _ (List.mem_cons_of_mem _ ht))))))))
        clear hHeld
        go_wp2_with fail
        refine ⟨⟨a + 1, by go_num, by omega, HKF⟩, ?_⟩
        simp [intOf]; omega
      · have q1 : decide ((a : Int) < 2) = false := decide_eq_false (by omega)
        have HRC : Hid (∀ W tt, Kv C w W [v] (tt) → Calls Tryz.prog 20 #[.pointer (some ⟨v0.g, 0, none⟩)] W fun e w' => ∃ v', e = .returned v' ∧ Kv C w w' [v] (Th.row LT v' ((vws ds).map Prod.fst) :: tt)) := Lib.hid (fun W tt hk => by
          have := viewRooms_any CR hk (i := 0) rfl
          rw [HVV.out, HG.out] at this
          exact this.mono (fun e w' ⟨v', he, hm, h1, _⟩ => ⟨v', he, h1.weak2 (t' := Th.row LT v' ((vws ds).map Prod.fst)) hm.slice (fun k hk => hk.2)⟩))
        have HRR : Hid (∀ W tt, Kv C w W [v] (tt) → Th.vw (.slice A ds.length c) ds ∈ tt → Calls Tryz.prog 21 #[.agg #[.slice A ds.length c]] W fun e w' => ∃ v', e = .returned v' ∧ Kv C w w' [v] (Th.row LT v' ((vws ds).map Prod.fst) :: tt)) := Lib.hid (fun W tt hk hm => by
          refine (refRooms10_any (hk.is hm) HOK.out).mono ?_
          rintro e w' ⟨v', rfl, hmi, hb⟩
          exact ⟨v', rfl, hk.add (t := Th.row LT v' ((vws ds).map Prod.fst)) hb hmi.slice (fun k hk => .inl (hmi.lt k hk.2).1)⟩)
        have HZ := Lib.hid (fun W tt (hw : Kv C w W [v] (tt)) => lives10_any CR hw)
        generalize (vws ds).map Prod.fst = rms at HRC HRR
        go_upto_region 21 with (fail)
        refine wp_region_held_drew (S := fun W => Kv C w W [v] (Th.box B10 (.cells #[.slice A ds.length c] 28 (0, 0)) :: Th.vw (.slice A ds.length c) ds :: [])) (by kernel_rfl) (HK.out.later (below_drew _)) (fun hHeld => ?_)
        clear HK
        generalize World.drew _ = wd at hHeld ⊢
        refine wpAnyH_take (i := 0) (oi := ⟨some 106, _, _, _, _, _⟩) (v := ?vns0_0) rfl (by kernel_rfl) (by kernel_rfl) (by kernel_rfl) (fun _ _ _ h => h) (Or.inl ⟨by rfl, ?yns0_0⟩) hHeld ?rns0_0
        case yns0_0 =>
          intro wx hSx
          go_simp
          try with_reducible rfl
        try simp only [Act.put, List.setIfInBounds_toArray, List.set_cons_zero, List.set_cons_succ]
        refine wpAnyH_take (i := 2) (oi := ⟨some 108, _, _, _, _, _⟩) (v := ?vns0_2) rfl (by kernel_rfl) (by kernel_rfl) (by kernel_rfl) (fun _ _ _ h => h) (Or.inl ⟨by rfl, ?yns0_2⟩) hHeld ?rns0_2
        case yns0_2 =>
          intro wx hSx
          have z := cell_at (hSx.is List.mem_cons_self) 0
          have z0 : wx.cell? ⟨B10, 0, none⟩ = some (.slice A ds.length c) := z
          go_simp
          try with_reducible rfl
        try simp only [Act.put, List.setIfInBounds_toArray, List.set_cons_zero, List.set_cons_succ]
        refine wpAnyH_ready (rs := [1]) (by kernel_rfl) (by simp) ?_
        refine AllReadyH.cons (o := ⟨some 107, _, _, _, _, _⟩) rfl (fun K hK => ?_) AllReadyH.nil
        have HQc := Lib.hid (HRC.out wd _ hHeld)
        go_simp
        refine HQc.out.mono ?_
        rintro e Wn1 ⟨v1, rfl, hk⟩
        refine hK.out _ _ (hk.less (fun _ ht => List.mem_cons_of_mem _ ht)) (fun hHeld => ?_)
        clear hK K hHeld
        try simp only [Act.put, List.setIfInBounds_toArray, List.set_cons_zero, List.set_cons_succ]
        refine anyH_narrow (S' := fun W => Kv C w W [v] (Th.row LT v1 rms :: Th.box B10 (.cells #[.slice A ds.length c] 28 (0, 0)) :: Th.vw (.slice A ds.length c) ds :: [])) (fun _ h => h.less (fun _ ht => List.mem_cons_of_mem _ ht)) _ _ _ _ ?_
        have hHeld := hk
        clear hk HQc
        refine wpAnyH_ready (rs := [3]) (by kernel_rfl) (by simp) ?_
        refine AllReadyH.cons (o := ⟨some 109, _, _, _, _, _⟩) rfl (fun K hK => ?_) AllReadyH.nil
        have HQc := Lib.hid (HRR.out Wn1 _ hHeld (List.mem_cons_of_mem _ (List.mem_cons_of_mem _ List.mem_cons_self)))
        go_simp
        refine HQc.out.mono ?_
        rintro e Wn3 ⟨v3, rfl, hk⟩
        refine hK.out _ _ (hk.less (fun _ ht => List.mem_cons_of_mem _ ht)) (fun hHeld => ?_)
        clear hK K hHeld
        try simp only [Act.put, List.setIfInBounds_toArray, List.set_cons_zero, List.set_cons_succ]
        refine anyH_narrow (S' := fun W => Kv C w W [v] (Th.row LT v3 rms :: Th.row LT v1 rms :: Th.box B10 (.cells #[.slice A ds.length c] 28 (0, 0)) :: Th.vw (.slice A ds.length c) ds :: [])) (fun _ h => h.less (fun _ ht => List.mem_cons_of_mem _ ht)) _ _ _ _ ?_
        have hHeld := hk
        clear hk HQc
        refine wpAnyH_ready (rs := [4]) (by kernel_rfl) (by simp) ?_
        refine AllReadyH.cons (o := ⟨some 110, _, _, _, _, _⟩) rfl (fun K hK => ?_) AllReadyH.nil
        have HQc := Lib.hid (HST.out Wn3 _ v1 v3 rms hHeld (List.mem_cons_of_mem _ List.mem_cons_self) List.mem_cons_self)
        go_simp
        refine HQc.out.mono ?_
        rintro e Wn4 ⟨rfl, hk⟩
        refine hK.out _ _ hk (fun hHeld => ?_)
        clear hK K hk HQc
        try simp only [Act.put, List.setIfInBounds_toArray, List.set_cons_zero, List.set_cons_succ]
        refine wpAnyH_take (i := 5) (oi := ⟨some 111, _, _, _, _, _⟩) (v := ?vns3_5) rfl (by kernel_rfl) (by kernel_rfl) (by kernel_rfl) (fun _ _ _ h => h) (Or.inl ⟨by rfl, ?yns3_5⟩) hHeld ?rns3_5
        case yns3_5 =>
          intro wx hSx
          go_simp
          try with_reducible rfl
        try simp only [Act.put, List.setIfInBounds_toArray, List.set_cons_zero, List.set_cons_succ]
        refine wpAnyH_ready (rs := [6]) (by kernel_rfl) (by simp) ?_
        refine AllReadyH.cons (o := ⟨some 112, _, _, _, _, _⟩) rfl (fun K hK => ?_) AllReadyH.nil
        have HQc := Lib.hid (HZ.out Wn4 _ hHeld)
        go_simp
        refine HQc.out.mono ?_
        rintro e Wn6 ⟨rfl, hk⟩
        refine hK.out _ _ hk (fun hHeld => ?_)
        clear hK K hk HQc
        try simp only [Act.put, List.setIfInBounds_toArray, List.set_cons_zero, List.set_cons_succ]
        refine wpAnyH_take (i := 7) (oi := ⟨some 113, _, _, _, _, _⟩) (v := ?vns4_7) rfl (by kernel_rfl) (by kernel_rfl) (by kernel_rfl) (fun _ _ _ h => h) (Or.inl ⟨by rfl, ?yns4_7⟩) hHeld ?rns4_7
        case yns4_7 =>
          intro wx hSx
          go_simp
          try with_reducible rfl
        try simp only [Act.put, List.setIfInBounds_toArray, List.set_cons_zero, List.set_cons_succ]
        refine wpAnyH_take (i := 8) (oi := ⟨some 8, _, _, _, _, _⟩) (v := ?vns4_8) rfl (by kernel_rfl) (by kernel_rfl) (by kernel_rfl) (fun _ _ _ h => h) (Or.inl ⟨by rfl, ?yns4_8⟩) hHeld ?rns4_8
        case yns4_8 =>
          intro wx hSx
          go_simp
          try with_reducible rfl
        try simp only [Act.put, List.setIfInBounds_toArray, List.set_cons_zero, List.set_cons_succ]
        refine wpAnyH_done (by kernel_rfl) ?_ _
        have HKF := Lib.hid hHeld
        clear hHeld
        go_wp2_with fail
        go_ret
        exact ⟨rfl, HKF.out.below⟩
end
end Go.Proofs.YtjiecjpepiknmaaGreat
