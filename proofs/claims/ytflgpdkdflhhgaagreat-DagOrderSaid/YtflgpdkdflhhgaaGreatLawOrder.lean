/-
  DagOrder: in whatever order the events come, the dag is the same.
-/
import Derived.Test.YtflgpdkdflhhgaaGreatLawA
import Derived.Test.YtflgpdkdflhhgaaGreatOrdP
import Derived.BigQuiet
import Derived.Deep.CutBlock
namespace Go.Proofs.YtflgpdkdflhhgaaGreat
set_option maxRecDepth 20000
open Go.RowKit
set_option linter.unusedVariables false
set_option linter.unusedSimpArgs false
/-- While events come: all of the dag is new since w, and it has some of the list's events. -/
structure OrS (C : Dags) (w wr : World) (g : Nat) (L l : List Ev) : Prop where
  bd : BdS C w wr g roomR l
  part : PartL roomR L l
section
variable {C : Dags} {w wr w2 : World} {g : Nat} {L l : List Ev} {e : Ev}
theorem OrS.add (h : OrS C w wr g L l) (he : e ∈ L) (hc : C.CD w2 g roomR (addA roomR l e)) (ht : TurnD C.own wr w2 g) : OrS C w w2 g L (addA roomR l e) := ⟨h.bd.turn hc ht, h.part.add he⟩
theorem OrS.later (h : OrS C w wr g L l) (hb : Below wr.heap.size wr w2) : OrS C w w2 g L l := ⟨h.bd.later hb, h.part⟩
end

set_option maxHeartbeats 6400000 in
theorem dagOrder_walk (C : Dags) (CA : DagAlls C) (CR : DagRms C) (CL : DagLns C) (CH : DagHds C) (v : Value) (gs : List GV) (vo : Value) (os : List Int) (w : World) (h : GsS w v gs) (ho : LI.Slice w vo os) (hob : ∀ o ∈ os, -9223372036854775808 ≤ o ∧ o ≤ 9223372036854775807) :
    Calls Tryz.prog 4 #[v, vo] w fun e w' => e = .returned (.bool true) ∧ Below w.heap.size w w' := by
  have HMA := Lib.hid (refMade_any roomR v gs w h roomR_room)
  have HVA := Lib.hid (madeTo_row roomR_room (gps gs) (min gs.length 9) (by omega) (by rw [List.length_map]; omega))
  have HZ := Lib.hid (fun W => lives_any C W)
  obtain ⟨A0, c0, rfl, -⟩ := id h.1
  obtain ⟨A1, c1, rfl, ho1, ho2, -⟩ := id ho
  have hoc : c1 ≤ 9223372036854775807 := by unfold maxLen at ho2; omega
  have HO := Lib.hid ho
  have HOB := Lib.hid hob
  clear h ho hob ho2
  unfold roomR at HMA
  go_enter Tryz.func4, Tryz.ntmps4
  go_upto_region 1 with (fail)
  go_wp2_with fail
  go_at_call 6
  refine HMA.out.mono ?_
  rintro e w1 ⟨v', xs, rfl, hes, hev, b1, hfp⟩
  have hxl : xs.length ≤ 9 := by
    rw [← evs_len, hev]
    have := HVA.out.2
    unfold roomR at this
    rw [this]; omega
  have HVL : Hid (Valid roomR (evs xs)) := Lib.hid (by rw [hev]; exact HVA.out.1.valid)
  obtain ⟨Av, cv, hv, hv1, hv2, -⟩ := id hes.1
  have hv3 : cv ≤ 9223372036854775807 := by unfold maxLen at hv2; omega
  subst hv
  have HE1 := Lib.hid hes
  have HB2 := Lib.hid (below_new w1 (.cells #[.string roomR, .slice Av xs.length cv] 26))
  have HW2 := Lib.hid (heap_alloc_new w1 (.cells #[.string roomR, .slice Av xs.length cv] 26))
  have HB1 := Lib.hid b1
  clear HMA hes hev b1 hv2 HVA hfp
  unfold roomR at HB2 HW2
  go_upto_region 2 with (fail)
  generalize w1.alloc _ = w2 at HB2 HW2 ⊢
  have HE2 := Lib.hid (HE1.out.below HB2.out)
  replace HB1 := Lib.hid (HB1.out.trans (HB2.out.mono HB1.out.size))
  generalize hB5 : w1.heap.size = B5 at HW2 ⊢
  have d0 : w2.cell? ⟨B5, 0, none⟩ = some (.string roomR) := cell_at HW2.out 0
  go_wp2_with fail
  go_at_call 13
  refine (C.new w2 roomR roomR_size roomR_room).mono ?_
  rintro e w3 ⟨g, rfl, hc, hb3, hf⟩
  have HS : Hid (OrS C w2 w3 g (evs xs) []) := Lib.hid ⟨⟨hc, hb3, hf⟩, PartL.nil _ _⟩
  have HO2 := Lib.hid (HO.out.below HB1.out)
  clear hc hb3 hf d0 HE1 HB2 HO
  go_upto_block 0 with (fail)
  go_cut [7] (fun s7 wx => Hid (∃ l, OrS C w2 wx g (evs xs) l ∧ l.length ≤ 12))
  case first =>
    go_wp2_with fail
    go_loopw [7] (fun i wr => ∃ a : Nat, i = .int .i64 (a : Int) ∧ a ≤ os.length ∧ a ≤ 12 ∧ Hid (∃ l, OrS C w2 wr g (evs xs) l ∧ l.length ≤ a)) (fun i _ => os.length - (intOf i).toNat)
    case atStart => exact ⟨0, rfl, Nat.zero_le _, Nat.zero_le _, Lib.hid ⟨[], HS.out, Nat.le_refl _⟩⟩
    case round =>
      obtain ⟨a, rfl, ha, ha2, HL⟩ := hrel
      obtain ⟨l, hor, hll⟩ := HL.out
      have HR := Lib.hid hor
      clear HL hor HS
      have HBW := Lib.hid ((HR.out.bd.below.block B5 (smem_lt HW2.out)).trans HW2.out)
      have d1 : wr.cell? ⟨B5, 1, none⟩ = some (.slice Av xs.length cv) := cell_at HBW.out 1
      by_cases h1 : a < os.length
      · have q1 : decide ((a : Int) < (os.length : Int)) = true := decide_eq_true (by omega)
        by_cases h2 : a < 12
        · have q2 : decide ((a : Int) < 12) = true := decide_eq_true (by omega)
          by_cases h3 : 0 < xs.length
          · have q3 : decide ((0 : Int) < (xs.length : Int)) = true := decide_eq_true (by omega)
            have ho : os[a]? = some os[a] := List.getElem?_eq_getElem h1
            generalize os[a] = o at ho
            have hob := HOB.out o (List.mem_of_getElem? ho)
            obtain ⟨b1, f1, rfl, hb1, hr1⟩ := HO2.out.at ho
            have hi1 := index_any (P := Tryz.prog) knI (by decide) (b := b1) (off := f1) (cap := c1) h1
            have HC1 : Hid (w2.cell? ⟨b1, f1 + a, none⟩ = some (.int .i64 o)) := Lib.hid (by have := hr1 0 _ rfl; simpa only [LI, Nat.mul_one, Nat.add_zero] using this)
            simp only [LI] at hi1
            have hal := aroundN_lt o h3
            have HAR := Lib.hid (fun W => around_any o (xs.length : Int) W hob.1 hob.2 (by omega) (by omega))
            rw [around_nat o h3] at HAR
            generalize aroundN o (xs.length : Int) = m at hal HAR
            have hx : xs[m]? = some xs[m] := List.getElem?_eq_getElem hal
            generalize xs[m] = x at hx
            have HX0 := Lib.hid (HE2.out.2 x (List.mem_of_getElem? hx))
            have HXM : Hid (x.ev ∈ evs xs) := Lib.hid (List.mem_of_getElem? (evs_get hx))
            obtain ⟨b2, f2, rfl, hb2, hr2⟩ := ev_at HE2.out hx
            have hi2 := index_any (P := Tryz.prog) knV (by decide) (b := b2) (off := f2) (cap := cv) hal
            simp only [LV] at hi2
            have HC2 := Lib.hid hr2
            clear ho hr1 hx hr2
            go_upto_region 8 with (fail)
            go_cut [8] from 19 to 59 (fun s8 wx => ∃ B8, s8 = .pointer (some ⟨B8, 0, none⟩) ∧ Hid (Below wr.heap.size wr wx ∧ wx.heap[B8]? = some (.cells #[.string x.ev.id, .string x.ev.room, .slice x.A x.ev.parents.length x.cap, .string x.ev.thread, .string x.ev.user, .int .i64 x.ev.does] 33 (0, 0))))
            case first =>
              have HW0 : Hid (Below w2.heap.size w2 wr) := Lib.hid HR.out.bd.below
              refine wp_region_held_drew (S := fun w' => Below wr.heap.size wr w') (by kernel_rfl) (Below.refl _ _).drew (fun hHeld => ?_)
              have HBS : Hid (∀ W, Below wr.heap.size wr W → W.heap[B5]? = some (.cells #[.string roomR, .slice (some ⟨b2, f2, none⟩) xs.length cv] 26 (0, 0))) := Lib.hid (fun W h => (h.block B5 (smem_lt HBW.out)).trans HBW.out)
              have HCS : Hid (∀ W, Below wr.heap.size wr W → W.cell? ⟨b1, f1 + a, none⟩ = some (.int .i64 o)) := Lib.hid (fun W h => (h.cell (p := ⟨b1, f1 + a, none⟩) (Nat.lt_of_lt_of_le hb1 HW0.out.size)).trans ((HW0.out.cell (p := ⟨b1, f1 + a, none⟩) hb1).trans HC1.out))
              have HVS : Hid (∀ W, Below wr.heap.size wr W → W.rangeAt b2 (f2 + m * 6) x.cells) := Lib.hid (fun W h j u hu => (h.cell (p := ⟨b2, f2 + m * 6 + j, none⟩) (Nat.lt_of_lt_of_le hb2 HW0.out.size)).trans ((HW0.out.cell (p := ⟨b2, f2 + m * 6 + j, none⟩) hb2).trans (HC2.out j u hu)))
              clear HR d1 HBW
              generalize wr.drew = wd at hHeld ⊢
              refine wpAnyH_take (i := 0) (oi := ⟨some 35, _, _, _, _, _⟩) (v := ?va0) rfl (by kernel_rfl) (by kernel_rfl) (by kernel_rfl) (fun _ _ _ h => h) (Or.inl ⟨by rfl, ?ya0⟩) hHeld ?ra0
              case ya0 =>
                intro wx hSx
                go_simp
                try with_reducible rfl
              try simp only [Act.put, List.setIfInBounds_toArray, List.set_cons_zero, List.set_cons_succ]
              refine wpAnyH_take (i := 1) (oi := ⟨some 36, _, _, _, _, _⟩) (v := ?va1) rfl (by kernel_rfl) (by kernel_rfl) (by kernel_rfl) (fun _ _ _ h => h) (Or.inl ⟨by rfl, ?ya1⟩) hHeld ?ra1
              case ya1 =>
                intro wx hSx
                have p1 := cell_at (HBS.out _ hSx) 1
                simp only [List.getElem?_toArray, List.getElem?_cons_succ, List.getElem?_cons_zero] at p1
                go_simp
                try with_reducible rfl
              try simp only [Act.put, List.setIfInBounds_toArray, List.set_cons_zero, List.set_cons_succ]
              refine wpAnyH_take (i := 2) (oi := ⟨some 37, _, _, _, _, _⟩) (v := ?va2) rfl (by kernel_rfl) (by kernel_rfl) (by kernel_rfl) (fun _ _ _ h => h) (Or.inl ⟨by rfl, ?ya2⟩) hHeld ?ra2
              case ya2 =>
                intro wx hSx
                go_simp
                try with_reducible rfl
              try simp only [Act.put, List.setIfInBounds_toArray, List.set_cons_zero, List.set_cons_succ]
              refine wpAnyH_take (i := 3) (oi := ⟨some 38, _, _, _, _, _⟩) (v := ?va3) rfl (by kernel_rfl) (by kernel_rfl) (by kernel_rfl) (fun _ _ _ h => h) (Or.inl ⟨by rfl, ?ya3⟩) hHeld ?ra3
              case ya3 =>
                intro wx hSx
                go_simp
                try with_reducible rfl
              try simp only [Act.put, List.setIfInBounds_toArray, List.set_cons_zero, List.set_cons_succ]
              refine wpAnyH_take (i := 4) (oi := ⟨some 39, _, _, _, _, _⟩) (v := ?va4) rfl (by kernel_rfl) (by kernel_rfl) (by kernel_rfl) (fun _ _ _ h => h) (Or.inl ⟨by rfl, ?ya4⟩) hHeld ?ra4
              case ya4 =>
                intro wx hSx
                go_simp
                try with_reducible rfl
              try simp only [Act.put, List.setIfInBounds_toArray, List.set_cons_zero, List.set_cons_succ]
              refine wpAnyH_take (i := 5) (oi := ⟨some 40, _, _, _, _, _⟩) (v := ?va5) rfl (by kernel_rfl) (by kernel_rfl) (by kernel_rfl) (fun _ _ _ h => h) (Or.inl ⟨by rfl, ?ya5⟩) hHeld ?ra5
              case ya5 =>
                intro wx hSx
                have z := HCS.out _ hSx
                go_simp
                try with_reducible rfl
              try simp only [Act.put, List.setIfInBounds_toArray, List.set_cons_zero, List.set_cons_succ]
              refine wpAnyH_take (i := 6) (oi := ⟨some 41, _, _, _, _, _⟩) (v := ?va6) rfl (by kernel_rfl) (by kernel_rfl) (by kernel_rfl) (fun _ _ _ h => h) (Or.inl ⟨by rfl, ?ya6⟩) hHeld ?ra6
              case ya6 =>
                intro wx hSx
                go_simp
                try with_reducible rfl
              try simp only [Act.put, List.setIfInBounds_toArray, List.set_cons_zero, List.set_cons_succ]
              refine wpAnyH_take (i := 7) (oi := ⟨some 42, _, _, _, _, _⟩) (v := ?va7) rfl (by kernel_rfl) (by kernel_rfl) (by kernel_rfl) (fun _ _ _ h => h) (Or.inl ⟨by rfl, ?ya7⟩) hHeld ?ra7
              case ya7 =>
                intro wx hSx
                have p1 := cell_at (HBS.out _ hSx) 1
                simp only [List.getElem?_toArray, List.getElem?_cons_succ, List.getElem?_cons_zero] at p1
                go_simp
                try with_reducible rfl
              try simp only [Act.put, List.setIfInBounds_toArray, List.set_cons_zero, List.set_cons_succ]
              refine wpAnyH_take (i := 8) (oi := ⟨some 43, _, _, _, _, _⟩) (v := ?va8) rfl (by kernel_rfl) (by kernel_rfl) (by kernel_rfl) (fun _ _ _ h => h) (Or.inl ⟨by rfl, ?ya8⟩) hHeld ?ra8
              case ya8 =>
                intro wx hSx
                go_simp
                try with_reducible rfl
              try simp only [Act.put, List.setIfInBounds_toArray, List.set_cons_zero, List.set_cons_succ]
              refine anyH_asks (i := 9) (oi := ⟨some 44, _, _, _, _, _⟩) (v := .int .i64 (m : Int)) rfl (by kernel_rfl) (by kernel_rfl) (by kernel_rfl) (fun _ _ _ h => h) ⟨by rfl, fun wx hSx => ⟨_, _, ?ea9, HAR.out _⟩⟩ hHeld ?ra9
              case ea9 => go_simp
              try simp only [Act.put, List.setIfInBounds_toArray, List.set_cons_zero, List.set_cons_succ]
              refine wpAnyH_take (i := 10) (oi := ⟨some 45, _, _, _, _, _⟩) (v := ?va10) rfl (by kernel_rfl) (by kernel_rfl) (by kernel_rfl) (fun _ _ _ h => h) (Or.inl ⟨by rfl, ?ya10⟩) hHeld ?ra10
              case ya10 =>
                intro wx hSx
                go_simp
                try with_reducible rfl
              try simp only [Act.put, List.setIfInBounds_toArray, List.set_cons_zero, List.set_cons_succ]
              refine wpAnyH_take (i := 11) (oi := ⟨some 46, _, _, _, _, _⟩) (v := ?va11) rfl (by kernel_rfl) (by kernel_rfl) (by kernel_rfl) (fun _ _ _ h => h) (Or.inl ⟨by rfl, ?ya11⟩) hHeld ?ra11
              case ya11 =>
                intro wx hSx
                obtain ⟨z0, z1, z2, z3, z4, z5⟩ := ev_cells (HVS.out _ hSx)
                unfold EvV.pv at z2
                go_simp
                try with_reducible rfl
              try simp only [Act.put, List.setIfInBounds_toArray, List.set_cons_zero, List.set_cons_succ]
              refine wpAnyH_ready (rs := [12]) (by kernel_rfl) (by simp) ?_
              refine AllReadyH.cons (o := ⟨some 8, _, _, _, _, _⟩) rfl (fun K hK => ?_) AllReadyH.nil
              have hbn := below_new wd (.cells #[.string ⟨#[]⟩, .string ⟨#[]⟩, .slice none 0 0, .string ⟨#[]⟩, .string ⟨#[]⟩, .int .i64 0] 33)
              have hnw := heap_alloc_new wd (.cells #[.string ⟨#[]⟩, .string ⟨#[]⟩, .slice none 0 0, .string ⟨#[]⟩, .string ⟨#[]⟩, .int .i64 0] 33)
              have hlo7 := hHeld.size
              go_simp
              refine hK.out _ _ (hHeld.trans (hbn.mono hHeld.size)) (fun hHeld => ?_)
              clear hK K hbn
              try simp only [Act.put, List.setIfInBounds_toArray, List.set_cons_zero, List.set_cons_succ]
              generalize wd.alloc _ = we at hHeld hnw ⊢
              generalize wd.heap.size = B8 at hnw hlo7 ⊢
              refine wpAnyH_ready (rs := [13]) (by kernel_rfl) (by simp) ?_
              refine AllReadyH.cons (o := ⟨none, _, _, _, _, _⟩) rfl (fun K hK => ?_) AllReadyH.nil
              have y0 : we.cell? ⟨B8, 0, none⟩ = some (.string ⟨#[]⟩) := cell_at hnw 0
              have z0 : we.frozen? ⟨B8, 0, none⟩ = false := free_at hnw 0
              have y1 : we.cell? ⟨B8, 1, none⟩ = some (.string ⟨#[]⟩) := cell_at hnw 1
              have z1 : we.frozen? ⟨B8, 1, none⟩ = false := free_at hnw 1
              have y2 : we.cell? ⟨B8, 2, none⟩ = some (.slice none 0 0) := cell_at hnw 2
              have z2 : we.frozen? ⟨B8, 2, none⟩ = false := free_at hnw 2
              have y3 : we.cell? ⟨B8, 3, none⟩ = some (.string ⟨#[]⟩) := cell_at hnw 3
              have z3 : we.frozen? ⟨B8, 3, none⟩ = false := free_at hnw 3
              have y4 : we.cell? ⟨B8, 4, none⟩ = some (.string ⟨#[]⟩) := cell_at hnw 4
              have z4 : we.frozen? ⟨B8, 4, none⟩ = false := free_at hnw 4
              have y5 : we.cell? ⟨B8, 5, none⟩ = some (.int .i64 0) := cell_at hnw 5
              have z5 : we.frozen? ⟨B8, 5, none⟩ = false := free_at hnw 5
              have HAN := evk_stored hHeld hlo7 hnw x _ rfl
              simp only [World.setCells] at HAN
              go_simp
              generalize World.setCell _ _ _ = w9 at HAN ⊢
              refine hK.out _ _ HAN.1 (fun hHeld => ?_)
              clear hK K
              try simp only [Act.put, List.setIfInBounds_toArray, List.set_cons_zero, List.set_cons_succ]
              refine wpAnyH_done (by kernel_rfl) ?_ _
              go_wp2_with fail
              go_meet
              exact ⟨B8, rfl, Lib.hid ⟨HAN.1, HAN.2.1⟩⟩
            case rest =>
              obtain ⟨B8, rfl, H8⟩ := hcut
              obtain ⟨h8, hbx⟩ := H8.out
              have HRC := Lib.hid (HR.out.later h8)
              have HBX := Lib.hid hbx
              clear H8 h8 hbx HR HBW d1 HAR
              have r0 := cell_at HBX.out 0
              have r1 := cell_at HBX.out 1
              have r2 := cell_at HBX.out 2
              have r3 := cell_at HBX.out 3
              have r4 := cell_at HBX.out 4
              have r5 := cell_at HBX.out 5
              simp only [List.getElem?_toArray, List.getElem?_cons_succ, List.getElem?_cons_zero] at r0 r1 r2 r3 r4 r5
              have HAD := Lib.hid (C.add x HRC.out.bd.code (by omega) (HX0.out.below HRC.out.bd.below))
              have HPE := HRC.out.part.err HVL.out HXM.out
              have HLA := Lib.hid (addA_len roomR l x.ev)
              unfold EvV.val EvV.pv at HAD
              generalize herr : errA roomR l x.ev = er at HAD HPE
              have HRR := Lib.hid herr
              clear herr
              go_wp2_with fail
              go_at_call 11
              refine HAD.out.mono ?_
              rintro e wa ⟨rfl, hca, hta⟩
              have HRA := Lib.hid (HRC.out.add HXM.out hca hta)
              clear hca hta HRC HAD HBX r0 r1 r2 r3 r4 r5 HRR
              rcases HPE with rfl | rfl | rfl
              all_goals
                go_wp2_with fail
                refine ⟨⟨a + 1, by go_num, by omega, by omega, Lib.hid ⟨_, HRA.out, by have := HLA.out; omega⟩⟩, ?_⟩
                simp [intOf]; omega
          · have q3 : decide ((0 : Int) < (xs.length : Int)) = false := decide_eq_false (by omega)
            go_wp2_with fail
            go_meet
            exact Lib.hid ⟨l, HR.out, by omega⟩
        · have q2 : decide ((a : Int) < 12) = false := decide_eq_false (by omega)
          go_wp2_with fail
          go_meet
          exact Lib.hid ⟨l, HR.out, by omega⟩
      · have q1 : decide ((a : Int) < (os.length : Int)) = false := decide_eq_false (by omega)
        go_wp2_with fail
        go_meet
        exact Lib.hid ⟨l, HR.out, by omega⟩
  case rest =>
    obtain ⟨l0, hor0, hll0⟩ := hcut.out
    have HR0 := Lib.hid hor0
    clear hcut hor0 HS
    go_wp2_with fail
    go_loopw [10] (fun i wr => ∃ r : Nat, i = .int .i64 (r : Int) ∧ r ≤ 9 ∧ Hid (∃ l, OrS C w2 wr g (evs xs) l ∧ l.length ≤ 12 + 9 * r ∧ ∀ x ∈ (evs xs).take r, x ∈ l)) (fun i _ => 9 - (intOf i).toNat)
    case atStart => exact ⟨0, rfl, Nat.zero_le _, Lib.hid ⟨l0, HR0.out, by omega, fun x hx => by simp at hx⟩⟩
    case round =>
      obtain ⟨r, rfl, hr9, HL⟩ := hrel
      obtain ⟨w0, hw0⟩ : ∃ w0, w0 = wr := ⟨_, rfl⟩
      subst hw0
      obtain ⟨l, hor, hll, hta⟩ := HL.out
      have HR := Lib.hid hor
      have HTA := Lib.hid hta
      clear HL hor hta HR0
      have HBW := Lib.hid ((HR.out.bd.below.block B5 (smem_lt HW2.out)).trans HW2.out)
      have d1 : w0.cell? ⟨B5, 1, none⟩ = some (.slice Av xs.length cv) := cell_at HBW.out 1
      by_cases h1 : r < 9
      · have q1 : decide ((r : Int) < 9) = true := decide_eq_true (by omega)
        have q2 : IntKind.i64.wrap ((xs.length : Int) - 1) = (xs.length : Int) - 1 := IntWalk.i64_in _ (by omega)
        go_wp2_with fail
        go_loopw [11] (fun i wr => ∃ (c : Nat) (z : Int), i = .int .i64 z ∧ z = (c : Int) - 1 ∧ c ≤ xs.length ∧ Hid (∃ l, OrS C w2 wr g (evs xs) l ∧ l.length ≤ 12 + 9 * r + (xs.length - c) ∧ (∀ x ∈ (evs xs).take r, x ∈ l) ∧ (c ≤ r → ∀ x ∈ (evs xs).take (r + 1), x ∈ l))) (fun i _ => (intOf i + 1).toNat)
        case atStart =>
          refine ⟨xs.length, _, rfl, rfl, Nat.le_refl _, Lib.hid ⟨l, HR.out, by omega, HTA.out, fun hc x hx => ?_⟩⟩
          rw [List.take_of_length_le (by rw [evs_len]; omega)] at hx
          exact HTA.out x (by rw [List.take_of_length_le (by rw [evs_len]; omega)]; exact hx)
        case round =>
          obtain ⟨c, z, rfl, hz, hcl, HL⟩ := hrel
          clear HR HTA HBW d1 hll
          obtain ⟨l, hor, hll, hta, htb⟩ := HL.out
          have HR := Lib.hid hor
          have HTA := Lib.hid hta
          have HTB := Lib.hid htb
          clear HL hor hta htb
          have HBW := Lib.hid ((HR.out.bd.below.block B5 (smem_lt HW2.out)).trans HW2.out)
          have d1 : wr.cell? ⟨B5, 1, none⟩ = some (.slice Av xs.length cv) := cell_at HBW.out 1
          by_cases h0 : 0 < c
          · obtain ⟨d, rfl⟩ : ∃ d, c = d + 1 := ⟨c - 1, by omega⟩
            obtain rfl : z = (d : Int) := by omega
            clear hz
            have q3 : decide ((0 : Int) ≤ (d : Int)) = true := decide_eq_true (by omega)
            have hdl : d < xs.length := by omega
            have q4 : IntKind.i64.wrap ((d : Int) - 1) = (d : Int) - 1 := IntWalk.i64_in _ (by omega)
            have hx : xs[d]? = some xs[d] := List.getElem?_eq_getElem hdl
            generalize xs[d] = x at hx
            have HX0 := Lib.hid (HE2.out.2 x (List.mem_of_getElem? hx))
            have HXD : Hid ((evs xs)[d]? = some x.ev) := Lib.hid (evs_get hx)
            have HXM : Hid (x.ev ∈ evs xs) := Lib.hid (List.mem_of_getElem? (evs_get hx))
            obtain ⟨b2, f2, rfl, hb2, hr2⟩ := ev_at HE2.out hx
            have hi2 := index_any (P := Tryz.prog) knV (by decide) (b := b2) (off := f2) (cap := cv) hdl
            simp only [LV] at hi2
            obtain ⟨e0, e1, e2, e3, e4, e5⟩ := ev_cells (w := wr) (fun j u hu => (HR.out.bd.below.cell (p := ⟨b2, f2 + d * 6 + j, none⟩) hb2).trans (hr2 j u hu))
            unfold EvV.pv at e2
            have HAD := Lib.hid (C.add x HR.out.bd.code (by omega) (HX0.out.below HR.out.bd.below))
            have HLA := Lib.hid (addA_len roomR l x.ev)
            have HT1 : Hid (∀ u ∈ (evs xs).take r, u ∈ addA roomR l x.ev) := Lib.hid (fun u hu => addA_sub _ _ _ _ (HTA.out u hu))
            have HT2 : Hid (d ≤ r → ∀ u ∈ (evs xs).take (r + 1), u ∈ addA roomR l x.ev) := Lib.hid (fun hd u hu => by
              by_cases hdr : d = r
              · subst hdr
                rw [List.take_add_one, HXD.out] at hu
                rcases List.mem_append.1 hu with hu | hu
                · exact HT1.out u hu
                · rw [show u = x.ev from by simpa using hu]
                  exact HR.out.part.turn HVL.out HXD.out HTA.out
              · exact addA_sub _ _ _ _ (HTB.out (by omega) u hu))
            unfold EvV.val EvV.pv at HAD
            clear hx hr2
            go_wp2_with fail
            go_at_call 11
            refine HAD.out.mono ?_
            rintro e wa ⟨rfl, hca, hta⟩
            have HRA := Lib.hid (HR.out.add HXM.out hca hta)
            clear hca hta HR HAD HBW d1 e0 e1 e2 e3 e4 e5
            go_wp2_with fail
            refine ⟨⟨d, _, by first | rfl | go_num, rfl, by omega, Lib.hid ⟨_, HRA.out, by have := HLA.out; omega, HT1.out, HT2.out⟩⟩, ?_⟩
            simp [intOf]
          · obtain rfl : c = 0 := by omega
            have q3 : decide ((0 : Int) ≤ z) = false := decide_eq_false (by omega)
            clear hz
            go_wp2_with fail
            refine ⟨⟨r + 1, by go_num, by omega, Lib.hid ⟨l, HR.out, by omega, HTB.out (Nat.zero_le _)⟩⟩, ?_⟩
            simp [intOf]; omega
      · have q1 : decide ((r : Int) < 9) = false := decide_eq_false (by omega)
        obtain rfl : r = 9 := by omega
        have HAL := Lib.hid (HR.out.part.alike HVL.out (fun x hx => HTA.out x (by rw [List.take_of_length_le (by rw [evs_len]; omega)]; exact hx)))
        have HKE := Lib.hid (HR.out.bd.kept HE2.out)
        have d0 : w0.cell? ⟨B5, 0, none⟩ = some (.string roomR) := cell_at HBW.out 0
        have HLK := Lib.hid (like_any C CA CR CL CH roomR w0 g l _ xs HR.out.bd.code HKE.out.1 HKE.out.2 HVL.out (by omega) HAL.out)
        go_wp2_with fail
        go_at_call 8
        refine HLK.out.mono ?_
        rintro e w9 ⟨rfl, hc9, ht9⟩
        have HD9 := Lib.hid (HR.out.bd.turn hc9 ht9)
        clear hc9 ht9 HR HBW d0 d1 HKE HLK
        go_wp2_with fail
        go_at_call 12
        refine (HZ.out _).mono ?_
        rintro e wb ⟨rfl, hbb⟩
        have HDB := Lib.hid (HD9.out.later hbb)
        go_wp2_with fail
        go_ret
        exact ⟨rfl, HB1.out.trans (HDB.out.below.mono HB1.out.size)⟩
end Go.Proofs.YtflgpdkdflhhgaaGreat
