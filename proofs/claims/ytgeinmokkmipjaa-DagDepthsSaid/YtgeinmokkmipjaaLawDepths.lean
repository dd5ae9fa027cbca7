/-
  DagDepths: a parent's depth is lesser, and an event's is the least that is greater.
-/
import Derived.Test.YtgeinmokkmipjaaDagMade
import Derived.Test.YtgeinmokkmipjaaDgD
import Derived.Test.YtgeinmokkmipjaaDagLives
import Derived.BigQuiet
namespace Go.Proofs.Ytgeinmokkmipjaa
set_option maxRecDepth 20000
open Go.RowKit
set_option linter.unusedVariables false
set_option linter.unusedSimpArgs false

def roomR : ByteArray := ⟨#[33, 114, 58, 115, 49]⟩
theorem roomR_room : namedB 33 roomR = true := by decide +kernel
theorem roomR_size : roomR.size ≤ maxLen := by decide
/-- A box of the statement's own beside a dag. -/
structure DqS (C : Dags) (w wr : World) (g B : Nat) (room : ByteArray) (l : List Ev) (cs : Array Value) (t : TypeId) : Prop where
  bd : BdS C w wr g room l
  box : wr.heap[B]? = some (.cells cs t (0, 0))
  no : ¬ C.own wr g B
section
variable {C : Dags} {w wr w2 : World} {g B : Nat} {room : ByteArray} {l l' : List Ev} {cs : Array Value} {t : TypeId}
theorem DqS.turn (h : DqS C w wr g B room l cs t) (hc : C.CD w2 g room l') (ht : TurnD C.own wr w2 g) : DqS C w w2 g B room l' cs t :=
  ⟨h.bd.turn hc ht, (ht.block B (smem_lt h.box) h.no).trans h.box, fun ho => by
    rcases ht.owns B ho with hh | hh
    · exact h.no hh
    · have := smem_lt h.box; omega⟩
theorem DqS.later (h : DqS C w wr g B room l cs t) (hb : Below wr.heap.size wr w2) : DqS C w w2 g B room l cs t :=
  ⟨h.bd.later hb, (hb.block B (smem_lt h.box)).trans h.box, fun ho => h.no ((C.keep h.bd.code hb.size (fun k hk => hb.block k (C.old h.bd.code hk))).2 B ho)⟩
theorem DqS.made (h : BdS C w wr g room l) (cs : Array Value) (t : TypeId) : DqS C w (wr.alloc (.cells cs t)) g wr.heap.size room l cs t :=
  ⟨h.later (below_new wr _), heap_alloc_new wr _, fun ho => by
    have h1 := (C.keep h.code (below_new wr (.cells cs t)).size (fun k hk => (below_new wr (.cells cs t)).block k (C.old h.code hk))).2 _ ho
    have := C.old h.code h1
    omega⟩
end
theorem less_cmp {p q : Po} (h : p.depth < q.depth) : cmpP p q = -1 := by
  unfold cmpP beforeP
  rw [decide_eq_true h]
  rfl

set_option maxHeartbeats 6400000 in
theorem dagDepths_walk (C : Dags) (v : Value) (gs : List GV) (w : World) (h : GsS w v gs) :
    Calls Try.prog 4 #[v] w fun e w' => e = .returned (.bool true) ∧ Below w.heap.size w w' := by
  have HMA := Lib.hid (refMade_any roomR v gs w h roomR_room)
  have HVA := Lib.hid (madeTo_row roomR_room (gps gs) (min gs.length 9) (by omega) (by rw [List.length_map]; omega))
  have HZ := Lib.hid (fun W => lives_any C W)
  obtain ⟨A0, c0, rfl, -⟩ := id h.1
  clear h
  unfold roomR at HMA
  go_enter Try.func4, Try.ntmps4
  go_wp2_with fail
  go_at_call 9
  refine HMA.out.mono ?_
  rintro e w1 ⟨v', xs, rfl, hes, hev, b1⟩
  have hxl : xs.length ≤ 9 := by
    rw [← evs_len, hev]
    have := HVA.out.2
    unfold roomR at this
    rw [this]; omega
  have HVL : Hid (Valid roomR (evs xs)) := Lib.hid (by rw [hev]; exact HVA.out.1.valid)
  obtain ⟨Av, cv, hv, hv1, hv2, -⟩ := id hes.1
  have hv3 : cv ≤ 9223372036854775807 := by unfold maxLen at hv2; omega
  subst hv
  have HE1 := Lib.hid hes
  have HB1 := Lib.hid b1
  have HB2 := Lib.hid (below_new w1 (.cells #[.string roomR, .slice Av xs.length cv] 30))
  have HW2 := Lib.hid (heap_alloc_new w1 (.cells #[.string roomR, .slice Av xs.length cv] 30))
  clear HMA hes hev b1 hv2 HVA
  unfold roomR at HB2 HW2
  go_upto_region 2 with (fail)
  generalize w1.alloc _ = w2 at HB2 HW2 ⊢
  have HE2 := Lib.hid (HE1.out.below HB2.out)
  generalize hB3 : w1.heap.size = B3 at HW2 ⊢
  have d0 : w2.cell? ⟨B3, 0, none⟩ = some (.string roomR) := cell_at HW2.out 0
  have d1 : w2.cell? ⟨B3, 1, none⟩ = some (.slice Av xs.length cv) := cell_at HW2.out 1
  have HBU := Lib.hid (build_any C roomR (.slice Av xs.length cv) xs w2 HE2.out HVL.out roomR_room roomR_size (by omega))
  go_wp2_with fail
  go_at_call 15
  refine HBU.out.mono ?_
  rintro e w3 ⟨g, rfl, hbd⟩
  have HD := Lib.hid hbd
  clear hbd HBU d0 d1
  go_wp2_with fail
  go_loopw [5] (fun i wr => ∃ (a : Nat), i = .int .i64 (a : Int) ∧ a ≤ xs.length ∧ Hid (BdS C w2 wr g roomR (evs xs))) (fun i _ => xs.length - (intOf i).toNat)
  case atStart => exact ⟨0, rfl, Nat.zero_le _, HD⟩
  case round =>
    obtain ⟨a, rfl, ha, HDR⟩ := hrel
    clear HD
    have d1 : wr.cell? ⟨B3, 1, none⟩ = some (.slice Av xs.length cv) := (HDR.out.below.cell (p := ⟨B3, 1, none⟩) (smem_lt HW2.out)).trans (cell_at HW2.out 1)
    by_cases hlt : a < xs.length
    · have q1 : decide ((a : Int) < (xs.length : Int)) = true := decide_eq_true (by omega)
      have hx : xs[a]? = some xs[a] := List.getElem?_eq_getElem hlt
      generalize xs[a] = x at hx
      have HX := Lib.hid hx
      have hxe : (evs xs)[a]? = some x.ev := by rw [List.getElem?_map, hx]; rfl
      have HME := Lib.hid (List.mem_of_getElem? hxe)
      have HXM := Lib.hid (HE2.out.2 x (List.mem_of_getElem? hx))
      have HERR := Lib.hid (err_zero (HVL.out a x.ev hxe))
      obtain ⟨bx, ox, rfl, hbx, hrx⟩ := ev_at HE2.out hx
      have hrc := ev_cells hrx
      have HRC := Lib.hid hrc
      have x0 : wr.cell? ⟨bx, ox + a * 6, none⟩ = some (.string x.ev.id) := (HDR.out.below.cell (p := ⟨bx, ox + a * 6, none⟩) hbx).trans hrc.1
      have hix := index_any (P := Try.prog) knV (by decide) (b := bx) (off := ox) (cap := cv) hlt
      simp only [LV] at hix
      have HPO := Lib.hid (C.position x.ev.id HDR.out.code (by rw [evs_len]; omega) HXM.out.2.1)
      have HHE : Hid (hasE (evs xs) x.ev.id = true) := Lib.hid (has_iff.2 ⟨x.ev, HME.out, rfl⟩)
      clear hx hxe hrx hrc
      go_wp2_with fail
      go_at_call 16
      refine HPO.out.mono ?_
      rintro e w4 ⟨p, rfl, hp, hcd, htu⟩
      obtain rfl := hp HHE.out
      replace HDR := Lib.hid (HDR.out.turn hcd htu)
      unfold Po.val posL
      have HQ := Lib.hid (DqS.made HDR.out #[.int .i64 ((depthL (evs xs) x.ev.id : Nat) : Int), .string x.ev.id] 39)
      clear hp hcd htu HPO x0 d1
      go_upto_region 9 with (fail)
      generalize w4.alloc _ = w5 at HQ ⊢
      generalize w4.heap.size = B6 at HQ ⊢
      have hpp : x.ev.parents.length ≤ x.cap ∧ x.cap ≤ 9223372036854775807 := by
        obtain ⟨_, _, he, h5, hm, _⟩ := id HXM.out.1
        injection he with _ he2 he3
        unfold maxLen at hm
        omega
      have HDEP : Hid (dpTo (evs xs) x.ev.parents x.ev.parents.length = depthL (evs xs) x.ev.id) := Lib.hid (by
        rw [depth_rec HVL.out HME.out]
        unfold dpTo
        rw [List.take_length])
      have HLE : Hid (∀ k, depthL (evs xs) k ≤ 9) := Lib.hid (fun k => Nat.le_trans (depthL_le _ k) (by rw [evs_len]; exact hxl))
      go_wp2_with fail
      go_loopw [8, 9] (fun u k wr => ∃ (c : Nat), u = .int .i64 ((dpTo (evs xs) x.ev.parents c : Nat) : Int) ∧ k = .int .i64 (c : Int) ∧ c ≤ x.ev.parents.length ∧ Hid (DqS C w2 wr g B6 roomR (evs xs) #[.int .i64 ((depthL (evs xs) x.ev.id : Nat) : Int), .string x.ev.id] 39)) (fun _ k _ => x.ev.parents.length - (intOf k).toNat)
      case atStart => exact ⟨0, rfl, rfl, Nat.zero_le _, HQ⟩
      case round =>
        obtain ⟨c, rfl, rfl, hc, HQR⟩ := hrel
        clear HQ HDR
        have d1 : wr.cell? ⟨B3, 1, none⟩ = some (.slice (some ⟨bx, ox, none⟩) xs.length cv) := (HQR.out.bd.below.cell (p := ⟨B3, 1, none⟩) (smem_lt HW2.out)).trans (cell_at HW2.out 1)
        have x2 : wr.cell? ⟨bx, ox + a * 6 + 2, none⟩ = some (.slice x.A x.ev.parents.length x.cap) := (HQR.out.bd.below.cell (p := ⟨bx, ox + a * 6 + 2, none⟩) hbx).trans HRC.out.2.2.1
        by_cases hcl : c < x.ev.parents.length
        · have q2 : decide ((c : Int) < (x.ev.parents.length : Int)) = true := decide_eq_true (by omega)
          have hp : x.ev.parents[c]? = some x.ev.parents[c] := List.getElem?_eq_getElem hcl
          generalize x.ev.parents[c] = p at hp
          have hpm := List.mem_of_getElem? hp
          have HPO := Lib.hid (C.position p HQR.out.bd.code (by rw [evs_len]; omega) (HXM.out.2.2.2.2.2.1 p hpm))
          have HHP : Hid (hasE (evs xs) p = true) := Lib.hid (by
            obtain ⟨y, hy, hye⟩ := has_iff.1 (HERR.out.2.2.2.1 p hpm)
            exact has_iff.2 ⟨y, List.mem_of_mem_take hy, hye⟩)
          have hless := depth_less HVL.out HME.out hpm
          have HTS := Lib.hid (dpTo_succ (l := evs xs) hp)
          have hm2 := dpTo_le HLE.out x.ev.parents c
          have hat := HXM.out.1
          unfold EvV.pv at hat
          obtain ⟨bp, op, hA, hbp, hcp⟩ := text_at hat hp
          have hip := index_any (P := Try.prog) knT (by decide) (b := bp) (off := op) (cap := x.cap) hcl
          simp only [LT] at hip
          rw [Nat.mul_one] at hip
          have e3 : wr.cell? ⟨bp, op + c, none⟩ = some (.string p) := (HQR.out.bd.below.cell (p := ⟨bp, op + c, none⟩) hbp).trans hcp
          rw [hA] at x2
          clear hp hpm hat hcp
          go_wp2_with fail
          go_at_call 16
          refine HPO.out.mono ?_
          rintro e w6 ⟨q, rfl, hq, hcd, htu⟩
          obtain rfl := hq HHP.out
          rw [HHP.out]
          replace HQR := Lib.hid (HQR.out.turn hcd htu)
          unfold Po.val posL
          have HCM := Lib.hid (fun W => C.compare (w := W) ⟨((depthL (evs xs) p : Nat) : Int), p⟩ ⟨((depthL (evs xs) x.ev.id : Nat) : Int), x.ev.id⟩)
          unfold Po.val at HCM
          rw [less_cmp (show ((depthL (evs xs) p : Nat) : Int) < ((depthL (evs xs) x.ev.id : Nat) : Int) by omega)] at HCM
          have hdp := HLE.out p
          have hdx := HLE.out x.ev.id
          generalize dpTo (evs xs) x.ev.parents c = m at HTS hm2 ⊢
          generalize depthL (evs xs) p = dq at HTS hless HCM hdp ⊢
          have HBX := Lib.hid (heap_alloc_new w6 (.cells #[.int .i64 (dq : Int), .string p] 39))
          have HQ7 := Lib.hid (HQR.out.later (below_new w6 (.cells #[.int .i64 (dq : Int), .string p] 39)))
          clear hq hcd htu HPO e3 d1 x2 HQR
          go_upto_region 14 with (fail)
          generalize w6.alloc _ = w7 at HBX HQ7 ⊢
          generalize w6.heap.size = B10 at HBX ⊢
          have s0 : w7.cell? ⟨B10, 0, none⟩ = some (.int .i64 (dq : Int)) := cell_at HBX.out 0
          have s1 : w7.cell? ⟨B10, 1, none⟩ = some (.string p) := cell_at HBX.out 1
          have r0 : w7.cell? ⟨B6, 0, none⟩ = some (.int .i64 ((depthL (evs xs) x.ev.id : Nat) : Int)) := cell_at HQ7.out.box 0
          have r1 : w7.cell? ⟨B6, 1, none⟩ = some (.string x.ev.id) := cell_at HQ7.out.box 1
          have q3 : decide (((depthL (evs xs) x.ev.id : Nat) : Int) ≤ (dq : Int)) = false := decide_eq_false (by omega)
          have q3' : decide (depthL (evs xs) x.ev.id ≤ dq) = false := decide_eq_false (by omega)
          go_wp2_with fail
          go_at_call 17
          refine (HCM.out _).mono ?_
          rintro e w8 ⟨rfl, b8⟩
          have HQ8 := Lib.hid (HQ7.out.later b8)
          have s0' : w8.cell? ⟨B10, 0, none⟩ = some (.int .i64 (dq : Int)) := (b8.cell (p := ⟨B10, 0, none⟩) (smem_lt HBX.out)).trans s0
          clear s0 s1 r0 r1 b8
          go_wp2_with fail
          refine ⟨⟨c + 1, by rw [HTS.out]; congr 1; omega, by go_num, by omega, HQ8⟩, ?_⟩
          simp [intOf]; omega
        · have q2 : decide ((c : Int) < (x.ev.parents.length : Int)) = false := decide_eq_false (by omega)
          obtain rfl : c = x.ev.parents.length := by omega
          rw [HDEP.out]
          have r0 : wr.cell? ⟨B6, 0, none⟩ = some (.int .i64 ((depthL (evs xs) x.ev.id : Nat) : Int)) := cell_at HQR.out.box 0
          have r1 : wr.cell? ⟨B6, 1, none⟩ = some (.string x.ev.id) := cell_at HQR.out.box 1
          have x0 : wr.cell? ⟨bx, ox + a * 6, none⟩ = some (.string x.ev.id) := (HQR.out.bd.below.cell (p := ⟨bx, ox + a * 6, none⟩) hbx).trans HRC.out.1
          have q4 : (((depthL (evs xs) x.ev.id : Nat) : Int) != ((depthL (evs xs) x.ev.id : Nat) : Int)) = false := bne_self_eq_false _
          have q5 : (x.ev.id.toList == x.ev.id.toList) = true := beq_self_eq_true _
          go_upto_region 17 with (fail)
          go_quiet (fail)
          have HQ9 := Lib.hid (HQR.out.bd.later (w2 := wr.drewN nq) ⟨rfl, rfl, rfl, Nat.le_refl _, fun _ _ => rfl⟩)
          clear r0 r1 x0 d1 x2 HQR
          generalize wr.drewN nq = w9 at HQ9 ⊢
          go_wp2_with fail
          refine ⟨⟨a + 1, by go_num, by omega, HQ9⟩, ?_⟩
          simp [intOf]; omega
    · have q1 : decide ((a : Int) < (xs.length : Int)) = false := decide_eq_false (by omega)
      have hw12 := HB1.out.size
      have HB3 := Lib.hid (HB1.out.trans (HB2.out.mono hw12))
      have HB4 := Lib.hid (HB3.out.trans (HDR.out.below.mono HB3.out.size))
      go_wp2_with fail
      go_at_call 14
      refine (HZ.out _).mono ?_
      rintro e w9 ⟨rfl, b9⟩
      go_wp2_with fail
      go_ret
      exact ⟨rfl, HB4.out.trans (b9.mono HB4.out.size)⟩
end Go.Proofs.Ytgeinmokkmipjaa
