/-
  DagAdds: what comes of events that are added, and whether each is.
-/
import Derived.Test.YtflgpdkdflhhgaaGreatLawA
import Derived.Test.YtflgpdkdflhhgaaGreatDagAdd2
import Derived.BigQuiet
import Derived.Deep.CutBlock
namespace Go.Proofs.YtflgpdkdflhhgaaGreat
set_option maxRecDepth 20000
open Go.RowKit
set_option linter.unusedVariables false
set_option linter.unusedSimpArgs false
/-- What the statement keeps: the dag, the document's list, its box. -/
structure AdS (C : Dags) (w wr : World) (g B : Nat) (v : Value) (xs : List EvV) : Prop where
  bd : BdS C w wr g roomR (evs xs)
  ek : EvsK C wr g v xs
  box : BoxK C wr g B (.cells #[.string roomR, v] 26 (0, 0))
  low : w.heap.size ≤ B
  far : ∀ z ∈ xs, ∀ k, footV z k → k ≠ B
section
variable {C : Dags} {w wr w2 W : World} {g B B10 : Nat} {v v' : Value} {xs xs' : List EvV} {y : EvV}
theorem AdS.turn (h : AdS C w wr g B v xs) (hc : C.CD w2 g roomR (evs xs)) (ht : TurnD C.own wr w2 g) : AdS C w w2 g B v xs :=
  ⟨h.bd.turn hc ht, h.ek.turn ht, h.box.turn ht, h.low, h.far⟩
theorem AdS.later (h : AdS C w wr g B v xs) (hb : Below wr.heap.size wr w2) : AdS C w w2 g B v xs := by
  obtain ⟨h1, h2, -⟩ := Dags.grow h.bd.code hb
  exact h.turn h1 h2
/-- The list does not lie in the box. -/
theorem evs_apart {r0 v0 : Value} {tt : TypeId} {ff : Nat × Nat} (h : EvsS wr v xs) (hb : wr.heap[B]? = some (.cells #[r0, v0] tt ff)) (far : ∀ z ∈ xs, ∀ k, footV z k → k ≠ B) {k : Nat} (hk : footE v xs k) : k ≠ B := by
  rcases hk with ⟨h0, hk⟩ | ⟨z, hz, hk⟩
  · rintro rfl
    obtain ⟨A, cap, rfl, -, -, -, h4⟩ := h.1
    obtain ⟨b, off, rfl, hl, hr⟩ := h4 h0
    have h5 : b = k := by simpa [Value.ownBlock] using hk
    subst h5
    cases xs with
    | nil => simp at h0
    | cons x t =>
      have h6 := hr 5 (.int .i64 x.ev.does) rfl
      rw [World.cell?, hb] at h6
      simp at h6
  · exact far z hz k hk
/-- A block that is none of the dag's, nor the list's, is written. -/
theorem AdS.write (h : AdS C w wr g B v xs) (hg : wr.grownBy W (some B10)) (ho : ¬ C.own wr g B10) (hlo : w.heap.size ≤ B10) (hB : B10 ≠ B) (hf : ∀ k, footE v xs k → k ≠ B10) (hl : B10 < wr.heap.size) : AdS C w W g B v xs := by
  have hbl : ∀ k, k < wr.heap.size → k ≠ B10 → W.heap[k]? = wr.heap[k]? := fun k hk hn => hg.block k hk (fun e => hn (by injection e))
  obtain ⟨hc, ho2⟩ := C.keep h.bd.code hg.size (fun k hk => hbl k (C.old h.bd.code hk) (fun e => ho (e ▸ hk)))
  refine ⟨⟨hc, h.bd.below.grown hg h.bd.below.size (fun k hk => by injection hk with hk; omega), fun k hk => h.bd.fresh k (ho2 k hk)⟩, ⟨h.ek.1.stay hg.size (fun k hk hfk => hbl k hk (hf k hfk)), fun k hk hok => h.ek.2 k hk (ho2 k hok)⟩, ⟨(hbl B (smem_lt h.box.1) (fun e => hB e.symm)).trans h.box.1, fun hok => h.box.2 (ho2 B hok)⟩, h.low, h.far⟩
theorem EvK.write {l : List Ev} (h : EvK C wr g y) (hc : C.CD wr g roomR l) (hg : wr.grownBy W (some B10)) (ho : ¬ C.own wr g B10) (hf : ∀ k, footV y k → k ≠ B10) : EvK C W g y := by
  have hbl : ∀ k, k < wr.heap.size → k ≠ B10 → W.heap[k]? = wr.heap[k]? := fun k hk hn => hg.block k hk (fun e => hn (by injection e))
  obtain ⟨hc2, ho2⟩ := C.keep hc hg.size (fun k hk => hbl k (C.old hc hk) (fun e => ho (e ▸ hk)))
  exact ⟨h.1.stay0 hg.size (fun k hk hfk => hbl k hk (hf k hfk)), fun k hk hok => h.2 k hk (ho2 k hok)⟩
/-- One event in its box, beside. -/
structure AeS (C : Dags) (w wr : World) (g B : Nat) (v : Value) (xs : List EvV) (B10 : Nat) (y : EvV) : Prop where
  ad : AdS C w wr g B v xs
  yk : EvK C wr g y
  eb : BoxK C wr g B10 (.cells #[.string y.ev.id, .string y.ev.room, .slice y.A y.ev.parents.length y.cap, .string y.ev.thread, .string y.ev.user, .int .i64 y.ev.does] 33 (0, 0))
  yf : ∀ k, footV y k → k ≠ B
theorem AeS.on (h : AeS C w wr g B v xs B10 y) (hc : C.CD w2 g roomR (evs xs)) (ht : TurnD C.own wr w2 g) : AeS C w w2 g B v xs B10 y := ⟨h.ad.turn hc ht, h.yk.turn ht, h.eb.turn ht, h.yf⟩
theorem AeS.later (h : AeS C w wr g B v xs B10 y) (hb : Below wr.heap.size wr w2) : AeS C w w2 g B v xs B10 y := by
  obtain ⟨h1, h2, -⟩ := Dags.grow h.ad.bd.code hb
  exact h.on h1 h2
/-- An event is stored in a box that is new since wb. -/
theorem AeS.stored {wb : World} (h : AdS C w wb g B v xs) (hb : Below wb.heap.size wb wr) (hlo : wb.heap.size ≤ B10) (hr : wr.heap[B10]? = some (.cells #[.string ⟨#[]⟩, .string ⟨#[]⟩, .slice none 0 0, .string ⟨#[]⟩, .string ⟨#[]⟩, .int .i64 0] 33 (0, 0))) (hy : y.at wr) (hf : ∀ k, footV y k → k ≠ B10) (hz : ∀ j, y.pv.ownBlock = some j → (∃ z ∈ xs, z.pv.ownBlock = some j ∧ z.ev.parents = y.ev.parents) ∨ wb.heap.size ≤ j) :
    ∀ W, W = wr.setCells B10 0 [.string y.ev.id, .string y.ev.room, .slice y.A y.ev.parents.length y.cap, .string y.ev.thread, .string y.ev.user, .int .i64 y.ev.does] → AeS C w W g B v xs B10 y := by
  rintro W rfl
  obtain ⟨-, z1, hg⟩ := evk_stored hb hlo hr y _ rfl
  obtain ⟨hc, ht, hnw⟩ := Dags.grow h.bd.code hb
  have ha := h.turn hc ht
  have ho : ¬ C.own wr g B10 := fun hh => by have := hnw B10 hh; omega
  have hB := smem_lt h.box.1
  have hyk := EvK.odd h.ek h.bd.code hb hy hz
  have hw := ha.write hg ho (by have := h.low; omega) (by omega) (fun k hk e => by have := h.ek.1.foot hk; omega) (smem_lt hr)
  have hbl : ∀ k, C.own (wr.setCells B10 0 [.string y.ev.id, .string y.ev.room, .slice y.A y.ev.parents.length y.cap, .string y.ev.thread, .string y.ev.user, .int .i64 y.ev.does]) g k → C.own wr g k := (C.keep hc hg.size (fun k hk => hg.block k (C.old hc hk) (fun e => by injection e with e; exact ho (e ▸ hk)))).2
  refine ⟨hw, hyk.write hc hg ho hf, ⟨z1, fun hh => ho (hbl _ hh)⟩, fun k hk e => ?_⟩
  rcases hz k hk.2 with ⟨z, hzm, hzk, hzp⟩ | hh
  · exact h.far z hzm k ⟨by rw [hzp]; exact hk.1, hzk⟩ e
  · omega
/-- What the document's Add tells lies beside, too. -/
theorem AeS.added (h : AeS C w wr g B v xs B10 y) (hb : Below wr.heap.size wr W) (he : EvsS W v' xs') (hx : xs' = xs ∨ xs' = xs ++ [y]) (hl : ∀ k, 0 < xs'.length → v'.ownBlock = some k → (0 < xs.length ∧ v.ownBlock = some k) ∨ wr.heap.size ≤ k) : EvsK C W g v' xs' ∧ ∀ z ∈ xs', ∀ k, footV z k → k ≠ B := by
  obtain ⟨hc, ht, hnw⟩ := Dags.grow h.ad.bd.code hb
  have hm : ∀ z ∈ xs', z ∈ xs ∨ z = y := fun z hz => by
    rcases hx with hx | hx
    · rw [hx] at hz; exact .inl hz
    · rw [hx] at hz
      rcases List.mem_append.1 hz with hz | hz
      · exact .inl hz
      · exact .inr (List.mem_singleton.1 hz)
  refine ⟨⟨he, fun k hk ho => ?_⟩, fun z hz k hk => ?_⟩
  · rcases hk with ⟨h0, hk⟩ | ⟨z, hz, hk⟩
    · rcases hl k h0 hk with hh | hh
      · exact (h.ad.ek.turn ht).2 k (.inl hh) ho
      · have := hnw k ho; omega
    · rcases hm z hz with hz | rfl
      · exact (h.ad.ek.turn ht).2 k (.inr ⟨z, hz, hk⟩) ho
      · exact (h.yk.turn ht).2 k hk ho
  · rcases hm z hz with hz | rfl
    · exact h.ad.far z hz k hk
    · exact h.yf k hk
/-- The document's next list is stored in the box. -/
theorem AdS.next {A' : Option Addr} {n' c' : Nat} {v0 : Value} (bd : BdS C w wr g roomR (evs xs')) (ek : EvsK C wr g (.slice A' n' c') xs') (hbx : BoxK C wr g B (.cells #[.string roomR, v0] 26 (0, 0))) (low : w.heap.size ≤ B) (far : ∀ z ∈ xs', ∀ k, footV z k → k ≠ B) : ∀ W, W = wr.setCells B 0 [.string roomR, .slice A' n' c'] → AdS C w W g B (.slice A' n' c') xs' := by
  rintro W rfl
  obtain ⟨cur, z1, z2, z3⟩ := sm_at B 26 [.string roomR, .slice A' n' c'] 0 wr _ hbx.1 (Nat.le_refl 2)
  have z5 : cur = #[.string roomR, .slice A' n' c'] := Array.toList_inj.1 z3
  rw [z5] at z1
  have hg := sm_grown wr B 0 [.string roomR, .slice A' n' c']
  have hbl : ∀ k, k < wr.heap.size → k ≠ B → (wr.setCells B 0 [.string roomR, .slice A' n' c']).heap[k]? = wr.heap[k]? := fun k hk hn => hg.block k hk (fun e => hn (by injection e))
  obtain ⟨hc, ho2⟩ := C.keep bd.code hg.size (fun k hk => hbl k (C.old bd.code hk) (fun e => hbx.2 (e ▸ hk)))
  refine ⟨⟨hc, bd.below.grown hg bd.below.size (fun k hk => by injection hk with hk; omega), fun k hk => bd.fresh k (ho2 k hk)⟩, ⟨ek.1.stay hg.size (fun k hk hfk => hbl k hk (evs_apart ek.1 hbx.1 far hfk)), fun k hk hok => ek.2 k hk (ho2 k hok)⟩, ⟨z1, fun hok => hbx.2 (ho2 B hok)⟩, low, far⟩
end

set_option maxHeartbeats 6400000 in
theorem dagAdds_walk (C : Dags) (CA : DagAlls C) (CR : DagRms C) (CL : DagLns C) (CH : DagHds C) (v : Value) (gs : List GV) (vo : Value) (os : List EvV) (vw : Value) (ns : List Int) (w : World) (h : GsS w v gs) (ho : EvsS w vo os) (hn : LI.Slice w vw ns) (hnb : ∀ o ∈ ns, -9223372036854775808 ≤ o ∧ o ≤ 9223372036854775807) :
    Calls Tryz.prog 3 #[v, vo, vw] w fun e w' => e = .returned (.bool true) ∧ Below w.heap.size w w' := by
  have HMA := Lib.hid (refMade_any roomR v gs w h roomR_room)
  have HVA := Lib.hid (madeTo_row roomR_room (gps gs) (min gs.length 9) (by omega) (by rw [List.length_map]; omega))
  have HZ := Lib.hid (fun W => lives_any C W)
  obtain ⟨A0, c0, rfl, -⟩ := id h.1
  obtain ⟨A1, c1, rfl, -, ho2, -⟩ := id ho.1
  obtain ⟨A2, c2, rfl, -, hn2, -⟩ := id hn
  have hoc : c1 ≤ 9223372036854775807 := by unfold maxLen at ho2; omega
  have hnc : c2 ≤ 9223372036854775807 := by unfold maxLen at hn2; omega
  have HO := Lib.hid ho
  have HN := Lib.hid hn
  have HNB := Lib.hid hnb
  clear h ho hn hnb ho2 hn2
  unfold roomR at HMA
  go_enter Tryz.func3, Tryz.ntmps3
  go_upto_region 1 with (fail)
  go_wp2_with fail
  go_at_call 6
  refine HMA.out.mono ?_
  rintro e w1 ⟨v', xs, rfl, hes, hev, b1, hfp⟩
  have hxl : xs.length ≤ 9 := by
    rw [← evs_len, hev]
    have := HVA.out.2
    unfold roomR at this
    rw [this]; omega
  have HVL : Hid (Valid roomR (evs xs)) := Lib.hid (by rw [hev]; exact HVA.out.1.valid)
  obtain ⟨Av, cv, hv, -, hv2, -⟩ := id hes.1
  have hv3 : cv ≤ 9223372036854775807 := by unfold maxLen at hv2; omega
  subst hv
  have HE1 := Lib.hid hes
  have HFP : Hid (∀ z ∈ xs, ∀ k, footV z k → k ≠ w1.heap.size) := Lib.hid (fun z hz k hk => by have := (hfp z hz k hk.2).2; omega)
  have HB2 := Lib.hid (below_new w1 (.cells #[.string roomR, .slice Av xs.length cv] 26))
  have HW2 := Lib.hid (heap_alloc_new w1 (.cells #[.string roomR, .slice Av xs.length cv] 26))
  have HB1 := Lib.hid b1
  have hlo7 : w.heap.size ≤ w1.heap.size := b1.size
  clear HMA hes hev b1 hv2 HVA hfp
  unfold roomR at HB2 HW2
  go_upto_region 2 with (fail)
  generalize w1.alloc _ = w2 at HB2 HW2 ⊢
  have HE2 := Lib.hid (HE1.out.below HB2.out)
  replace HB1 := Lib.hid (HB1.out.trans (HB2.out.mono HB1.out.size))
  generalize w1.heap.size = B7 at HW2 HFP hlo7 ⊢
  have d0 : w2.cell? ⟨B7, 0, none⟩ = some (.string roomR) := cell_at HW2.out 0
  have d1 : w2.cell? ⟨B7, 1, none⟩ = some (.slice Av xs.length cv) := cell_at HW2.out 1
  have HBU := Lib.hid (build_any C roomR (.slice Av xs.length cv) xs w2 HE2.out HVL.out roomR_room roomR_size (by omega))
  go_wp2_with fail
  go_at_call 7
  refine HBU.out.mono ?_
  rintro e w3 ⟨g, rfl, hbd⟩
  have HA3 : Hid (AdS C w w3 g B7 (.slice Av xs.length cv) xs) := Lib.hid ⟨hbd.mono HB1.out, hbd.kept HE2.out, hbd.box HW2.out, hlo7, HFP.out⟩
  clear hbd HBU d0 d1 HW2 HFP HE1 HE2 HB2
  go_upto_region 5 with (fail)
  have d0 : w3.cell? ⟨B7, 0, none⟩ = some (.string roomR) := cell_at HA3.out.box.1 0
  have d1 : w3.cell? ⟨B7, 1, none⟩ = some (.slice Av xs.length cv) := cell_at HA3.out.box.1 1
  have HLK := Lib.hid (like_any C CA CR CL CH roomR w3 g (evs xs) _ xs HA3.out.bd.code HA3.out.ek.1 HA3.out.ek.2 HVL.out (by omega) (Alike.refl _))
  go_wp2_with fail
  go_at_call 8
  refine HLK.out.mono ?_
  rintro e w4 ⟨rfl, hc4, ht4⟩
  have HA4 := Lib.hid (HA3.out.turn hc4 ht4)
  clear hc4 ht4 HA3 HLK d0 d1 HVL
  go_upto_block 0 with (fail)
  go_cut [9] (fun s9 wx => Hid (∃ v xs, AdS C w wx g B7 v xs))
  case first =>
    go_wp2_with fail
    go_loopw [9] (fun i wr => ∃ a : Nat, i = .int .i64 (a : Int) ∧ a ≤ os.length ∧ a ≤ 4 ∧ Hid (∃ v xs, AdS C w wr g B7 v xs ∧ xs.length ≤ 9 + a)) (fun i _ => os.length - (intOf i).toNat)
    case atStart => exact ⟨0, rfl, Nat.zero_le _, Nat.zero_le _, Lib.hid ⟨_, xs, HA4.out, by omega⟩⟩
    case round =>
      obtain ⟨a, rfl, ha, ha4, HL⟩ := hrel
      clear HA4 hxl hv3
      obtain ⟨vv, ys, had, hyl⟩ := HL.out
      obtain ⟨Av', cv', hv', -, hv2, -⟩ := id had.ek.1.1
      have hv3 : cv' ≤ 9223372036854775807 := by unfold maxLen at hv2; omega
      subst hv'
      have HA := Lib.hid had
      clear HL had hv2
      by_cases h1 : a < os.length
      · have q1 : decide ((a : Int) < (os.length : Int)) = true := decide_eq_true (by omega)
        by_cases h2 : a < ns.length
        · have q2 : decide ((a : Int) < (ns.length : Int)) = true := decide_eq_true (by omega)
          by_cases h3 : a < 4
          · have q3 : decide ((a : Int) < 4) = true := decide_eq_true (by omega)
            have ho : os[a]? = some os[a] := List.getElem?_eq_getElem h1
            generalize os[a] = raw at ho
            have HRW := Lib.hid (HO.out.2 raw (List.mem_of_getElem? ho))
            have hn : ns[a]? = some ns[a] := List.getElem?_eq_getElem h2
            generalize ns[a] = o at hn
            have hob := HNB.out o (List.mem_of_getElem? hn)
            obtain ⟨b1, f1, rfl, hb1, hr1⟩ := HN.out.at hn
            have hi1 := index_any (P := Tryz.prog) knI (by decide) (b := b1) (off := f1) (cap := c2) h2
            have HC1 : Hid (w.cell? ⟨b1, f1 + a, none⟩ = some (.int .i64 o)) := Lib.hid (by have := hr1 0 _ rfl; simpa only [LI, Nat.mul_one, Nat.add_zero] using this)
            simp only [LI] at hi1
            obtain ⟨b2, f2, rfl, hb2, hr2⟩ := ev_at HO.out ho
            have hi2 := index_any (P := Tryz.prog) knV (by decide) (b := b2) (off := f2) (cap := c1) h1
            simp only [LV] at hi2
            have HC2 := Lib.hid hr2
            clear ho hn hr1 hr2
            go_upto_region 10 with (fail)
            go_cut [10] from 23 to 65 (fun s10 wx => ∃ B10, s10 = .pointer (some ⟨B10, 0, none⟩) ∧ Hid (∃ y, AeS C w wx g B7 (.slice Av' ys.length cv') ys B10 y))
            case first =>
              have HW0 : Hid (Below w.heap.size w wr) := Lib.hid HA.out.bd.below
              refine wp_region_held_drew (S := fun w' => Below wr.heap.size wr w') (by kernel_rfl) (Below.refl _ _).drew (fun hHeld => ?_)
              have HBS : Hid (∀ W, Below wr.heap.size wr W → W.heap[B7]? = some (.cells #[.string roomR, .slice Av' ys.length cv'] 26 (0, 0))) := Lib.hid (fun W h => (h.block B7 (smem_lt HA.out.box.1)).trans HA.out.box.1)
              have HCS : Hid (∀ W, Below wr.heap.size wr W → W.cell? ⟨b1, f1 + a, none⟩ = some (.int .i64 o)) := Lib.hid (fun W h => (h.cell (p := ⟨b1, f1 + a, none⟩) (Nat.lt_of_lt_of_le hb1 HW0.out.size)).trans ((HW0.out.cell (p := ⟨b1, f1 + a, none⟩) hb1).trans HC1.out))
              have HVS : Hid (∀ W, Below wr.heap.size wr W → W.rangeAt b2 (f2 + a * 6) raw.cells) := Lib.hid (fun W h j u hu => (h.cell (p := ⟨b2, f2 + a * 6 + j, none⟩) (Nat.lt_of_lt_of_le hb2 HW0.out.size)).trans ((HW0.out.cell (p := ⟨b2, f2 + a * 6 + j, none⟩) hb2).trans (HC2.out j u hu)))
              have HOD := Lib.hid (fun W (h : Below wr.heap.size wr W) => refOdd_any roomR (.slice Av' ys.length cv') ys (a : Int) o raw W (HA.out.ek.1.below h) (by omega) roomR_size (by omega) (by omega) hob.1 hob.2 (HRW.out.below (HW0.out.trans (h.mono HW0.out.size))))
              unfold EvV.val EvV.pv at HOD
              generalize wr.drew = wd at hHeld ⊢
              refine wpAnyH_take (i := 0) (oi := ⟨some 39, _, _, _, _, _⟩) (v := ?va0) rfl (by kernel_rfl) (by kernel_rfl) (by kernel_rfl) (fun _ _ _ h => h) (Or.inl ⟨by rfl, ?ya0⟩) hHeld ?ra0
              case ya0 =>
                intro wx hSx
                have p0 := cell_at (HBS.out _ hSx) 0
                have p1 := cell_at (HBS.out _ hSx) 1
                simp only [List.getElem?_toArray, List.getElem?_cons_succ, List.getElem?_cons_zero] at p0 p1
                go_simp
                try with_reducible rfl
              try simp only [Act.put, List.setIfInBounds_toArray, List.set_cons_zero, List.set_cons_succ]
              refine wpAnyH_take (i := 1) (oi := ⟨some 40, _, _, _, _, _⟩) (v := ?va1) rfl (by kernel_rfl) (by kernel_rfl) (by kernel_rfl) (fun _ _ _ h => h) (Or.inl ⟨by rfl, ?ya1⟩) hHeld ?ra1
              case ya1 =>
                intro wx hSx
                go_simp
                try with_reducible rfl
              try simp only [Act.put, List.setIfInBounds_toArray, List.set_cons_zero, List.set_cons_succ]
              refine wpAnyH_take (i := 2) (oi := ⟨some 41, _, _, _, _, _⟩) (v := ?va2) rfl (by kernel_rfl) (by kernel_rfl) (by kernel_rfl) (fun _ _ _ h => h) (Or.inl ⟨by rfl, ?ya2⟩) hHeld ?ra2
              case ya2 =>
                intro wx hSx
                go_simp
                try with_reducible rfl
              try simp only [Act.put, List.setIfInBounds_toArray, List.set_cons_zero, List.set_cons_succ]
              refine wpAnyH_take (i := 3) (oi := ⟨some 42, _, _, _, _, _⟩) (v := ?va3) rfl (by kernel_rfl) (by kernel_rfl) (by kernel_rfl) (fun _ _ _ h => h) (Or.inl ⟨by rfl, ?ya3⟩) hHeld ?ra3
              case ya3 =>
                intro wx hSx
                go_simp
                try with_reducible rfl
              try simp only [Act.put, List.setIfInBounds_toArray, List.set_cons_zero, List.set_cons_succ]
              refine wpAnyH_take (i := 4) (oi := ⟨some 43, _, _, _, _, _⟩) (v := ?va4) rfl (by kernel_rfl) (by kernel_rfl) (by kernel_rfl) (fun _ _ _ h => h) (Or.inl ⟨by rfl, ?ya4⟩) hHeld ?ra4
              case ya4 =>
                intro wx hSx
                go_simp
                try with_reducible rfl
              try simp only [Act.put, List.setIfInBounds_toArray, List.set_cons_zero, List.set_cons_succ]
              refine wpAnyH_take (i := 5) (oi := ⟨some 44, _, _, _, _, _⟩) (v := ?va5) rfl (by kernel_rfl) (by kernel_rfl) (by kernel_rfl) (fun _ _ _ h => h) (Or.inl ⟨by rfl, ?ya5⟩) hHeld ?ra5
              case ya5 =>
                intro wx hSx
                have z := HCS.out _ hSx
                go_simp
                try with_reducible rfl
              try simp only [Act.put, List.setIfInBounds_toArray, List.set_cons_zero, List.set_cons_succ]
              refine wpAnyH_take (i := 6) (oi := ⟨some 45, _, _, _, _, _⟩) (v := ?va6) rfl (by kernel_rfl) (by kernel_rfl) (by kernel_rfl) (fun _ _ _ h => h) (Or.inl ⟨by rfl, ?ya6⟩) hHeld ?ra6
              case ya6 =>
                intro wx hSx
                go_simp
                try with_reducible rfl
              try simp only [Act.put, List.setIfInBounds_toArray, List.set_cons_zero, List.set_cons_succ]
              refine wpAnyH_take (i := 7) (oi := ⟨some 46, _, _, _, _, _⟩) (v := ?va7) rfl (by kernel_rfl) (by kernel_rfl) (by kernel_rfl) (fun _ _ _ h => h) (Or.inl ⟨by rfl, ?ya7⟩) hHeld ?ra7
              case ya7 =>
                intro wx hSx
                go_simp
                try with_reducible rfl
              try simp only [Act.put, List.setIfInBounds_toArray, List.set_cons_zero, List.set_cons_succ]
              refine wpAnyH_take (i := 8) (oi := ⟨some 47, _, _, _, _, _⟩) (v := ?va8) rfl (by kernel_rfl) (by kernel_rfl) (by kernel_rfl) (fun _ _ _ h => h) (Or.inl ⟨by rfl, ?ya8⟩) hHeld ?ra8
              case ya8 =>
                intro wx hSx
                go_simp
                try with_reducible rfl
              try simp only [Act.put, List.setIfInBounds_toArray, List.set_cons_zero, List.set_cons_succ]
              refine wpAnyH_take (i := 9) (oi := ⟨some 48, _, _, _, _, _⟩) (v := ?va9) rfl (by kernel_rfl) (by kernel_rfl) (by kernel_rfl) (fun _ _ _ h => h) (Or.inl ⟨by rfl, ?ya9⟩) hHeld ?ra9
              case ya9 =>
                intro wx hSx
                obtain ⟨z0, z1, z2, z3, z4, z5⟩ := ev_cells (HVS.out _ hSx)
                unfold EvV.pv at z2
                go_simp
                try with_reducible rfl
              try simp only [Act.put, List.setIfInBounds_toArray, List.set_cons_zero, List.set_cons_succ]
              refine wpAnyH_ready (rs := [10, 11]) (by kernel_rfl) (by simp) ?_
              refine AllReadyH.cons (o := ⟨some 49, _, _, _, _, _⟩) rfl (fun K hK => ?wayA) (AllReadyH.cons (o := ⟨some 10, _, _, _, _, _⟩) rfl (fun K hK => ?wayB) AllReadyH.nil)
              case wayA =>
                have HOW := Lib.hid (HOD.out wd hHeld)
                have hsw := hHeld.size
                go_simp
                refine HOW.out.mono ?_
                rintro e wo ⟨y, rfl, hya, -, hbo, hyf⟩
                have HYA := Lib.hid hya
                have HYF : Hid (∀ j, y.pv.ownBlock = some j → (∃ z ∈ ys, z.pv.ownBlock = some j ∧ z.ev.parents = y.ev.parents) ∨ wd.heap.size ≤ j) := Lib.hid hyf
                have hso := hbo.size
                clear hya hyf HOW
                refine hK.out _ _ (hHeld.trans (hbo.mono hHeld.size)) (fun hHeld => ?_)
                clear hK K hbo
                try simp only [Act.put, List.setIfInBounds_toArray, List.set_cons_zero, List.set_cons_succ]
                refine wpAnyH_ready (rs := [11]) (by kernel_rfl) (by simp) ?_
                refine AllReadyH.cons (o := ⟨some 10, _, _, _, _, _⟩) rfl (fun K hK => ?_) AllReadyH.nil
                have hbn := below_new wo (.cells #[.string ⟨#[]⟩, .string ⟨#[]⟩, .slice none 0 0, .string ⟨#[]⟩, .string ⟨#[]⟩, .int .i64 0] 33)
                have h10 := heap_alloc_new wo (.cells #[.string ⟨#[]⟩, .string ⟨#[]⟩, .slice none 0 0, .string ⟨#[]⟩, .string ⟨#[]⟩, .int .i64 0] 33)
                have hsn : (wo.alloc (.cells #[.string ⟨#[]⟩, .string ⟨#[]⟩, .slice none 0 0, .string ⟨#[]⟩, .string ⟨#[]⟩, .int .i64 0] 33)).heap.size = wo.heap.size + 1 := by simp
                have hlow := hHeld.size
                have HYL := Lib.hid (fun k (hk : footV y k) => HYA.out.foot hk)
                replace HYA := Lib.hid (HYA.out.below hbn)
                go_simp
                refine hK.out _ _ (hHeld.trans (hbn.mono hHeld.size)) (fun hHeld => ?_)
                clear hK K hbn
                try simp only [Act.put, List.setIfInBounds_toArray, List.set_cons_zero, List.set_cons_succ]
                generalize wo.alloc _ = we at hHeld h10 hsn HYA ⊢
                generalize hB10 : wo.heap.size = B10 at h10 hsn hlow HYL ⊢
                refine wpAnyH_ready (rs := [12]) (by kernel_rfl) (by simp) ?_
                refine AllReadyH.cons (o := ⟨none, _, _, _, _, _⟩) rfl (fun K hK => ?_) AllReadyH.nil
                have y0 : we.cell? ⟨B10, 0, none⟩ = some (.string ⟨#[]⟩) := cell_at h10 0
                have z0 : we.frozen? ⟨B10, 0, none⟩ = false := free_at h10 0
                have y1 : we.cell? ⟨B10, 1, none⟩ = some (.string ⟨#[]⟩) := cell_at h10 1
                have z1 : we.frozen? ⟨B10, 1, none⟩ = false := free_at h10 1
                have y2 : we.cell? ⟨B10, 2, none⟩ = some (.slice none 0 0) := cell_at h10 2
                have z2 : we.frozen? ⟨B10, 2, none⟩ = false := free_at h10 2
                have y3 : we.cell? ⟨B10, 3, none⟩ = some (.string ⟨#[]⟩) := cell_at h10 3
                have z3 : we.frozen? ⟨B10, 3, none⟩ = false := free_at h10 3
                have y4 : we.cell? ⟨B10, 4, none⟩ = some (.string ⟨#[]⟩) := cell_at h10 4
                have z4 : we.frozen? ⟨B10, 4, none⟩ = false := free_at h10 4
                have y5 : we.cell? ⟨B10, 5, none⟩ = some (.int .i64 0) := cell_at h10 5
                have z5 : we.frozen? ⟨B10, 5, none⟩ = false := free_at h10 5
                have HAN := AeS.stored HA.out hHeld (by omega) h10 HYA.out (fun k hk => by
                  have := HYL.out k hk
                  omega) (fun j hj => by
                  rcases HYF.out j hj with hh | hh
                  · exact .inl hh
                  · exact .inr (by omega)) _ rfl
                simp only [World.setCells] at HAN
                have HBN := (evk_stored hHeld (by omega) h10 y _ rfl).1
                simp only [World.setCells] at HBN
                go_simp
                generalize World.setCell _ _ _ = w9 at HAN HBN ⊢
                refine hK.out _ _ HBN (fun hHeld => ?_)
                clear hK K
                try simp only [Act.put, List.setIfInBounds_toArray, List.set_cons_zero, List.set_cons_succ]
                refine wpAnyH_done (by kernel_rfl) ?_ _
                go_wp2_with fail
                go_meet
                exact ⟨B10, rfl, Lib.hid ⟨y, HAN⟩⟩
              case wayB =>
                have hbn := below_new wd (.cells #[.string ⟨#[]⟩, .string ⟨#[]⟩, .slice none 0 0, .string ⟨#[]⟩, .string ⟨#[]⟩, .int .i64 0] 33)
                have h10 := heap_alloc_new wd (.cells #[.string ⟨#[]⟩, .string ⟨#[]⟩, .slice none 0 0, .string ⟨#[]⟩, .string ⟨#[]⟩, .int .i64 0] 33)
                have hsn : (wd.alloc (.cells #[.string ⟨#[]⟩, .string ⟨#[]⟩, .slice none 0 0, .string ⟨#[]⟩, .string ⟨#[]⟩, .int .i64 0] 33)).heap.size = wd.heap.size + 1 := by simp
                have hlow := hHeld.size
                go_simp
                refine hK.out _ _ (hHeld.trans (hbn.mono hHeld.size)) (fun hHeld => ?_)
                clear hK K hbn
                try simp only [Act.put, List.setIfInBounds_toArray, List.set_cons_zero, List.set_cons_succ]
                generalize wd.alloc _ = we at hHeld h10 hsn ⊢
                generalize hB10 : wd.heap.size = B10 at h10 hsn hlow ⊢
                refine wpAnyH_ready (rs := [10]) (by kernel_rfl) (by simp) ?_
                refine AllReadyH.cons (o := ⟨some 49, _, _, _, _, _⟩) rfl (fun K hK => ?_) AllReadyH.nil
                have HOW := Lib.hid (HOD.out we hHeld)
                have hsw := hHeld.size
                go_simp
                refine HOW.out.mono ?_
                rintro e wo ⟨y, rfl, hya, -, hbo, hyf⟩
                have HYA := Lib.hid hya
                have HYF : Hid (∀ j, y.pv.ownBlock = some j → (∃ z ∈ ys, z.pv.ownBlock = some j ∧ z.ev.parents = y.ev.parents) ∨ we.heap.size ≤ j) := Lib.hid hyf
                have hso := hbo.size
                replace h10 := (hbo.block B10 (smem_lt h10)).trans h10
                clear hya hyf HOW
                refine hK.out _ _ (hHeld.trans (hbo.mono hHeld.size)) (fun hHeld => ?_)
                clear hK K hbo
                try simp only [Act.put, List.setIfInBounds_toArray, List.set_cons_zero, List.set_cons_succ]
                refine wpAnyH_ready (rs := [12]) (by kernel_rfl) (by simp) ?_
                refine AllReadyH.cons (o := ⟨none, _, _, _, _, _⟩) rfl (fun K hK => ?_) AllReadyH.nil
                have y0 : wo.cell? ⟨B10, 0, none⟩ = some (.string ⟨#[]⟩) := cell_at h10 0
                have z0 : wo.frozen? ⟨B10, 0, none⟩ = false := free_at h10 0
                have y1 : wo.cell? ⟨B10, 1, none⟩ = some (.string ⟨#[]⟩) := cell_at h10 1
                have z1 : wo.frozen? ⟨B10, 1, none⟩ = false := free_at h10 1
                have y2 : wo.cell? ⟨B10, 2, none⟩ = some (.slice none 0 0) := cell_at h10 2
                have z2 : wo.frozen? ⟨B10, 2, none⟩ = false := free_at h10 2
                have y3 : wo.cell? ⟨B10, 3, none⟩ = some (.string ⟨#[]⟩) := cell_at h10 3
                have z3 : wo.frozen? ⟨B10, 3, none⟩ = false := free_at h10 3
                have y4 : wo.cell? ⟨B10, 4, none⟩ = some (.string ⟨#[]⟩) := cell_at h10 4
                have z4 : wo.frozen? ⟨B10, 4, none⟩ = false := free_at h10 4
                have y5 : wo.cell? ⟨B10, 5, none⟩ = some (.int .i64 0) := cell_at h10 5
                have z5 : wo.frozen? ⟨B10, 5, none⟩ = false := free_at h10 5
                have HAN := AeS.stored HA.out hHeld (by omega) h10 HYA.out (fun k hk => by
                  rcases HYF.out k hk.2 with ⟨z, hz, hzj, hzp⟩ | h1
                  · have h2 := (HA.out.ek.ev hz).1.foot (k := k) ⟨by rw [hzp]; exact hk.1, hzj⟩
                    omega
                  · omega) (fun j hj => by
                  rcases HYF.out j hj with hh | hh
                  · exact .inl hh
                  · exact .inr (by omega)) _ rfl
                simp only [World.setCells] at HAN
                have HBN := (evk_stored hHeld (by omega) h10 y _ rfl).1
                simp only [World.setCells] at HBN
                go_simp
                generalize World.setCell _ _ _ = w9 at HAN HBN ⊢
                refine hK.out _ _ HBN (fun hHeld => ?_)
                clear hK K
                try simp only [Act.put, List.setIfInBounds_toArray, List.set_cons_zero, List.set_cons_succ]
                refine wpAnyH_done (by kernel_rfl) ?_ _
                go_wp2_with fail
                go_meet
                exact ⟨B10, rfl, Lib.hid ⟨y, HAN⟩⟩
            case rest =>
              obtain ⟨B10, rfl, HY⟩ := hcut
              obtain ⟨y, hy⟩ := HY.out
              have HE := Lib.hid hy
              clear HY hy HA HRW
              have d0 : wc.cell? ⟨B7, 0, none⟩ = some (.string roomR) := cell_at HE.out.ad.box.1 0
              have d1 : wc.cell? ⟨B7, 1, none⟩ = some (.slice Av' ys.length cv') := cell_at HE.out.ad.box.1 1
              have r0 := cell_at HE.out.eb.1 0
              have r1 := cell_at HE.out.eb.1 1
              have r2 := cell_at HE.out.eb.1 2
              have r3 := cell_at HE.out.eb.1 3
              have r4 := cell_at HE.out.eb.1 4
              have r5 := cell_at HE.out.eb.1 5
              simp only [List.getElem?_toArray, List.getElem?_cons_succ, List.getElem?_cons_zero] at r0 r1 r2 r3 r4 r5
              have HAD := Lib.hid (refAddY_any roomR (.slice Av' ys.length cv') ys y wc HE.out.ad.ek.1 HE.out.yk.1 (by omega))
              have HAA : Hid (addA roomR (evs ys) y.ev = addA roomR (evs ys) y.ev) := Lib.hid rfl
              unfold EvV.val EvV.pv at HAD
              go_wp2_with fail
              go_at_call 10
              refine HAD.out.mono ?_
              rintro e w6 ⟨v6, ys', rfl, hes6, hev6, b6, hor6, hlo6⟩
              obtain ⟨A6, c6, rfl, -⟩ := id hes6.1
              have hyl' : ys'.length ≤ 9 + (a + 1) := by
                rcases hor6 with rfl | rfl
                · omega
                · simp; omega
              have bn := below_new w6 (.cells #[.string roomR, .slice A6 ys'.length c6] 26)
              have b7 : Below wc.heap.size wc (w6.alloc (.cells #[.string roomR, .slice A6 ys'.length c6] 26)) := b6.trans (bn.mono b6.size)
              have HEL := Lib.hid (HE.out.added b7 (hes6.below bn) hor6 (fun k h0 hk => hlo6 k h0 hk))
              have HE7 := Lib.hid (HE.out.later b7)
              have HNB : Hid (BoxK C (w6.alloc (.cells #[.string roomR, .slice A6 ys'.length c6] 26)) g w6.heap.size (.cells #[.string roomR, .slice A6 ys'.length c6] 26 (0, 0))) := Lib.hid (BoxK.new (Dags.grow HE.out.ad.bd.code b6).1 bn (heap_alloc_new w6 _) (Nat.le_refl _))
              have HN7 : Hid (B7 ≠ w6.heap.size) := Lib.hid (by have := smem_lt HE.out.ad.box.1; have := b6.size; omega)
              have HEV := Lib.hid hev6
              clear hes6 hev6 b6 b7 bn hor6 hlo6 HE HAD d0 d1 r0 r1 r2 r3 r4 r5 HAA
              go_upto_region 12 with (fail)
              generalize w6.alloc _ = w7 at HEL HE7 HNB ⊢
              generalize w6.heap.size = B11 at HNB HN7 ⊢
              have r0 := cell_at HE7.out.eb.1 0
              have r1 := cell_at HE7.out.eb.1 1
              have r2 := cell_at HE7.out.eb.1 2
              have r3 := cell_at HE7.out.eb.1 3
              have r4 := cell_at HE7.out.eb.1 4
              have r5 := cell_at HE7.out.eb.1 5
              simp only [List.getElem?_toArray, List.getElem?_cons_succ, List.getElem?_cons_zero] at r0 r1 r2 r3 r4 r5
              have HAD := Lib.hid (C.add y HE7.out.ad.bd.code (by rw [evs_len]; omega) HE7.out.yk.1)
              rw [← HEV.out] at HAD
              unfold EvV.val EvV.pv at HAD
              generalize errA roomR (evs ys) y.ev = er at HAD ⊢
              have q4 : (er != er) = false := bne_self_eq_false _
              go_wp2_with fail
              go_at_call 11
              refine HAD.out.mono ?_
              rintro e w8 ⟨rfl, hc8, ht8⟩
              have HB8 := Lib.hid (HE7.out.ad.bd.turn hc8 ht8)
              have HK8 := Lib.hid (HEL.out.1.turn ht8)
              have HX8 := Lib.hid (HE7.out.ad.box.turn ht8)
              have HN8 := Lib.hid (HNB.out.turn ht8)
              have HFA := Lib.hid HEL.out.2
              clear hc8 ht8 HE7 HEL HNB HAD HEV r0 r1 r2 r3 r4 r5
              have n0 : w8.cell? ⟨B11, 0, none⟩ = some (.string roomR) := cell_at HN8.out.1 0
              have n1 : w8.cell? ⟨B11, 1, none⟩ = some (.slice A6 ys'.length c6) := cell_at HN8.out.1 1
              have o0 : w8.cell? ⟨B7, 0, none⟩ = some (.string roomR) := cell_at HX8.out.1 0
              have o1 : w8.cell? ⟨B7, 1, none⟩ = some (.slice Av' ys.length cv') := cell_at HX8.out.1 1
              have z0 : w8.frozen? ⟨B7, 0, none⟩ = false := free_at HX8.out.1 0
              have z1 : w8.frozen? ⟨B7, 1, none⟩ = false := free_at HX8.out.1 1
              have HNX := Lib.hid (AdS.next HB8.out HK8.out HX8.out hlo7 HFA.out _ rfl)
              have HVL : Hid (Valid roomR (evs ys')) := Lib.hid (C.valid HB8.out.code)
              simp only [World.setCells] at HNX
              clear HB8 HK8 HX8 HN8 HFA
              go_upto_region 15 with (fail)
              simp only [Nat.zero_add] at HNX
              generalize World.setCell _ _ _ = w9 at HNX ⊢
              clear n0 n1 o0 o1 z0 z1
              have d0 : w9.cell? ⟨B7, 0, none⟩ = some (.string roomR) := cell_at HNX.out.box.1 0
              have d1 : w9.cell? ⟨B7, 1, none⟩ = some (.slice A6 ys'.length c6) := cell_at HNX.out.box.1 1
              have HLK := Lib.hid (like_any C CA CR CL CH roomR w9 g (evs ys') _ ys' HNX.out.bd.code HNX.out.ek.1 HNX.out.ek.2 HVL.out (by omega) (Alike.refl _))
              go_wp2_with fail
              go_at_call 8
              refine HLK.out.mono ?_
              rintro e wa ⟨rfl, hca, hta⟩
              have HAF := Lib.hid (HNX.out.turn hca hta)
              clear hca hta HNX HLK d0 d1 HVL
              go_wp2_with fail
              refine ⟨⟨a + 1, by go_num, by omega, by omega, Lib.hid ⟨_, ys', HAF.out, hyl'⟩⟩, ?_⟩
              simp [intOf]; omega
          · have q3 : decide ((a : Int) < 4) = false := decide_eq_false (by omega)
            go_wp2_with fail
            go_meet
            exact Lib.hid ⟨_, ys, HA.out⟩
        · have q2 : decide ((a : Int) < (ns.length : Int)) = false := decide_eq_false (by omega)
          go_wp2_with fail
          go_meet
          exact Lib.hid ⟨_, ys, HA.out⟩
      · have q1 : decide ((a : Int) < (os.length : Int)) = false := decide_eq_false (by omega)
        go_wp2_with fail
        go_meet
        exact Lib.hid ⟨_, ys, HA.out⟩
  case rest =>
    obtain ⟨vv, ys, had⟩ := hcut.out
    go_wp2_with fail
    go_at_call 12
    refine (HZ.out _).mono ?_
    rintro e wb ⟨rfl, hbb⟩
    have HDB := Lib.hid (had.bd.later hbb)
    go_wp2_with fail
    go_ret
    exact ⟨rfl, HDB.out.below⟩
end Go.Proofs.YtflgpdkdflhhgaaGreat
