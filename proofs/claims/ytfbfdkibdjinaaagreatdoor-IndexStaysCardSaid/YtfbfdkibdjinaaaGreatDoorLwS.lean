/-
  IndexStays: what is added to the dag behind it changes nothing of an index, whether it was asked ahead of that or not.
-/
import Derived.Test.YtfbfdkibdjinaaaGreatDoorRfW
import Derived.Test.YtfbfdkibdjinaaaGreatDoorI8D
namespace Go.Proofs.YtfbfdkibdjinaaaGreatDoor
set_option maxRecDepth 20000
open Go.RowKit
set_option linter.unusedVariables false
set_option linter.unusedSimpArgs false

/-- Two indexes beside a dag that goes on: boxes and rows of texts are kept beside them. -/
structure TwS (C : Dags) (w2 wr : World) (gd : Nat) (gi : Bool → Nat) (ld l : List Ev) (bs : List (Nat × Array Value)) (ts : List (Value × List ByteArray)) : Prop where
  bd : BdS C w2 wr gd roomR ld
  is : ∃ P : Bool → Nat → Prop, (∀ b, CX wr (gi b) l (P b)) ∧ (∀ b k, P b k → w2.heap.size ≤ k ∧ ¬ C.own wr gd k) ∧ (∀ b c k, b ≠ c → P b k → ¬ P c k) ∧ (∀ p ∈ bs, wr.heap[p.1]? = some (.cells p.2 26 (0, 0)) ∧ ∀ b, ¬ P b p.1) ∧ ∀ p ∈ ts, LT.Slice wr p.1 p.2 ∧ ∀ b k, 0 < p.2.length → p.1.ownBlock = some k → ¬ P b k
section
variable {C : Dags} {w2 wr w' : World} {gd : Nat} {gi : Bool → Nat} {ld ld' l : List Ev} {bs : List (Nat × Array Value)} {ts ts' : List (Value × List ByteArray)}
theorem TwS.less (h : TwS C w2 wr gd gi ld l bs ts) (hs : ∀ p ∈ ts', p ∈ ts) : TwS C w2 wr gd gi ld l bs ts' := by
  obtain ⟨P, h1, h2, h3, h4, h5⟩ := h.is
  exact ⟨h.bd, P, h1, h2, h3, h4, fun p hp => h5 p (hs p hp)⟩
theorem TwS.later (h : TwS C w2 wr gd gi ld l bs ts) (hb : Below wr.heap.size wr w') : TwS C w2 w' gd gi ld l bs ts := by
  obtain ⟨P, h1, h2, h3, h4, h5⟩ := h.is
  obtain ⟨hc, ho⟩ := C.keep h.bd.code hb.size (fun k hk => hb.block k (C.old h.bd.code hk))
  exact ⟨h.bd.later hb, P, fun b => (h1 b).below hb, fun b k hk => ⟨(h2 b k hk).1, fun e => (h2 b k hk).2 (ho k e)⟩, h3, fun p hp => ⟨(hb.block _ (smem_lt (h4 p hp).1)).trans (h4 p hp).1, (h4 p hp).2⟩, fun p hp => ⟨(h5 p hp).1.below hb, (h5 p hp).2⟩⟩
/-- The dag goes on. -/
theorem TwS.turn (h : TwS C w2 wr gd gi ld l [] []) (hc : C.CD w' gd roomR ld') (ht : TurnD C.own wr w' gd) : TwS C w2 w' gd gi ld' l [] [] := by
  obtain ⟨P, h1, h2, h3, h4, h5⟩ := h.is
  exact ⟨h.bd.turn hc ht, P, fun b => (h1 b).keep ht.size (fun k hk => ht.block k ((h1 b).old k hk) (h2 b k hk).2), fun b k hk => ⟨(h2 b k hk).1, fun e => by
    rcases ht.owns k e with hh | hh
    · exact (h2 b k hk).2 hh
    · have := (h1 b).old k hk; omega⟩, h3, fun p hp => (List.not_mem_nil hp).elim, fun p hp => (List.not_mem_nil hp).elim⟩
/-- A box is made. -/
theorem TwS.box (h : TwS C w2 wr gd gi ld l bs ts) (hb : Below wr.heap.size wr w') {B : Nat} {cs : Array Value} (hB : wr.heap.size ≤ B) (hx : w'.heap[B]? = some (.cells cs 26 (0, 0))) : TwS C w2 w' gd gi ld l ((B, cs) :: bs) ts := by
  obtain ⟨P, h1, h2, h3, h4, h5⟩ := h.is
  obtain ⟨hc, ho⟩ := C.keep h.bd.code hb.size (fun k hk => hb.block k (C.old h.bd.code hk))
  refine ⟨h.bd.later hb, P, fun b => (h1 b).below hb, fun b k hk => ⟨(h2 b k hk).1, fun e => (h2 b k hk).2 (ho k e)⟩, h3, fun p hp => ?_, fun p hp => ⟨(h5 p hp).1.below hb, (h5 p hp).2⟩⟩
  rcases List.mem_cons.1 hp with rfl | hp
  · exact ⟨hx, fun b hh => by have := (h1 b).old _ hh; omega⟩
  · exact ⟨(hb.block _ (smem_lt (h4 p hp).1)).trans (h4 p hp).1, (h4 p hp).2⟩
/-- A row that was told by a call that only made memory. -/
theorem TwS.told (h : TwS C w2 wr gd gi ld l bs ts) (hb : Below wr.heap.size wr w') {v : Value} {us : List ByteArray} (hm : LT.Mine w' wr.heap.size v us) : TwS C w2 w' gd gi ld l bs ((v, us) :: ts) := by
  obtain ⟨P, h1, h2, h3, h4, h5⟩ := h.is
  obtain ⟨hc, ho⟩ := C.keep h.bd.code hb.size (fun k hk => hb.block k (C.old h.bd.code hk))
  refine ⟨h.bd.later hb, P, fun b => (h1 b).below hb, fun b k hk => ⟨(h2 b k hk).1, fun e => (h2 b k hk).2 (ho k e)⟩, h3, fun p hp => ⟨(hb.block _ (smem_lt (h4 p hp).1)).trans (h4 p hp).1, (h4 p hp).2⟩, fun p hp => ?_⟩
  rcases List.mem_cons.1 hp with rfl | hp
  · exact ⟨hm.slice, fun b k _ hk e => by
      have a1 := (h1 b).old k e
      have a2 := (hm.lt k hk).1
      omega⟩
  · exact ⟨(h5 p hp).1.below hb, (h5 p hp).2⟩
/-- One of the two was asked: what it tells is kept. -/
theorem TwS.ask0 {P : Bool → Nat → Prop} (bd : BdS C w2 wr gd roomR ld) (h1 : ∀ b, CX wr (gi b) l (P b)) (h2 : ∀ b k, P b k → w2.heap.size ≤ k ∧ ¬ C.own wr gd k) (h3 : ∀ b c k, b ≠ c → P b k → ¬ P c k) (h4 : ∀ p ∈ bs, wr.heap[p.1]? = some (.cells p.2 26 (0, 0)) ∧ ∀ b, ¬ P b p.1) (h5 : ∀ p ∈ ts, LT.Slice wr p.1 p.2 ∧ ∀ b k, 0 < p.2.length → p.1.ownBlock = some k → ¬ P b k)
    (b : Bool) {P' : Nat → Prop} (a1 : CX w' (gi b) l P') (a2 : TurnP (P b) wr w') (a3 : ∀ k, P' k → P b k ∨ wr.heap.size ≤ k) (ns : List (Value × List ByteArray)) (hn : ∀ p ∈ ns, LT.Mine w' wr.heap.size p.1 p.2 ∧ ∀ k, p.1.ownBlock = some k → ¬ P' k) : TwS C w2 w' gd gi ld l bs (ns ++ ts) := by
  obtain ⟨hc, ho⟩ := C.keep bd.code a2.size (fun k hk => a2.block k (C.old bd.code hk) (fun hh => (h2 b k hh).2 hk))
  refine ⟨⟨hc, bd.below.trans (a2.below (fun k hk => (h2 b k hk).1) bd.below.size), fun k hk => bd.fresh k (ho k hk)⟩, fun c k => if c = b then P' k else P c k, fun c => ?_, fun c k hk => ?_, fun c d k hne hk hk' => ?_, fun p hp => ?_, fun p hp => ?_⟩
  · by_cases hcb : c = b
    · subst hcb; simp only [if_pos rfl]; exact a1
    · simp only [if_neg hcb]
      exact (h1 c).keep a2.size (fun k hk => a2.block k ((h1 c).old k hk) (h3 c b k hcb hk))
  · by_cases hcb : c = b
    · simp only [if_pos hcb] at hk
      rcases a3 k hk with hh | hh
      · exact ⟨(h2 b k hh).1, fun e => (h2 b k hh).2 (ho k e)⟩
      · exact ⟨Nat.le_trans bd.below.size hh, fun e => by have := C.old bd.code (ho k e); omega⟩
    · simp only [if_neg hcb] at hk
      exact ⟨(h2 c k hk).1, fun e => (h2 c k hk).2 (ho k e)⟩
  · by_cases hcb : c = b
    · have hdb : ¬ d = b := fun e => hne (hcb.trans e.symm)
      simp only [if_pos hcb] at hk
      simp only [if_neg hdb] at hk'
      rcases a3 k hk with hh | hh
      · exact h3 b d k (fun e => hdb e.symm) hh hk'
      · have := (h1 d).old k hk'; omega
    · simp only [if_neg hcb] at hk
      by_cases hdb : d = b
      · simp only [if_pos hdb] at hk'
        rcases a3 k hk' with hh | hh
        · exact h3 c b k hcb hk hh
        · have := (h1 c).old k hk; omega
      · simp only [if_neg hdb] at hk'
        exact h3 c d k hne hk hk'
  · obtain ⟨x1, x2⟩ := h4 p hp
    refine ⟨(a2.block _ (smem_lt x1) (x2 b)).trans x1, fun c hh => ?_⟩
    by_cases hcb : c = b
    · simp only [if_pos hcb] at hh
      rcases a3 _ hh with hh | hh
      · exact x2 b hh
      · have := smem_lt x1; omega
    · simp only [if_neg hcb] at hh
      exact x2 c hh
  · rcases List.mem_append.1 hp with hpp | hpp
    · obtain ⟨x1, x2⟩ := hn p hpp
      refine ⟨x1.slice, fun c k _ hv hh => ?_⟩
      by_cases hcb : c = b
      · simp only [if_pos hcb] at hh
        exact x2 k hv hh
      · simp only [if_neg hcb] at hh
        have := (h1 c).old k hh
        have := (x1.lt k hv).1
        omega
    · obtain ⟨x1, x2⟩ := h5 p hpp
      refine ⟨x1.stay0 a2.size (fun k hk h0 hv => a2.block k hk (x2 b k h0 hv)), fun c k h0 hv hh => ?_⟩
      by_cases hcb : c = b
      · simp only [if_pos hcb] at hh
        rcases a3 k hh with hh | hh
        · exact x2 b k h0 hv hh
        · have := x1.foot h0 hv; omega
      · simp only [if_neg hcb] at hh
        exact x2 c k h0 hv hh
end
theorem evs_take (xs : List EvV) (n : Nat) : evs (xs.take n) = (evs xs).take n := by unfold evs; rw [List.map_take]
theorem EvsS.take {w : World} {A : Option Addr} {n cap : Nat} {xs : List EvV} (h : EvsS w (.slice A n cap) xs) (k : Nat) (hk : k ≤ xs.length) : EvsS w (.slice A k cap) (xs.take k) := by
  obtain ⟨A', cap', hv, h1, h2, h3, h4⟩ := h.1
  injection hv with e1 e2 e3
  subst e1 e3
  have hlen : (xs.take k).length = k := by rw [List.length_take]; omega
  refine ⟨⟨A, cap, by rw [hlen], by rw [hlen]; omega, h2, h3, fun h0 => ?_⟩, fun x hx => h.2 x (List.mem_of_mem_take hx)⟩
  obtain ⟨b, off, hA, hb, hr⟩ := h4 (by omega)
  refine ⟨b, off, hA, hb, fun j u hu => hr j u ?_⟩
  rw [← LV.vs_take, List.getElem?_take] at hu
  split at hu
  · exact hu
  · cases hu
theorem eventS_len9 (n : Int) : (eventS n).size ≤ maxLen := by
  have : ∀ k : Fin 9, (eventK k.val).size ≤ 3 := by decide +kernel
  have h := this ⟨aroundN n 9, aroundN_lt n (m := 9) (by decide)⟩
  show (eventK (aroundN n 9)).size ≤ maxLen
  unfold maxLen
  exact Nat.le_trans h (by decide)

set_option maxHeartbeats 12800000 in
theorem indexStays_walk (C : Dags) (CA : DagAlls C) (v : Value) (gs : List GV) (na : Int) (w : World) (h : GsS w v gs) (hna : i64B na) (ht : TabW w) :
    Calls Tryz.prog 6 #[v, .int .i64 na] w fun e w' => e = .returned (.bool true) ∧ Below w.heap.size w w' := by
  have HTB := Lib.hid ht
  have hw0 := ht.1
  have HZ := Lib.hid (fun W (hh : TabW W) => lives8_any C CA W hh)
  have HMA := Lib.hid (refMade_any roomR v gs w h roomR_room)
  have HVA := Lib.hid (madeTo_row roomR_room (gps gs) (min gs.length 9) (by omega) (by rw [List.length_map]; omega))
  obtain ⟨A0, c0, rfl, -⟩ := id h.1
  clear h ht
  unfold roomR at HMA
  go_enter Tryz.func6, Tryz.ntmps6
  go_upto_region 1 with (fail)
  go_wp2_with fail
  go_at_call 25
  refine HMA.out.mono ?_
  rintro e w1 ⟨v', xs, rfl, hes, hev, b1, hfp⟩
  have hxl : xs.length ≤ 9 := by
    rw [← evs_len, hev]
    have := HVA.out.2
    unfold roomR at this
    rw [this]; omega
  have HVL : Hid (Valid roomR (evs xs)) := Lib.hid (by rw [hev]; exact HVA.out.1.valid)
  obtain ⟨Av, cv, hv, hcv, hv2, -⟩ := id hes.1
  have hv3 : cv ≤ 9223372036854775807 := by unfold maxLen at hv2; omega
  subst hv
  have HB2 := Lib.hid (below_new w1 (.cells #[.string roomR, .slice Av xs.length cv] 26))
  have HW2 := Lib.hid (heap_alloc_new w1 (.cells #[.string roomR, .slice Av xs.length cv] 26))
  have HE2 := Lib.hid (hes.below HB2.out)
  have HB02 := Lib.hid (b1.trans (HB2.out.mono b1.size))
  clear HMA hes hev b1 hv2 HVA hfp
  unfold roomR at HB2 HW2 HE2 HB02
  go_upto_region 2 with (fail)
  generalize w1.alloc _ = w2 at HB2 HW2 HE2 HB02 ⊢
  generalize w1.heap.size = B4 at HB2 HW2 ⊢
  have d0 : w2.cell? ⟨B4, 0, none⟩ = some (.string roomR) := cell_at HW2.out 0
  go_wp2_with fail
  go_at_call 26
  refine (C.new w2 roomR roomR_size roomR_room).mono ?_
  rintro e w3 ⟨gd, rfl, hc, hb3, hf⟩
  have HS : Hid (BdS C w2 w3 gd roomR []) := Lib.hid ⟨hc, hb3, hf⟩
  have hB4 := smem_lt HW2.out
  have HXD : Hid (∀ W ld, BdS C w2 W gd roomR ld → W.heap[B4]? = some (.cells #[.string roomR, .slice Av xs.length cv] 26 (0, 0))) := Lib.hid (fun W ld hW => (hW.below.block B4 hB4).trans HW2.out)
  have d1 : w3.cell? ⟨B4, 1, none⟩ = some (.slice Av xs.length cv) := cell_at (HXD.out _ _ HS.out) 1
  clear hc hb3 hf d0 HB2
  have HAR := Lib.hid (fun W => around_any na ((xs.length + 1 : Nat) : Int) W hna.1 hna.2 (by omega) (by omega))
  rw [around_nat na (m := xs.length + 1) (by omega)] at HAR
  have hnl := aroundN_lt na (m := xs.length + 1) (by omega)
  generalize aroundN na ((xs.length + 1 : Nat) : Int) = n at HAR hnl
  push_cast at HAR
  go_wp2_with fail
  go_at_call 27
  refine (HAR.out _).mono ?_
  rintro e w' ⟨rfl, rfl⟩
  go_wp2_with fail
  go_loopw [8] (fun i wr => ∃ a : Nat, i = .int .i64 (a : Int) ∧ a ≤ n ∧ Hid (BdS C w2 wr gd roomR ((evs xs).take a))) (fun i _ => n - (intOf i).toNat)
  case atStart => exact ⟨0, rfl, Nat.zero_le _, HS⟩
  case round =>
    obtain ⟨wi, hwi⟩ : ∃ wi, wi = wr := ⟨_, rfl⟩
    subst hwi
    obtain ⟨a, rfl, ha, HO⟩ := hrel
    clear HS d1
    have c1 : wi.cell? ⟨B4, 1, none⟩ = some (.slice Av xs.length cv) := cell_at (HXD.out _ _ HO.out) 1
    by_cases hax : a < n
    · have q1 : decide ((a : Int) < (n : Int)) = true := decide_eq_true (by omega)
      have hal : a < xs.length := by omega
      have hx : xs[a]? = some xs[a] := List.getElem?_eq_getElem hal
      generalize xs[a] = x at hx
      have HA := Lib.hid (add_take8 HVL.out (evs_get hx))
      have HX := Lib.hid ((HE2.out.2 x (List.mem_of_getElem? hx)).below HO.out.below)
      obtain ⟨b, off, rfl, hb, hrg⟩ := ev_at HE2.out hx
      have hix := index_any (P := Tryz.prog) knV (by decide) (b := b) (off := off) (cap := cv) hal
      simp only [LV] at hix
      obtain ⟨e0, e1, e2, e3, e4, e5⟩ := ev_cells (w := wi) (fun j u hu => (HO.out.below.cell (p := ⟨b, off + a * 6 + j, none⟩) hb).trans (hrg j u hu))
      unfold EvV.pv at e2
      have hta : ((evs xs).take a).length ≤ 100 := by rw [List.length_take]; omega
      have HC := Lib.hid (C.add x HO.out.code hta HX.out)
      unfold EvV.val EvV.pv at HC
      rw [HA.out.1, HA.out.2] at HC
      clear hx hrg hta
      go_wp2_with fail
      go_at_call 28
      refine HC.out.mono ?_
      rintro e w3 ⟨rfl, hc3, ht3⟩
      replace HO := Lib.hid (HO.out.turn hc3 ht3)
      clear hc3 ht3 HC c1 e0 e1 e2 e3 e4 e5
      go_wp2_with fail
      refine ⟨⟨a + 1, by go_num, by omega, HO⟩, ?_⟩
      simp [intOf]; omega
    · have q1 : decide ((a : Int) < (n : Int)) = false := decide_eq_false (by omega)
      obtain rfl : a = n := by omega
      have HVN : Hid (Valid roomR ((evs xs).take a)) := Lib.hid (valid_take HVL.out a)
      have hln : ((evs xs).take a).length = a := by rw [List.length_take, evs_len]; omega
      have HOF := Lib.hid (of_any C CA wi HO.out.code (by omega))
      go_wp2_with fail
      go_at_call 9
      refine HOF.out.mono ?_
      rintro e w4 ⟨gx, P, rfl, hx, hp, hc4, ht4⟩
      have HO4 := Lib.hid (HO.out.turn hc4 ht4)
      have HOF2 := Lib.hid (of_any C CA w4 HO4.out.code (by omega))
      go_wp2_with fail
      go_at_call 9
      refine HOF2.out.mono ?_
      rintro e w5 ⟨gy, Q, rfl, hy, hq, hc5, ht5⟩
      have HO5 := Lib.hid (HO4.out.turn hc5 ht5)
      have hsw := HO.out.below.size
      have hs4 := ht4.size
      have HT5 : Hid (TwS C w2 w5 gd (fun b => cond b gy gx) ((evs xs).take a) ((evs xs).take a) [] []) := Lib.hid ⟨HO5.out, fun b => cond b Q P, fun b => by
        cases b
        · exact hx.keep ht5.size (fun k hk => ht5.block k (hx.old k hk) (hp k hk).2)
        · exact hy, fun b k hk => by
        cases b
        · refine ⟨Nat.le_trans hsw (hp k hk).1, fun e => ?_⟩
          rcases ht5.owns k e with hh | hh
          · exact (hp k hk).2 hh
          · have := hx.old k hk; omega
        · exact ⟨Nat.le_trans (Nat.le_trans hsw hs4) (hq k hk).1, (hq k hk).2⟩, fun b c k hne h1 h2 => by
        cases b <;> cases c
        · exact hne rfl
        · have := hx.old k h1; have := (hq k h2).1; omega
        · have := hx.old k h2; have := (hq k h1).1; omega
        · exact hne rfl, fun p hp => (List.not_mem_nil hp).elim, fun p hp => (List.not_mem_nil hp).elim⟩
      clear hx hp hc4 ht4 hy hq hc5 ht5 HO HO4 HO5 HOF HOF2 c1
      have HTW : Hid (∀ W ld bs ts, TwS C w2 W gd (fun b => cond b gy gx) ld ((evs xs).take a) bs ts → TabW W) := Lib.hid (fun W ld bs ts hW => (HTB.out.below HB02.out hw0).below hW.bd.below (Nat.lt_of_lt_of_le hw0 HB02.out.size))
      have hz : 0 < w2.heap.size := Nat.lt_of_lt_of_le hw0 HB02.out.size
      have HAH : Hid (∀ W ld, TwS C w2 W gd (fun b => cond b gy gx) ld ((evs xs).take a) [] [] → Calls Tryz.prog 12 #[.pointer (some ⟨gy, 0, none⟩), .string ⟨#[36, 101, 48]⟩, .string ⟨#[36, 101, 49]⟩] W fun e w' => e = .returned (.bool (aheadB ((evs xs).take a) ⟨#[36, 101, 48]⟩ ⟨#[36, 101, 49]⟩)) ∧ TwS C w2 w' gd (fun b => cond b gy gx) ld ((evs xs).take a) [] []) := Lib.hid (fun W ld h => by
        obtain ⟨P, h1, h2, h3, h4, h5⟩ := h.is
        refine (ahead_any W (h1 true) ⟨#[36, 101, 48]⟩ ⟨#[36, 101, 49]⟩ (by decide) (by decide)).mono ?_
        rintro e w' ⟨rfl, P', a1, a2, a3⟩
        exact ⟨rfl, TwS.ask0 h.bd h1 h2 h3 h4 h5 true a1 a2 a3 [] (fun p hp => (List.not_mem_nil hp).elim)⟩)
      go_wp2_with fail
      go_at_call 12
      refine (HAH.out _ _ HT5.out).mono ?_
      rintro e w6 ⟨rfl, ht6⟩
      have HT6 := Lib.hid ht6
      clear ht6 HT5 HAH
      go_wp2_with fail
      go_loopw [11] (fun i wr => ∃ c : Nat, i = .int .i64 (c : Int) ∧ a ≤ c ∧ c ≤ xs.length ∧ Hid (TwS C w2 wr gd (fun b => cond b gy gx) ((evs xs).take c) ((evs xs).take a) [] [])) (fun i _ => xs.length - (intOf i).toNat)
      case atStart => exact ⟨a, rfl, Nat.le_refl _, by omega, HT6⟩
      case round =>
        obtain ⟨wk, hwk⟩ : ∃ wk, wk = wr := ⟨_, rfl⟩
        subst hwk
        obtain ⟨c, rfl, hac, hc, HO⟩ := hrel
        clear HT6
        have c1 : wk.cell? ⟨B4, 1, none⟩ = some (.slice Av xs.length cv) := cell_at (HXD.out _ _ HO.out.bd) 1
        by_cases hal : c < xs.length
        · have q2 : decide ((c : Int) < (xs.length : Int)) = true := decide_eq_true (by omega)
          have hx : xs[c]? = some xs[c] := List.getElem?_eq_getElem hal
          generalize xs[c] = x at hx
          have HA := Lib.hid (add_take8 HVL.out (evs_get hx))
          have HX := Lib.hid ((HE2.out.2 x (List.mem_of_getElem? hx)).below HO.out.bd.below)
          obtain ⟨b, off, rfl, hb, hrg⟩ := ev_at HE2.out hx
          have hix := index_any (P := Tryz.prog) knV (by decide) (b := b) (off := off) (cap := cv) hal
          simp only [LV] at hix
          obtain ⟨e0, e1, e2, e3, e4, e5⟩ := ev_cells (w := wk) (fun j u hu => (HO.out.bd.below.cell (p := ⟨b, off + c * 6 + j, none⟩) hb).trans (hrg j u hu))
          unfold EvV.pv at e2
          have hta : ((evs xs).take c).length ≤ 100 := by rw [List.length_take]; omega
          have HC := Lib.hid (C.add x HO.out.bd.code hta HX.out)
          unfold EvV.val EvV.pv at HC
          rw [HA.out.1, HA.out.2] at HC
          clear hx hrg hta
          go_wp2_with fail
          go_at_call 28
          refine HC.out.mono ?_
          rintro e w3 ⟨rfl, hc3, ht3⟩
          replace HO := Lib.hid (HO.out.turn hc3 ht3)
          clear hc3 ht3 HC c1 e0 e1 e2 e3 e4 e5
          go_wp2_with fail
          refine ⟨⟨c + 1, by go_num, by omega, by omega, HO⟩, ?_⟩
          simp [intOf]; omega
        · have q2 : decide ((c : Int) < (xs.length : Int)) = false := decide_eq_false (by omega)
          generalize (evs xs).take c = ld at HO
          have hac' : a ≤ cv := by omega
          have HBK := Lib.hid (below_new wk (.cells #[.string ⟨#[]⟩, .slice none 0 0] 26))
          have HX7 := Lib.hid (heap_alloc_new wk (.cells #[.string ⟨#[]⟩, .slice none 0 0] 26))
          have HXR := Lib.hid (HXD.out _ _ HO.out.bd)
          have d0 : wk.cell? ⟨B4, 0, none⟩ = some (.string roomR) := cell_at HXR.out 0
          have hn4 : B4 ≠ wk.heap.size := by have := smem_lt HXR.out; omega
          have HXR7 := Lib.hid ((HBK.out.block B4 (smem_lt HXR.out)).trans HXR.out)
          have d1 : (wk.alloc (.cells #[.string ⟨#[]⟩, .slice none 0 0] 26)).cell? ⟨B4, 1, none⟩ = some (.slice Av xs.length cv) := cell_at HXR7.out 1
          have d0' : (wk.alloc (.cells #[.string ⟨#[]⟩, .slice none 0 0] 26)).cell? ⟨B4, 0, none⟩ = some (.string roomR) := cell_at HXR7.out 0
          have x0 : (wk.alloc (.cells #[.string ⟨#[]⟩, .slice none 0 0] 26)).cell? ⟨wk.heap.size, 0, none⟩ = some (.string ⟨#[]⟩) := cell_at HX7.out 0
          have x1 : (wk.alloc (.cells #[.string ⟨#[]⟩, .slice none 0 0] 26)).cell? ⟨wk.heap.size, 1, none⟩ = some (.slice none 0 0) := cell_at HX7.out 1
          have z0 : (wk.alloc (.cells #[.string ⟨#[]⟩, .slice none 0 0] 26)).frozen? ⟨wk.heap.size, 0, none⟩ = false := free_at HX7.out 0
          have z1 : (wk.alloc (.cells #[.string ⟨#[]⟩, .slice none 0 0] 26)).frozen? ⟨wk.heap.size, 1, none⟩ = false := free_at HX7.out 1
          go_upto_region 19 with (fail)
          go_region
          have HT9 : Hid (TwS C w2 ((wk.alloc (.cells #[.string roomR, .slice Av a cv] 26)).drew) gd (fun b => cond b gy gx) ld ((evs xs).take a) [(wk.heap.size, #[.string roomR, .slice Av a cv])] []) := Lib.hid (HO.out.box (below_new wk (.cells #[.string roomR, .slice Av a cv] 26)).drew (Nat.le_refl _) (heap_alloc_new wk (.cells #[.string roomR, .slice Av a cv] 26)))
          clear HO HXR HXR7 HBK HX7 hn4 d0 d1 d0' x0 x1 z0 z1 c1
          generalize World.drew _ = w9 at HT9 ⊢
          generalize wk.heap.size = B12 at HT9 ⊢
          have HEW : Hid (∀ W ts, TwS C w2 W gd (fun b => cond b gy gx) ld ((evs xs).take a) [(B12, #[.string roomR, .slice Av a cv])] ts → EvsS W (.slice Av a cv) (xs.take a)) := Lib.hid (fun W ts hW => (HE2.out.below hW.bd.below).take a (by omega))
          have hel : evs (xs.take a) = ((evs xs).take a) := evs_take xs a
          have HWH : Hid (∀ W ts e, TwS C w2 W gd (fun b => cond b gy gx) ld ((evs xs).take a) [(B12, #[.string roomR, .slice Av a cv])] ts → e.size ≤ maxLen → Calls Tryz.prog 20 #[.agg #[.string roomR, .slice Av a cv], .int .i64 0, .string e, .string ⟨#[]⟩] W fun r w' => ∃ A c, r = .returned (.slice A (ancL ((evs xs).take a) e).length c) ∧ TwS C w2 w' gd (fun b => cond b gy gx) ld ((evs xs).take a) [(B12, #[.string roomR, .slice Av a cv])] ((.slice A (ancL ((evs xs).take a) e).length c, ancL ((evs xs).take a) e) :: ts)) := Lib.hid (fun W ts e h he => by
            refine (refWhich0_any roomR _ (xs.take a) e ⟨#[]⟩ W (HEW.out _ _ h) (by rw [hel]; exact HVN.out) (by rw [List.length_take]; omega) he (by decide)).mono ?_
            rintro r w' ⟨v, rfl, m, b'⟩
            rw [hel] at m
            obtain ⟨A, c, rfl, -⟩ := id m.shape
            exact ⟨A, c, rfl, h.told b' m⟩)
          have HAN : Hid (∀ (b : Bool) W ts e, TwS C w2 W gd (fun b => cond b gy gx) ld ((evs xs).take a) [(B12, #[.string roomR, .slice Av a cv])] ts → e.size ≤ maxLen → Calls Tryz.prog 19 #[.pointer (some ⟨cond b gy gx, 0, none⟩), .string e] W fun r w' => ∃ A c, r = .returned (.slice A (ancL ((evs xs).take a) e).length c) ∧ TwS C w2 w' gd (fun b => cond b gy gx) ld ((evs xs).take a) [(B12, #[.string roomR, .slice Av a cv])] ((.slice A (ancL ((evs xs).take a) e).length c, ancL ((evs xs).take a) e) :: ts)) := Lib.hid (fun b W ts e h he => by
            have ht := HTW.out _ _ _ _ h
            obtain ⟨P, h1, h2, h3, h4, h5⟩ := h.is
            refine (ancestors_any W (h1 b) e he ht (fun e => by have := (h2 b 0 e).1; omega)).mono ?_
            rintro r w' ⟨v, rfl, m, P', a1, a2, a3, a4⟩
            obtain ⟨A, c, rfl, -⟩ := id m.shape
            exact ⟨A, c, rfl, TwS.ask0 h.bd h1 h2 h3 h4 h5 b a1 a2 a3 [(_, _)] (fun p hp => by
              obtain rfl := List.mem_singleton.1 hp
              exact ⟨m, a4⟩)⟩)
          have HAX := Lib.hid (fun W ts e h he => HAN.out false W ts e h he)
          have HAY := Lib.hid (fun W ts e h he => HAN.out true W ts e h he)
          simp only [cond_true, cond_false] at HAX HAY
          have HLE : Hid (∀ (b : Bool) W ts, TwS C w2 W gd (fun b => cond b gy gx) ld ((evs xs).take a) [(B12, #[.string roomR, .slice Av a cv])] ts → Calls Tryz.prog 16 #[.pointer (some ⟨cond b gy gx, 0, none⟩)] W fun r w' => r = .returned (.int .i64 (a : Int)) ∧ w' = W) := Lib.hid (fun b W ts h => by
            obtain ⟨P, h1, h2, h3, h4, h5⟩ := h.is
            have := lenX_any W (h1 b)
            rw [hln] at this
            exact this)
          have HLX := Lib.hid (fun W ts h => HLE.out false W ts h)
          have HLY := Lib.hid (fun W ts h => HLE.out true W ts h)
          simp only [cond_true, cond_false] at HLX HLY
          have HST : Hid (∀ W ts v v' us, TwS C w2 W gd (fun b => cond b gy gx) ld ((evs xs).take a) [(B12, #[.string roomR, .slice Av a cv])] ts → (v, us) ∈ ts → (v', us) ∈ ts → Calls Tryz.prog 18 #[v, v'] W fun e w' => e = .returned (.bool true) ∧ TwS C w2 w' gd (fun b => cond b gy gx) ld ((evs xs).take a) [(B12, #[.string roomR, .slice Av a cv])] ts) := Lib.hid (fun W ts v v' us h hm hm' => by
            obtain ⟨P, h1, h2, h3, h4, h5⟩ := h.is
            refine (sameTexts_any v v' us us W (h5 _ hm).1 (h5 _ hm').1).mono ?_
            rintro e w' ⟨rfl, dd, rfl⟩
            exact ⟨by rw [decide_eq_true rfl], h.later ⟨rfl, rfl, rfl, Nat.le_refl _, fun _ _ => rfl⟩⟩)
          have HLV : Hid (∀ W ts, TwS C w2 W gd (fun b => cond b gy gx) ld ((evs xs).take a) [(B12, #[.string roomR, .slice Av a cv])] ts → Calls Tryz.prog 17 #[] W fun e w' => e = .returned (.bool true) ∧ TwS C w2 w' gd (fun b => cond b gy gx) ld ((evs xs).take a) [(B12, #[.string roomR, .slice Av a cv])] ts) := Lib.hid (fun W ts h => by
            refine (HZ.out W (HTW.out _ _ _ _ h)).mono ?_
            rintro e w' ⟨rfl, b⟩
            exact ⟨rfl, h.later b⟩)
          have HXW : Hid (∀ W ts, TwS C w2 W gd (fun b => cond b gy gx) ld ((evs xs).take a) [(B12, #[.string roomR, .slice Av a cv])] ts → W.heap[B12]? = some (.cells #[.string roomR, .slice Av a cv] 26 (0, 0))) := Lib.hid (fun W ts h => by
            obtain ⟨P, h1, h2, h3, h4, h5⟩ := h.is
            exact (h4 _ List.mem_cons_self).1)
          have HEN : Hid (∀ W ts, TwS C w2 W gd (fun b => cond b gy gx) ld ((evs xs).take a) [(B12, #[.string roomR, .slice Av a cv])] ts → Below w.heap.size w W) := Lib.hid (fun W ts h => HB02.out.trans (h.bd.below.mono HB02.out.size))
          clear HAN HLE HEW hel HTW HZ HE2 HB02 HXD HTB HAR HW2
          generalize hLL : ((evs xs).take a) = l at *
          go_wp2_with fail
          go_loopw [13] (fun i wr => ∃ d : Nat, i = .int .i64 (d : Int) ∧ d ≤ 9 ∧ Hid (TwS C w2 wr gd (fun b => cond b gy gx) ld l [(B12, #[.string roomR, .slice Av a cv])] [])) (fun i _ => 9 - (intOf i).toNat)
          case atStart => exact ⟨0, rfl, Nat.zero_le _, HT9⟩
          case round =>
            obtain ⟨wm, hwm⟩ : ∃ wm, wm = wr := ⟨_, rfl⟩
            subst hwm
            obtain ⟨d, rfl, hd, HK⟩ := hrel
            clear HT9
            by_cases hd9 : d < 9
            · have q3 : decide ((d : Int) < 9) = true := decide_eq_true (by omega)
              have HEV := Lib.hid (fun W => eventOf_any (d : Int) W (by omega) (by omega))
              have hps := eventS_len9 (d : Int)
              generalize eventS (d : Int) = p at HEV hps
              go_wp2_with fail
              go_at_call 11
              refine (HEV.out _).mono ?_
              rintro e w10 ⟨rfl, b10⟩
              have HK1 := Lib.hid (HK.out.later b10)
              clear b10 HK HEV
              have r0 : w10.cell? ⟨B12, 0, none⟩ = some (.string roomR) := cell_at (HXW.out _ _ HK1.out) 0
              have r1 : w10.cell? ⟨B12, 1, none⟩ = some (.slice Av a cv) := cell_at (HXW.out _ _ HK1.out) 1
              go_wp2_with fail
              go_at_call 20
              refine (HWH.out _ _ p HK1.out hps).mono ?_
              rintro e w11 ⟨A1, c1, rfl, hk11⟩
              have HK2 := Lib.hid hk11
              clear hk11 HK1 r0 r1
              go_wp2_with fail
              go_at_call 19
              refine (HAX.out _ _ p HK2.out hps).mono ?_
              rintro e w12 ⟨A2, c2, rfl, hk12⟩
              have HK3 := Lib.hid hk12
              clear hk12 HK2
              go_wp2_with fail
              go_at_call 18
              refine (HST.out _ _ _ _ _ HK3.out List.mem_cons_self (List.mem_cons_of_mem _ List.mem_cons_self)).mono ?_
              rintro e w13 ⟨rfl, hk13⟩
              have HK4 := Lib.hid hk13
              clear hk13 HK3
              go_wp2_with fail
              go_at_call 19
              refine (HAY.out _ _ p HK4.out hps).mono ?_
              rintro e w14 ⟨A3, c3, rfl, hk14⟩
              have HK5 := Lib.hid hk14
              clear hk14 HK4
              go_wp2_with fail
              go_at_call 18
              refine (HST.out _ _ _ _ _ HK5.out List.mem_cons_self (List.mem_cons_of_mem _ (List.mem_cons_of_mem _ List.mem_cons_self))).mono ?_
              rintro e w15 ⟨rfl, hk15⟩
              have HK6 := Lib.hid (hk15.less (ts' := []) (fun p hp => (List.not_mem_nil hp).elim))
              clear hk15 HK5
              go_wp2_with fail
              refine ⟨⟨d + 1, by go_num, by omega, HK6⟩, ?_⟩
              simp [intOf]; omega
            · have q3 : decide ((d : Int) < 9) = false := decide_eq_false (by omega)
              go_wp2_with fail
              go_at_call 16
              refine (HLX.out _ _ HK.out).mono ?_
              rintro e w10 ⟨rfl, rfl⟩
              go_wp2_with fail
              go_at_call 16
              refine (HLY.out _ _ HK.out).mono ?_
              rintro e w11 ⟨rfl, rfl⟩
              go_wp2_with fail
              go_at_call 17
              refine (HLV.out _ _ HK.out).mono ?_
              rintro e w12 ⟨rfl, hk⟩
              have hbb := HEN.out _ _ hk
              clear hk HK
              go_wp2_with fail
              go_ret
              exact ⟨rfl, hbb⟩
end Go.Proofs.YtfbfdkibdjinaaaGreatDoor
