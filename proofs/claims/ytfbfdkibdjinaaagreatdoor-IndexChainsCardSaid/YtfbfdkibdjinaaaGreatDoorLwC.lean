/-
  IndexChains: what is ahead of one that is ahead is ahead, none of itself, no two of one another; it has a lesser position.
-/
import Derived.Test.YtfbfdkibdjinaaaGreatDoorI8D
namespace Go.Proofs.YtfbfdkibdjinaaaGreatDoor
set_option maxRecDepth 20000
open Go.RowKit
set_option linter.unusedVariables false
set_option linter.unusedSimpArgs false

/-- While an index and its dag are asked: the dag is new since w, the index is apart from it, boxes beside them, what else lies below B stays. -/
structure ChS (C : Dags) (w w2 wr : World) (gd gx : Nat) (l : List Ev) (bs : List (Nat × Obj)) : Prop where
  bd : BdS C w wr gd roomR l
  is : ∃ P, CX wr gx l P ∧ (∀ k, P k → w2.heap.size ≤ k ∧ ¬ C.own wr gd k) ∧ ∀ q ∈ bs, wr.heap[q.1]? = some q.2 ∧ ¬ C.own wr gd q.1 ∧ ¬ P q.1
  block : ∀ k, k < w2.heap.size → ¬ C.own w2 gd k → wr.heap[k]? = w2.heap[k]?
  owns : ∀ k, k < w2.heap.size → C.own wr gd k → C.own w2 gd k
  le : w.heap.size ≤ w2.heap.size ∧ w2.heap.size ≤ wr.heap.size
section
variable {C : Dags} {w w2 wr w' : World} {gd gx : Nat} {l : List Ev} {P : Nat → Prop} {bs : List (Nat × Obj)}
theorem ChS.ask (h : ChS C w w2 wr gd gx l bs) (hp : ∀ k, P k → w2.heap.size ≤ k ∧ ¬ C.own wr gd k) (hb : ∀ q ∈ bs, wr.heap[q.1]? = some q.2 ∧ ¬ C.own wr gd q.1 ∧ ¬ P q.1) (ha : AskX wr w' gx l P) : ChS C w w2 w' gd gx l bs := by
  obtain ⟨P', h1, h2, h3⟩ := ha
  obtain ⟨hc, ho⟩ := C.keep h.bd.code h2.size (fun k hk => h2.block k (C.old h.bd.code hk) (fun hh => (hp k hh).2 hk))
  refine ⟨⟨hc, h.bd.below.trans (h2.below (fun k hk => Nat.le_trans h.le.1 (hp k hk).1) h.bd.below.size), fun k hk => h.bd.fresh k (ho k hk)⟩, ⟨P', h1, fun k hk => ?_, fun q hq => ?_⟩, fun k hk hn => ?_, fun k hk hh => h.owns k hk (ho k hh), h.le.1, Nat.le_trans h.le.2 h2.size⟩
  · rcases h3 k hk with hh | hh
    · exact ⟨(hp k hh).1, fun e => (hp k hh).2 (ho k e)⟩
    · exact ⟨Nat.le_trans h.le.2 hh, fun e => by have := C.old h.bd.code (ho k e); omega⟩
  · obtain ⟨b1, b2, b3⟩ := hb q hq
    have hl := smem_lt b1
    refine ⟨(h2.block q.1 hl b3).trans b1, fun e => b2 (ho _ e), fun e => ?_⟩
    rcases h3 _ e with hh | hh
    · exact b3 hh
    · omega
  · rw [← h.block k hk hn]
    exact h2.block k (Nat.lt_of_lt_of_le hk h.le.2) (fun hh => by have := (hp k hh).1; omega)
theorem ChS.turn (h : ChS C w w2 wr gd gx l bs) (hc : C.CD w' gd roomR l) (ht : TurnD C.own wr w' gd) : ChS C w w2 w' gd gx l bs := by
  obtain ⟨P, h1, h2, hb⟩ := h.is
  refine ⟨h.bd.turn hc ht, ⟨P, h1.keep ht.size (fun k hk => ht.block k (h1.old k hk) (h2 k hk).2), fun k hk => ⟨(h2 k hk).1, fun e => ?_⟩, fun q hq => ?_⟩, fun k hk hn => ?_, fun k hk hh => ?_, h.le.1, Nat.le_trans h.le.2 ht.size⟩
  · rcases ht.owns k e with hh | hh
    · exact (h2 k hk).2 hh
    · have := h1.old k hk; omega
  · obtain ⟨b1, b2, b3⟩ := hb q hq
    have hl := smem_lt b1
    refine ⟨(ht.block q.1 hl b2).trans b1, fun e => ?_, b3⟩
    rcases ht.owns _ e with hh | hh
    · exact b2 hh
    · omega
  · rw [← h.block k hk hn]
    exact ht.block k (Nat.lt_of_lt_of_le hk h.le.2) (fun hh => hn (h.owns k hk hh))
  · rcases ht.owns k hh with e | e
    · exact h.owns k hk e
    · have := h.le.2; omega
theorem ChS.later (h : ChS C w w2 wr gd gx l bs) (hbw : Below wr.heap.size wr w') : ChS C w w2 w' gd gx l bs := by
  obtain ⟨P, h1, h2, hb⟩ := h.is
  obtain ⟨hc, ho⟩ := C.keep h.bd.code hbw.size (fun k hk => hbw.block k (C.old h.bd.code hk))
  refine ⟨h.bd.later hbw, ⟨P, h1.below hbw, fun k hk => ⟨(h2 k hk).1, fun e => (h2 k hk).2 (ho k e)⟩, fun q hq => ?_⟩, fun k hk hn => by rw [← h.block k hk hn]; exact hbw.block k (Nat.lt_of_lt_of_le hk h.le.2), fun k hk hh => h.owns k hk (ho k hh), h.le.1, Nat.le_trans h.le.2 hbw.size⟩
  obtain ⟨b1, b2, b3⟩ := hb q hq
  exact ⟨(hbw.block q.1 (smem_lt b1)).trans b1, fun e => b2 (ho _ e), b3⟩
theorem ChS.new (h : ChS C w w2 wr gd gx l bs) (hbw : Below wr.heap.size wr w') {k : Nat} {o : Obj} (hk : wr.heap.size ≤ k) (ho : w'.heap[k]? = some o) : ChS C w w2 w' gd gx l ((k, o) :: bs) := by
  have h' := h.later hbw
  obtain ⟨P, h1, h2, hb⟩ := h.is
  obtain ⟨hc, how⟩ := C.keep h.bd.code hbw.size (fun k hk => hbw.block k (C.old h.bd.code hk))
  refine ⟨h'.bd, ⟨P, h1.below hbw, fun k hk => ⟨(h2 k hk).1, fun e => (h2 k hk).2 (how k e)⟩, fun q hq => ?_⟩, h'.block, h'.owns, h'.le⟩
  rcases List.mem_cons.1 hq with rfl | hq
  · exact ⟨ho, fun e => by have := C.old h.bd.code (how _ e); simp only at this; omega, fun e => by have := h1.old _ e; simp only at this; omega⟩
  · obtain ⟨b1, b2, b3⟩ := hb q hq
    exact ⟨(hbw.block q.1 (smem_lt b1)).trans b1, fun e => b2 (how _ e), b3⟩
theorem ChS.less {bs' : List (Nat × Obj)} (h : ChS C w w2 wr gd gx l bs) (hs : ∀ q ∈ bs', q ∈ bs) : ChS C w w2 wr gd gx l bs' := by
  obtain ⟨P, h1, h2, hb⟩ := h.is
  exact ⟨h.bd, ⟨P, h1, h2, fun q hq => hb q (hs q hq)⟩, h.block, h.owns, h.le⟩
theorem ChS.box (h : ChS C w w2 wr gd gx l bs) {k : Nat} {o : Obj} (hq : (k, o) ∈ bs) : wr.heap[k]? = some o := by
  obtain ⟨P, h1, h2, hb⟩ := h.is
  exact (hb _ hq).1
end
theorem chain_pos {room : ByteArray} {l : List Ev} {a b : ByteArray} (hv : Valid room l) (h : aheadB l a b = true) : beforeP (posL l a) (posL l b) = true ∧ (posL l a).depth < (posL l b).depth := by
  have h1 := (aheadB_iff.1 h).less hv
  have h2 : (posL l a).depth < (posL l b).depth := by simp only [posL]; omega
  exact ⟨(pos_iff _ _).2 (.inl h2), h2⟩
theorem chain_cmp {a b : Po} (h : beforeP a b = true) : cmpP a b = -1 := by
  unfold cmpP
  rw [h]
  rfl
theorem chain_back {room : ByteArray} {l : List Ev} {a b : ByteArray} (hv : Valid room l) (h : aheadB l a b = true) : aheadB l b a = false := by
  cases hh : aheadB l b a with
  | false => rfl
  | true => exact ((aheadB_iff.1 h).trans (aheadB_iff.1 hh)).irrefl hv |>.elim
theorem chain_trans {l : List Ev} {a b c : ByteArray} (h : aheadB l a b = true) (h' : aheadB l b c = true) : aheadB l a c = true := aheadB_iff.2 ((aheadB_iff.1 h).trans (aheadB_iff.1 h'))

set_option maxHeartbeats 6400000 in
theorem indexChains_walk (C : Dags) (CA : DagAlls C) (v : Value) (gs : List GV) (w : World) (h : GsS w v gs) (ht : TabW w) :
    Calls Tryz.prog 5 #[v] w fun e w' => e = .returned (.bool true) ∧ Below w.heap.size w w' := by
  have HTB := Lib.hid ht
  have hw0 := ht.1
  have HBU := Lib.hid (build8_any C v gs w h hw0)
  have HZ := Lib.hid (fun W (hh : TabW W) => lives8_any C CA W hh)
  obtain ⟨A0, c0, rfl, -⟩ := id h.1
  clear h ht
  go_enter Tryz.func5, Tryz.ntmps5
  go_wp2_with fail
  go_at_call 8
  refine HBU.out.mono ?_
  rintro e w1 ⟨gd, v', xs, rfl, hbt⟩
  obtain ⟨Av, cv, rfl, -, hv2, -⟩ := id hbt.evs.1
  have hv3 : cv ≤ 9223372036854775807 := by unfold maxLen at hv2; omega
  have hxl := hbt.len
  have HVL : Hid (Valid roomR (evs xs)) := Lib.hid (C.valid hbt.bd.code)
  have hb2 := below_new w1 (.cells #[.string roomR, .slice Av xs.length cv] 26)
  have HX2 := Lib.hid (heap_alloc_new w1 (.cells #[.string roomR, .slice Av xs.length cv] 26))
  have HD2 := Lib.hid (hbt.bd.later hb2)
  have HE2 := Lib.hid (hbt.evs.below hb2)
  have HOF2 : Hid (∀ k, footE (.slice Av xs.length cv) xs k → ¬ C.own (w1.alloc (.cells #[.string roomR, .slice Av xs.length cv] 26)) gd k) := Lib.hid (fun k hk ho => hbt.off k hk ((C.keep hbt.bd.code hb2.size (fun k hk => hb2.block k (C.old hbt.bd.code hk))).2 k ho))
  have HOB2 : Hid (¬ C.own (w1.alloc (.cells #[.string roomR, .slice Av xs.length cv] 26)) gd w1.heap.size) := Lib.hid (fun ho => by
    have := C.old hbt.bd.code ((C.keep hbt.bd.code hb2.size (fun k hk => hb2.block k (C.old hbt.bd.code hk))).2 _ ho)
    omega)
  clear hbt hb2 HBU hv2
  go_upto_region 2 with (fail)
  generalize w1.alloc _ = w2 at HX2 HD2 HE2 HOF2 HOB2 ⊢
  generalize w1.heap.size = B4 at HX2 HOB2 ⊢
  have HOF := Lib.hid (of_any C CA w2 HD2.out.code (by rw [evs_len]; exact hxl))
  go_wp2_with fail
  go_at_call 9
  refine HOF.out.mono ?_
  rintro e w3 ⟨gx, P, rfl, hx, hp, hc3, ht3⟩
  have HD3 := Lib.hid (HD2.out.turn hc3 ht3)
  have hB4 := smem_lt HX2.out
  have hws := HD2.out.below.size
  have HA3 : Hid (ChS C w w2 w3 gd gx (evs xs) []) := Lib.hid ⟨HD3.out, ⟨P, hx, hp, fun q hq => by cases hq⟩, ht3.block, fun k hk hh => by
    rcases ht3.owns k hh with e | e
    · exact e
    · omega, hws, ht3.size⟩
  have HXW : Hid (∀ W bs, ChS C w w2 W gd gx (evs xs) bs → W.heap[B4]? = some (.cells #[.string roomR, .slice Av xs.length cv] 26 (0, 0))) := Lib.hid (fun W bs hW => (hW.block B4 hB4 HOB2.out).trans HX2.out)
  have HEW : Hid (∀ W bs, ChS C w w2 W gd gx (evs xs) bs → EvsS W (.slice Av xs.length cv) xs) := Lib.hid (fun W bs hW => HE2.out.stay hW.le.2 (fun k hk hf => hW.block k hk (HOF2.out k hf)))
  have HTW : Hid (∀ W bs, ChS C w w2 W gd gx (evs xs) bs → TabW W) := Lib.hid (fun W bs hW => HTB.out.below hW.bd.below hw0)
  have HAH : Hid (∀ W bs a b, ChS C w w2 W gd gx (evs xs) bs → a.size ≤ maxLen → b.size ≤ maxLen → Calls Tryz.prog 12 #[.pointer (some ⟨gx, 0, none⟩), .string a, .string b] W fun e w' => e = .returned (.bool (aheadB (evs xs) a b)) ∧ ChS C w w2 w' gd gx (evs xs) bs) := Lib.hid (fun W bs a b h ha hb => by
    obtain ⟨P, h1, h2, h3⟩ := h.is
    refine (ahead_any W h1 a b ha hb).mono ?_
    rintro e w' ⟨rfl, hk⟩
    exact ⟨rfl, h.ask h2 h3 hk⟩)
  have HPO : Hid (∀ W bs a, ChS C w w2 W gd gx (evs xs) bs → a.size ≤ maxLen → hasE (evs xs) a = true → Calls Tryz.prog 23 #[.pointer (some ⟨gd, 0, none⟩), .string a] W fun e w' => e = .returned (.tuple #[.agg #[.int .i64 ((depthL (evs xs) a : Nat) : Int), .string a], .bool true]) ∧ ChS C w w2 w' gd gx (evs xs) bs) := Lib.hid (fun W bs a h ha hh => by
    refine (C.position a h.bd.code (by rw [evs_len]; omega) ha).mono ?_
    rintro e w' ⟨p, rfl, hp, hc, ht⟩
    obtain rfl := hp hh
    exact ⟨by rw [hh]; rfl, h.turn hc ht⟩)
  have HCM : Hid (∀ W bs p q, ChS C w w2 W gd gx (evs xs) bs → Calls Tryz.prog 24 #[.agg #[.int .i64 p.depth, .string p.id], .agg #[.int .i64 q.depth, .string q.id]] W fun e w' => e = .returned (.int .i64 (cmpP p q)) ∧ ChS C w w2 w' gd gx (evs xs) bs) := Lib.hid (fun W bs p q h => by
    refine (C.compare p q).mono ?_
    rintro e w' ⟨rfl, hb⟩
    exact ⟨rfl, h.later hb⟩)
  have HIDS : Hid (∀ x ∈ xs, x.ev.id.size ≤ maxLen) := Lib.hid (fun x hx => (HE2.out.2 x hx).2.1)
  clear hx hp hc3 ht3 HOF HX2 HD2 HE2 HOF2 HOB2
  have d1 : w3.cell? ⟨B4, 1, none⟩ = some (.slice Av xs.length cv) := cell_at (HXW.out _ _ HA3.out) 1
  go_wp2_with fail
  clear d1
  go_loopw [7] (fun i wr => ∃ a : Nat, i = .int .i64 (a : Int) ∧ a ≤ xs.length ∧ Hid (ChS C w w2 wr gd gx (evs xs) [])) (fun i _ => xs.length - (intOf i).toNat)
  case atStart => exact ⟨0, rfl, Nat.zero_le _, HA3⟩
  case round =>
    obtain ⟨wi, hwi⟩ : ∃ wi, wi = wr := ⟨_, rfl⟩
    subst hwi
    clear HA3
    obtain ⟨a, rfl, ha, HI⟩ := hrel
    by_cases hax : a < xs.length
    · have q1 : decide ((a : Int) < (xs.length : Int)) = true := decide_eq_true (by omega)
      have hxa : xs[a]? = some xs[a] := List.getElem?_eq_getElem hax
      generalize xs[a] = x at hxa
      have HXA := Lib.hid hxa
      clear hxa
      go_wp2_with fail
      go_loopw [8] (fun i wr => ∃ c : Nat, i = .int .i64 (c : Int) ∧ c ≤ xs.length ∧ Hid (ChS C w w2 wr gd gx (evs xs) [])) (fun i _ => xs.length - (intOf i).toNat)
      case atStart => exact ⟨0, rfl, Nat.zero_le _, HI⟩
      case round =>
        obtain ⟨wk, hwk⟩ : ∃ wk, wk = wr := ⟨_, rfl⟩
        subst hwk
        clear HI
        obtain ⟨c, rfl, hc, HK⟩ := hrel
        by_cases hcx : c < xs.length
        · have q2 : decide ((c : Int) < (xs.length : Int)) = true := decide_eq_true (by omega)
          have d1 : wk.cell? ⟨B4, 1, none⟩ = some (.slice Av xs.length cv) := cell_at (HXW.out _ _ HK.out) 1
          have hyc : xs[c]? = some xs[c] := List.getElem?_eq_getElem hcx
          generalize xs[c] = y at hyc
          have HYC := Lib.hid hyc
          have hxid := HIDS.out x (List.mem_of_getElem? HXA.out)
          have hyid := HIDS.out y (List.mem_of_getElem? hyc)
          have HHX : Hid (hasE (evs xs) x.ev.id = true) := Lib.hid (has_iff.2 ⟨x.ev, List.mem_of_getElem? (evs_get HXA.out), rfl⟩)
          have HHY : Hid (hasE (evs xs) y.ev.id = true) := Lib.hid (has_iff.2 ⟨y.ev, List.mem_of_getElem? (evs_get hyc), rfl⟩)
          obtain ⟨b, off, rfl, hb, hr⟩ := ev_at (HEW.out _ _ HK.out) hyc
          obtain ⟨b', off', hA', hb', hr'⟩ := ev_at (HEW.out _ _ HK.out) HXA.out
          injection hA' with hA'
          injection hA' with hA1 hA2
          subst hA1
          subst hA2
          have hix := index_any (P := Tryz.prog) knV (by decide) (b := b) (off := off) (cap := cv) hcx
          have hia := index_any (P := Tryz.prog) knV (by decide) (b := b) (off := off) (cap := cv) hax
          simp only [LV] at hix hia
          obtain ⟨e0, -, -, -, -, -⟩ := ev_cells hr
          obtain ⟨f0, -, -, -, -, -⟩ := ev_cells hr'
          clear hyc hr hr' hix hia
          have hix := index_any (P := Tryz.prog) knV (by decide) (b := b) (off := off) (cap := cv) hcx
          have hia := index_any (P := Tryz.prog) knV (by decide) (b := b) (off := off) (cap := cv) hax
          simp only [LV] at hix hia
          have HQ := Lib.hid (HAH.out wk [] x.ev.id y.ev.id HK.out hxid hyid)
          generalize hab : aheadB (evs xs) x.ev.id y.ev.id = ab at HQ
          go_wp2_with fail
          go_at_call 12
          refine HQ.out.mono ?_
          rintro e wq ⟨rfl, hak⟩
          have HK1 := Lib.hid hak
          clear hak HQ HK d1 e0 f0
          have HQ := Lib.hid (HPO.out wq [] x.ev.id HK1.out hxid HHX.out)
          have HHH := Lib.hid hab
          generalize hda : depthL (evs xs) x.ev.id = da at HQ
          have HDA := Lib.hid hda
          go_wp2_with fail
          go_at_call 23
          refine HQ.out.mono ?_
          rintro e w5 ⟨rfl, hk5⟩
          have HK5 := Lib.hid (hk5.new (below_new w5 (.cells #[.int .i64 (da : Int), .string x.ev.id] 47)) (Nat.le_refl _) (heap_alloc_new w5 _))
          clear hk5 HQ HK1 hda
          go_upto_region 18 with (fail)
          generalize w5.alloc _ = w6 at HK5 ⊢
          generalize w5.heap.size = B12 at HK5 ⊢
          have HQ := Lib.hid (HPO.out w6 _ y.ev.id HK5.out hyid HHY.out)
          generalize hdb : depthL (evs xs) y.ev.id = db at HQ
          have HDB := Lib.hid hdb
          go_wp2_with fail
          go_at_call 23
          refine HQ.out.mono ?_
          rintro e w7 ⟨rfl, hk7⟩
          have HK7 := Lib.hid (hk7.new (below_new w7 (.cells #[.int .i64 (db : Int), .string y.ev.id] 47)) (Nat.le_refl _) (heap_alloc_new w7 _))
          clear hk7 HQ HK5 hdb
          go_upto_region 19 with (fail)
          generalize w7.alloc _ = w8 at HK7 ⊢
          generalize w7.heap.size = B14 at HK7 ⊢
          cases ab with
          | false =>
            have HK9 := Lib.hid (HK7.out.less (bs' := []) (fun q hq => by cases hq))
            clear HK7 hab
            go_wp2_with fail
            go_loopw [16] (fun i wr => i = .int .i64 0 ∧ wr = w8) (fun i _ => 0)
            case atStart => exact ⟨rfl, rfl⟩
            case round =>
              obtain ⟨rfl, rfl⟩ := hrel
              have q3 : decide ((0 : Int) < (xs.length : Int)) = true := decide_eq_true (by omega)
              go_wp2_with fail
              refine ⟨⟨c + 1, by go_num, by omega, HK9⟩, ?_⟩
              simp [intOf]; omega
          | true =>
            have hne : a ≠ c := fun e => by
              subst e
              have h1 := HXA.out
              rw [HYC.out] at h1
              injection h1 with h1
              subst h1
              exact (aheadB_iff.1 hab).irrefl HVL.out
            have q3 : ((a : Int) == (c : Int)) = false := by rw [beq_eq_false_iff_ne]; omega
            have HQ := Lib.hid (HAH.out w8 _ y.ev.id x.ev.id HK7.out hyid hxid)
            rw [chain_back HVL.out hab] at HQ
            have hpo := chain_pos HVL.out hab
            have HPX : Hid (posL (evs xs) x.ev.id = ⟨(da : Int), x.ev.id⟩) := Lib.hid (by unfold posL; rw [HDA.out])
            have HPY : Hid (posL (evs xs) y.ev.id = ⟨(db : Int), y.ev.id⟩) := Lib.hid (by unfold posL; rw [HDB.out])
            rw [HPX.out, HPY.out] at hpo
            have HCP := Lib.hid (chain_cmp hpo.1)
            have q4 : decide (db ≤ da) = false := decide_eq_false (by have h9 : (da : Int) < (db : Int) := hpo.2; omega)
            clear hpo hab hne
            go_wp2_with fail
            go_at_call 12
            refine HQ.out.mono ?_
            rintro e w9 ⟨rfl, hk9⟩
            have HK9 := Lib.hid hk9
            clear hk9 HQ HK7
            have HQ := Lib.hid (HCM.out w9 _ ⟨(da : Int), x.ev.id⟩ ⟨(db : Int), y.ev.id⟩ HK9.out)
            rw [HCP.out] at HQ
            have p0 : w9.cell? ⟨B12, 0, none⟩ = some (.int .i64 (da : Int)) := cell_at (HK9.out.box (k := B12) (List.mem_cons_of_mem _ List.mem_cons_self)) 0
            have p1 : w9.cell? ⟨B12, 1, none⟩ = some (.string x.ev.id) := cell_at (HK9.out.box (k := B12) (List.mem_cons_of_mem _ List.mem_cons_self)) 1
            have p2 : w9.cell? ⟨B14, 0, none⟩ = some (.int .i64 (db : Int)) := cell_at (HK9.out.box (k := B14) List.mem_cons_self) 0
            have p3 : w9.cell? ⟨B14, 1, none⟩ = some (.string y.ev.id) := cell_at (HK9.out.box (k := B14) List.mem_cons_self) 1
            go_wp2_with fail
            go_at_call 24
            refine HQ.out.mono ?_
            rintro e wa ⟨rfl, hka⟩
            have HKA := Lib.hid hka
            clear hka HQ HK9 p0 p1 p2 p3
            have p0 : wa.cell? ⟨B12, 0, none⟩ = some (.int .i64 (da : Int)) := cell_at (HKA.out.box (k := B12) (List.mem_cons_of_mem _ List.mem_cons_self)) 0
            have p2 : wa.cell? ⟨B14, 0, none⟩ = some (.int .i64 (db : Int)) := cell_at (HKA.out.box (k := B14) List.mem_cons_self) 0
            go_upto_region 21 with (fail)
            have HKB := Lib.hid (HKA.out.less (bs' := []) (fun q hq => by cases hq))
            clear HKA p0 p2 HCP q4
            go_wp2_with fail
            go_loopw [16] (fun i wr => ∃ d : Nat, i = .int .i64 (d : Int) ∧ d ≤ xs.length ∧ Hid (ChS C w w2 wr gd gx (evs xs) [])) (fun i _ => xs.length - (intOf i).toNat)
            case atStart => exact ⟨0, rfl, Nat.zero_le _, HKB⟩
            case round =>
              clear HKB
              obtain ⟨d, rfl, hd, HJ⟩ := hrel
              have d1 : wr.cell? ⟨B4, 1, none⟩ = some (.slice (some ⟨b, off, none⟩) xs.length cv) := cell_at (HXW.out _ _ HJ.out) 1
              by_cases hdx : d < xs.length
              · have q5 : decide ((d : Int) < (xs.length : Int)) = true := decide_eq_true (by omega)
                have hzd : xs[d]? = some xs[d] := List.getElem?_eq_getElem hdx
                generalize xs[d] = z at hzd
                have hzid := HIDS.out z (List.mem_of_getElem? hzd)
                have HZC : Hid (∀ W, ChS C w w2 W gd gx (evs xs) [] → W.cell? ⟨b, off + d * 6, none⟩ = some (.string z.ev.id)) := Lib.hid (fun W hW => by
                  obtain ⟨b', off', hA', hb', hr'⟩ := ev_at (HEW.out _ _ hW) hzd
                  injection hA' with hA'
                  injection hA' with hA1 hA2
                  subst hA1
                  subst hA2
                  exact (ev_cells hr').1)
                have hiz := index_any (P := Tryz.prog) knV (by decide) (b := b) (off := off) (cap := cv) hdx
                simp only [LV] at hiz
                have z0 := HZC.out _ HJ.out
                have HQ := Lib.hid (HAH.out wr [] y.ev.id z.ev.id HJ.out hyid hzid)
                generalize hyz : aheadB (evs xs) y.ev.id z.ev.id = yz at HQ
                have HYZ := Lib.hid hyz
                clear hzd hyz
                go_wp2_with fail
                go_at_call 12
                refine HQ.out.mono ?_
                rintro e wb ⟨rfl, hkb⟩
                have HKC := Lib.hid hkb
                clear hkb HQ HJ d1 z0
                cases yz with
                | false =>
                  go_wp2_with fail
                  refine ⟨⟨d + 1, by go_num, by omega, HKC⟩, ?_⟩
                  simp [intOf]; omega
                | true =>
                  have d1 : wb.cell? ⟨B4, 1, none⟩ = some (.slice (some ⟨b, off, none⟩) xs.length cv) := cell_at (HXW.out _ _ HKC.out) 1
                  have z0 := HZC.out _ HKC.out
                  have HQ := Lib.hid (HAH.out wb [] x.ev.id z.ev.id HKC.out hxid hzid)
                  rw [chain_trans HHH.out HYZ.out] at HQ
                  go_wp2_with fail
                  go_at_call 12
                  refine HQ.out.mono ?_
                  rintro e wc ⟨rfl, hkc⟩
                  have HKD := Lib.hid hkc
                  clear hkc HQ HKC d1 z0
                  go_wp2_with fail
                  refine ⟨⟨d + 1, by go_num, by omega, HKD⟩, ?_⟩
                  simp [intOf]; omega
              · have q5 : decide ((d : Int) < (xs.length : Int)) = false := decide_eq_false (by omega)
                go_wp2_with fail
                refine ⟨⟨c + 1, by go_num, by omega, HJ⟩, ?_⟩
                simp [intOf]; omega
        · have q2 : decide ((c : Int) < (xs.length : Int)) = false := decide_eq_false (by omega)
          go_wp2_with fail
          refine ⟨⟨a + 1, by go_num, by omega, HK⟩, ?_⟩
          simp [intOf]; omega
    · have q1 : decide ((a : Int) < (xs.length : Int)) = false := decide_eq_false (by omega)
      have HLV := Lib.hid (HZ.out wi (HTW.out _ _ HI.out))
      go_wp2_with fail
      go_at_call 17
      refine HLV.out.mono ?_
      rintro e wl ⟨rfl, hbl⟩
      have HBF := Lib.hid (HI.out.bd.below.trans (hbl.mono HI.out.bd.below.size))
      go_wp2_with fail
      go_ret
      exact ⟨rfl, HBF.out⟩
end Go.Proofs.YtfbfdkibdjinaaaGreatDoor
