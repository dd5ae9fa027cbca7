/-
  IndexLists: all that are ahead of an event, behind it, and ahead of two, are the document's.
-/
import Derived.Test.YtfbfdkibdjinaaaGreatDoorRfW
import Derived.Test.YtfbfdkibdjinaaaGreatDoorI8D
namespace Go.Proofs.YtfbfdkibdjinaaaGreatDoor
set_option maxRecDepth 20000
open Go.RowKit
set_option linter.unusedVariables false
set_option linter.unusedSimpArgs false

/-- While an index is asked: all below w2's end but the dag's own stays; rows of texts beside it. -/
structure LiS (C : Dags) (w w2 wr : World) (gd gx : Nat) (l : List Ev) (ts : List (Value × List ByteArray)) : Prop where
  bd : BdS C w wr gd roomR l
  is : ∃ P, CX wr gx l P ∧ (∀ k, P k → w2.heap.size ≤ k ∧ ¬ C.own wr gd k) ∧ ∀ p ∈ ts, LT.Slice wr p.1 p.2 ∧ ∀ k, 0 < p.2.length → p.1.ownBlock = some k → ¬ P k
  block : ∀ k, k < w2.heap.size → ¬ C.own w2 gd k → wr.heap[k]? = w2.heap[k]?
  owns : ∀ k, k < w2.heap.size → C.own wr gd k → C.own w2 gd k
  le : w.heap.size ≤ w2.heap.size ∧ w2.heap.size ≤ wr.heap.size
section
variable {C : Dags} {w w2 wr w' : World} {gd gx : Nat} {l : List Ev} {ts ts' : List (Value × List ByteArray)} {P : Nat → Prop}
theorem LiS.less (h : LiS C w w2 wr gd gx l ts) (hs : ∀ p ∈ ts', p ∈ ts) : LiS C w w2 wr gd gx l ts' := by
  obtain ⟨P, h1, h2, h3⟩ := h.is
  exact ⟨h.bd, ⟨P, h1, h2, fun p hp => h3 p (hs p hp)⟩, h.block, h.owns, h.le⟩
theorem LiS.later (h : LiS C w w2 wr gd gx l ts) (hb : Below wr.heap.size wr w') : LiS C w w2 w' gd gx l ts := by
  obtain ⟨P, h1, h2, h3⟩ := h.is
  obtain ⟨hc, ho⟩ := C.keep h.bd.code hb.size (fun k hk => hb.block k (C.old h.bd.code hk))
  exact ⟨h.bd.later hb, ⟨P, h1.below hb, fun k hk => ⟨(h2 k hk).1, fun e => (h2 k hk).2 (ho k e)⟩, fun p hp => ⟨(h3 p hp).1.below hb, (h3 p hp).2⟩⟩, fun k hk hn => by rw [← h.block k hk hn]; exact hb.block k (Nat.lt_of_lt_of_le hk h.le.2), fun k hk hh => h.owns k hk (ho k hh), h.le.1, Nat.le_trans h.le.2 hb.size⟩
/-- A row that was told by a call that only made memory. -/
theorem LiS.told (h : LiS C w w2 wr gd gx l ts) (hb : Below wr.heap.size wr w') {v : Value} {us : List ByteArray} (hm : LT.Mine w' wr.heap.size v us) : LiS C w w2 w' gd gx l ((v, us) :: ts) := by
  have h' := h.later hb
  obtain ⟨P, h1, h2, h3⟩ := h.is
  obtain ⟨hc, ho⟩ := C.keep h.bd.code hb.size (fun k hk => hb.block k (C.old h.bd.code hk))
  refine ⟨h'.bd, ⟨P, h1.below hb, fun k hk => ⟨(h2 k hk).1, fun e => (h2 k hk).2 (ho k e)⟩, fun p hp => ?_⟩, h'.block, h'.owns, h'.le⟩
  rcases List.mem_cons.1 hp with rfl | hp
  · exact ⟨hm.slice, fun k _ hk e => by
      have a1 := h1.old k e
      have a2 := (hm.lt k hk).1
      omega⟩
  · exact ⟨(h3 p hp).1.below hb, (h3 p hp).2⟩
/-- A row that the index has told. -/
theorem LiS.asked (h : LiS C w w2 wr gd gx l ts) (hp : ∀ k, P k → w2.heap.size ≤ k ∧ ¬ C.own wr gd k) (ht : ∀ p ∈ ts, LT.Slice wr p.1 p.2 ∧ ∀ k, 0 < p.2.length → p.1.ownBlock = some k → ¬ P k) {v : Value} {us : List ByteArray} (ha : AskV wr w' gx l P v) (hm : LT.Mine w' wr.heap.size v us) : LiS C w w2 w' gd gx l ((v, us) :: ts) := by
  obtain ⟨P', h1, h2, h3, h4⟩ := ha
  obtain ⟨hc, ho⟩ := C.keep h.bd.code h2.size (fun k hk => h2.block k (C.old h.bd.code hk) (fun hh => (hp k hh).2 hk))
  refine ⟨⟨hc, h.bd.below.trans (h2.below (fun k hk => Nat.le_trans h.le.1 (hp k hk).1) h.bd.below.size), fun k hk => h.bd.fresh k (ho k hk)⟩, ⟨P', h1, fun k hk => ?_, fun p hpp => ?_⟩, fun k hk hn => ?_, fun k hk hh => h.owns k hk (ho k hh), h.le.1, Nat.le_trans h.le.2 h2.size⟩
  · rcases h3 k hk with hh | hh
    · exact ⟨(hp k hh).1, fun e => (hp k hh).2 (ho k e)⟩
    · exact ⟨Nat.le_trans h.le.2 hh, fun e => by have := C.old h.bd.code (ho k e); omega⟩
  · rcases List.mem_cons.1 hpp with rfl | hpp
    · exact ⟨hm.slice, fun k _ hk => h4 k hk⟩
    · obtain ⟨a1, a2⟩ := ht p hpp
      refine ⟨a1.stay0 h2.size (fun k hk h0 hv => h2.block k hk (a2 k h0 hv)), fun k h0 hv e => ?_⟩
      have hl := a1.foot h0 hv
      rcases h3 k e with hh | hh
      · exact a2 k h0 hv hh
      · omega
  · rw [← h.block k hk hn]
    exact h2.block k (Nat.lt_of_lt_of_le hk h.le.2) (fun hh => by have := (hp k hh).1; omega)
end
theorem none_id : ∀ k : Fin 9, eventK k.val ≠ (⟨#[36, 110, 111, 110, 101]⟩ : ByteArray) := by decide +kernel
def noneS : ByteArray := ⟨#[36, 110, 111, 110, 101]⟩
theorem ahead_no {room : ByteArray} {l : List Ev} {a : ByteArray} (hv : Valid room l) (hh : hasE l a = false) (b : ByteArray) : aheadB l b a = false ∧ aheadB l a b = false := by
  constructor
  · cases h2 : aheadB l b a with
    | false => rfl
    | true => rw [(aheadB_iff.1 h2).last] at hh; cases hh
  · cases h2 : aheadB l a b with
    | false => rfl
    | true => rw [(aheadB_iff.1 h2).first hv] at hh; cases hh
theorem lists_none {room : ByteArray} {l : List Ev} {a : ByteArray} (hv : Valid room l) (hh : hasE l a = false) (b : ByteArray) : ancL l a = [] ∧ behindL l a = [] ∧ commonL l b a = [] := by
  refine ⟨?_, behind_none hv hh, ?_⟩
  · unfold ancL
    rw [List.map_eq_nil_iff, List.filter_eq_nil_iff]
    intro f _
    simp [(ahead_no hv hh f.id).1]
  · unfold commonL
    rw [List.map_eq_nil_iff, List.filter_eq_nil_iff]
    intro f _
    simp [(ahead_no hv hh f.id).1]
theorem eventS_len9 (n : Int) : (eventS n).size ≤ maxLen := by
  have : ∀ k : Fin 9, (eventK k.val).size ≤ 3 := by decide +kernel
  have h := this ⟨aroundN n 9, aroundN_lt n (m := 9) (by decide)⟩
  show (eventK (aroundN n 9)).size ≤ maxLen
  unfold maxLen
  exact Nat.le_trans h (by decide)

set_option maxHeartbeats 12800000 in
theorem indexLists_walk (C : Dags) (CA : DagAlls C) (v : Value) (gs : List GV) (na nb : Int) (w : World) (h : GsS w v gs) (hna : i64B na) (hnb : i64B nb) (ht : TabW w) :
    Calls Tryz.prog 4 #[v, .int .i64 na, .int .i64 nb] w fun e w' => e = .returned (.bool true) ∧ Below w.heap.size w w' := by
  have HTB := Lib.hid ht
  have hw0 := ht.1
  have HBU := Lib.hid (build8_any C v gs w h hw0)
  have HZ := Lib.hid (fun W (hh : TabW W) => lives8_any C CA W hh)
  obtain ⟨A0, c0, rfl, -⟩ := id h.1
  clear h ht
  go_enter Tryz.func4, Tryz.ntmps4
  go_wp2_with fail
  go_at_call 8
  refine HBU.out.mono ?_
  rintro e w1 ⟨gd, v', xs, rfl, hbt⟩
  obtain ⟨Av, cv, rfl, -, hv2, -⟩ := id hbt.evs.1
  have hv3 : cv ≤ 9223372036854775807 := by unfold maxLen at hv2; omega
  have hxl := hbt.len
  have HIDS : Hid (∀ e ∈ evs xs, ∃ k : Fin 9, e.id = eventK k.val) := Lib.hid hbt.ids
  have HVL : Hid (Valid roomR (evs xs)) := Lib.hid (C.valid hbt.bd.code)
  have hb2 := below_new w1 (.cells #[.string roomR, .slice Av xs.length cv] 26)
  have HX2 := Lib.hid (heap_alloc_new w1 (.cells #[.string roomR, .slice Av xs.length cv] 26))
  have HD2 := Lib.hid (hbt.bd.later hb2)
  have HE2 := Lib.hid (hbt.evs.below hb2)
  have HOF2 : Hid (∀ k, footE (.slice Av xs.length cv) xs k → ¬ C.own (w1.alloc (.cells #[.string roomR, .slice Av xs.length cv] 26)) gd k) := Lib.hid (fun k hk ho => hbt.off k hk ((C.keep hbt.bd.code hb2.size (fun k hk => hb2.block k (C.old hbt.bd.code hk))).2 k ho))
  have HOB2 : Hid (¬ C.own (w1.alloc (.cells #[.string roomR, .slice Av xs.length cv] 26)) gd w1.heap.size) := Lib.hid (fun ho => by
    have := C.old hbt.bd.code ((C.keep hbt.bd.code hb2.size (fun k hk => hb2.block k (C.old hbt.bd.code hk))).2 _ ho)
    omega)
  clear hbt hb2 HBU hv2
  go_upto_region 2 with (fail)
  generalize w1.alloc _ = w2 at HX2 HD2 HE2 HOF2 HOB2 ⊢
  generalize w1.heap.size = B4 at HX2 HOB2 ⊢
  have HOF := Lib.hid (of_any C CA w2 HD2.out.code (by rw [evs_len]; exact hxl))
  go_wp2_with fail
  go_at_call 9
  refine HOF.out.mono ?_
  rintro e w3 ⟨gx, P, rfl, hx, hp, hc3, ht3⟩
  have HD3 := Lib.hid (HD2.out.turn hc3 ht3)
  have hB4 := smem_lt HX2.out
  have hws := HD2.out.below.size
  have HNO : Hid (hasE (evs xs) noneS = false) := Lib.hid (by
    rw [Bool.eq_false_iff]
    intro hh
    obtain ⟨y, hy, hyn⟩ := has_iff.1 hh
    obtain ⟨k, hk⟩ := HIDS.out y hy
    rw [hk] at hyn
    exact none_id k hyn)
  have HK3 : Hid (LiS C w w2 w3 gd gx (evs xs) []) := Lib.hid ⟨HD3.out, ⟨P, hx, hp, fun q hq => by cases hq⟩, ht3.block, fun k hk hh => by
    rcases ht3.owns k hh with e | e
    · exact e
    · omega, hws, ht3.size⟩
  have HXW : Hid (∀ W ts, LiS C w w2 W gd gx (evs xs) ts → W.heap[B4]? = some (.cells #[.string roomR, .slice Av xs.length cv] 26 (0, 0))) := Lib.hid (fun W ts hW => (hW.block B4 hB4 HOB2.out).trans HX2.out)
  have HEW : Hid (∀ W ts, LiS C w w2 W gd gx (evs xs) ts → EvsS W (.slice Av xs.length cv) xs) := Lib.hid (fun W ts hW => HE2.out.stay hW.le.2 (fun k hk hf => hW.block k hk (HOF2.out k hf)))
  have HTW : Hid (∀ W ts, LiS C w w2 W gd gx (evs xs) ts → TabW W) := Lib.hid (fun W ts hW => HTB.out.below hW.bd.below hw0)
  have HAN : Hid (∀ W ts a, LiS C w w2 W gd gx (evs xs) ts → a.size ≤ maxLen → Calls Tryz.prog 19 #[.pointer (some ⟨gx, 0, none⟩), .string a] W fun e w' => ∃ A c, e = .returned (.slice A (ancL (evs xs) a).length c) ∧ LiS C w w2 w' gd gx (evs xs) ((.slice A (ancL (evs xs) a).length c, ancL (evs xs) a) :: ts)) := Lib.hid (fun W ts a h ha => by
    obtain ⟨P, h1, h2, h3⟩ := h.is
    refine (ancestors_any W h1 a ha (HTW.out _ _ h) (fun e => by have := (h2 0 e).1; have := h.le.1; omega)).mono ?_
    rintro e w' ⟨v, rfl, m, k⟩
    obtain ⟨A, c, rfl, -⟩ := id m.shape
    exact ⟨A, c, rfl, h.asked h2 h3 k m⟩)
  have HBE : Hid (∀ W ts a, LiS C w w2 W gd gx (evs xs) ts → a.size ≤ maxLen → Calls Tryz.prog 21 #[.pointer (some ⟨gx, 0, none⟩), .string a] W fun e w' => ∃ A c, e = .returned (.slice A (behindL (evs xs) a).length c) ∧ LiS C w w2 w' gd gx (evs xs) ((.slice A (behindL (evs xs) a).length c, behindL (evs xs) a) :: ts)) := Lib.hid (fun W ts a h ha => by
    obtain ⟨P, h1, h2, h3⟩ := h.is
    refine (behind_any W h1 a ha).mono ?_
    rintro e w' ⟨v, rfl, m, k⟩
    obtain ⟨A, c, rfl, -⟩ := id m.shape
    exact ⟨A, c, rfl, h.asked h2 h3 k m⟩)
  have HCO : Hid (∀ W ts a b, LiS C w w2 W gd gx (evs xs) ts → a.size ≤ maxLen → b.size ≤ maxLen → Calls Tryz.prog 22 #[.pointer (some ⟨gx, 0, none⟩), .string a, .string b] W fun e w' => ∃ A c, e = .returned (.slice A (commonL (evs xs) a b).length c) ∧ LiS C w w2 w' gd gx (evs xs) ((.slice A (commonL (evs xs) a b).length c, commonL (evs xs) a b) :: ts)) := Lib.hid (fun W ts a b h ha hb => by
    obtain ⟨P, h1, h2, h3⟩ := h.is
    refine (common_any W h1 a b ha hb (HTW.out _ _ h) (fun e => by have := (h2 0 e).1; have := h.le.1; omega)).mono ?_
    rintro e w' ⟨v, rfl, m, k⟩
    obtain ⟨A, c, rfl, -⟩ := id m.shape
    exact ⟨A, c, rfl, h.asked h2 h3 k m⟩)
  have HW0 : Hid (∀ W ts a b, LiS C w w2 W gd gx (evs xs) ts → a.size ≤ maxLen → b.size ≤ maxLen → Calls Tryz.prog 20 #[.agg #[.string roomR, .slice Av xs.length cv], .int .i64 0, .string a, .string b] W fun e w' => ∃ A c, e = .returned (.slice A (ancL (evs xs) a).length c) ∧ LiS C w w2 w' gd gx (evs xs) ((.slice A (ancL (evs xs) a).length c, ancL (evs xs) a) :: ts)) := Lib.hid (fun W ts a b h ha hb => by
    refine (refWhich0_any roomR _ xs a b W (HEW.out _ _ h) HVL.out (by omega) ha hb).mono ?_
    rintro e w' ⟨v, rfl, m, b'⟩
    obtain ⟨A, c, rfl, -⟩ := id m.shape
    exact ⟨A, c, rfl, h.told b' m⟩)
  have HW1 : Hid (∀ W ts a b, LiS C w w2 W gd gx (evs xs) ts → a.size ≤ maxLen → b.size ≤ maxLen → Calls Tryz.prog 20 #[.agg #[.string roomR, .slice Av xs.length cv], .int .i64 1, .string a, .string b] W fun e w' => ∃ A c, e = .returned (.slice A (behindL (evs xs) a).length c) ∧ LiS C w w2 w' gd gx (evs xs) ((.slice A (behindL (evs xs) a).length c, behindL (evs xs) a) :: ts)) := Lib.hid (fun W ts a b h ha hb => by
    refine (refWhich1_any roomR _ xs a b W (HEW.out _ _ h) HVL.out (by omega) ha hb).mono ?_
    rintro e w' ⟨v, rfl, m, b'⟩
    obtain ⟨A, c, rfl, -⟩ := id m.shape
    exact ⟨A, c, rfl, h.told b' m⟩)
  have HW2 : Hid (∀ W ts a b, LiS C w w2 W gd gx (evs xs) ts → a.size ≤ maxLen → b.size ≤ maxLen → Calls Tryz.prog 20 #[.agg #[.string roomR, .slice Av xs.length cv], .int .i64 2, .string a, .string b] W fun e w' => ∃ A c, e = .returned (.slice A (commonL (evs xs) a b).length c) ∧ LiS C w w2 w' gd gx (evs xs) ((.slice A (commonL (evs xs) a b).length c, commonL (evs xs) a b) :: ts)) := Lib.hid (fun W ts a b h ha hb => by
    refine (refWhich2_any roomR _ xs a b W (HEW.out _ _ h) HVL.out (by omega) ha hb).mono ?_
    rintro e w' ⟨v, rfl, m, b'⟩
    obtain ⟨A, c, rfl, -⟩ := id m.shape
    exact ⟨A, c, rfl, h.told b' m⟩)
  have HST : Hid (∀ W ts v v' us, LiS C w w2 W gd gx (evs xs) ts → (v, us) ∈ ts → (v', us) ∈ ts → Calls Tryz.prog 18 #[v, v'] W fun e w' => e = .returned (.bool true) ∧ LiS C w w2 w' gd gx (evs xs) ts) := Lib.hid (fun W ts v v' us h hm hm' => by
    obtain ⟨P, h1, h2, h3⟩ := h.is
    refine (sameTexts_any v v' us us W (h3 _ hm).1 (h3 _ hm').1).mono ?_
    rintro e w' ⟨rfl, dd, rfl⟩
    exact ⟨by rw [decide_eq_true rfl], h.later ⟨rfl, rfl, rfl, Nat.le_refl _, fun _ _ => rfl⟩⟩)
  have HLV : Hid (∀ W ts, LiS C w w2 W gd gx (evs xs) ts → Calls Tryz.prog 17 #[] W fun e w' => e = .returned (.bool true) ∧ LiS C w w2 w' gd gx (evs xs) ts) := Lib.hid (fun W ts h => by
    refine (HZ.out W (HTW.out _ _ h)).mono ?_
    rintro e w' ⟨rfl, b⟩
    exact ⟨rfl, h.later b⟩)
  have HEV := Lib.hid (fun W => eventOf_any na W hna.1 hna.2)
  have HEV2 := Lib.hid (fun W => eventOf_any nb W hnb.1 hnb.2)
  have hps := eventS_len9 na
  have hqs := eventS_len9 nb
  generalize eventS na = p at HEV hps
  generalize eventS nb = q at HEV2 hqs
  have HAN0 := Lib.hid (fun W ts h => HAN.out W ts noneS h (by decide))
  have HBE0 := Lib.hid (fun W ts h => HBE.out W ts noneS h (by decide))
  have HCO0 := Lib.hid (fun W ts h => HCO.out W ts p noneS h hps (by decide))
  have HLN := Lib.hid (lists_none HVL.out HNO.out p)
  rw [HLN.out.1] at HAN0
  rw [HLN.out.2.1] at HBE0
  rw [HLN.out.2.2] at HCO0
  clear hx hp hc3 ht3 HOF HX2 HD2 HE2 HOF2 HOB2
  go_wp2_with fail
  go_at_call 11
  refine (HEV.out _).mono ?_
  rintro e w4 ⟨rfl, b4⟩
  have HK4 := Lib.hid (HK3.out.later b4)
  clear b4 HK3
  go_wp2_with fail
  go_at_call 11
  refine (HEV2.out _).mono ?_
  rintro e w5 ⟨rfl, b5⟩
  have HK5 := Lib.hid (HK4.out.later b5)
  clear b5 HK4 HEV HEV2
  go_upto_region 9 with (fail)
  refine wp_region_held_drew (S := fun W => LiS C w w2 W gd gx (evs xs) []) (by kernel_rfl) (HK5.out.later (Below.refl _ _).drew) (fun hHeld => ?_)
  clear HK5
  generalize World.drew _ = wd at hHeld ⊢
  refine wpAnyH_take (i := 0) (oi := ⟨some 27, _, _, _, _, _⟩) (v := ?vz0) rfl (by kernel_rfl) (by kernel_rfl) (by kernel_rfl) (fun _ _ _ h => h) (Or.inl ⟨by rfl, ?yz0⟩) hHeld ?rz0
  case yz0 =>
    intro wx hSx
    go_simp
    try with_reducible rfl
  try simp only [Act.put, List.setIfInBounds_toArray, List.set_cons_zero, List.set_cons_succ]
  refine wpAnyH_take (i := 1) (oi := ⟨some 28, _, _, _, _, _⟩) (v := ?vz1) rfl (by kernel_rfl) (by kernel_rfl) (by kernel_rfl) (fun _ _ _ h => h) (Or.inl ⟨by rfl, ?yz1⟩) hHeld ?rz1
  case yz1 =>
    intro wx hSx
    go_simp
    try with_reducible rfl
  try simp only [Act.put, List.setIfInBounds_toArray, List.set_cons_zero, List.set_cons_succ]
  refine wpAnyH_take (i := 3) (oi := ⟨some 30, _, _, _, _, _⟩) (v := ?vz3) rfl (by kernel_rfl) (by kernel_rfl) (by kernel_rfl) (fun _ _ _ h => h) (Or.inl ⟨by rfl, ?yz3⟩) hHeld ?rz3
  case yz3 =>
    intro wx hSx
    have p0 := cell_at (HXW.out _ _ hSx) 0
    have p1 := cell_at (HXW.out _ _ hSx) 1
    simp only [List.getElem?_toArray, List.getElem?_cons_succ, List.getElem?_cons_zero] at p0 p1
    go_simp
    try with_reducible rfl
  try simp only [Act.put, List.setIfInBounds_toArray, List.set_cons_zero, List.set_cons_succ]
  refine wpAnyH_take (i := 4) (oi := ⟨some 31, _, _, _, _, _⟩) (v := ?vz4) rfl (by kernel_rfl) (by kernel_rfl) (by kernel_rfl) (fun _ _ _ h => h) (Or.inl ⟨by rfl, ?yz4⟩) hHeld ?rz4
  case yz4 =>
    intro wx hSx
    go_simp
    try with_reducible rfl
  try simp only [Act.put, List.setIfInBounds_toArray, List.set_cons_zero, List.set_cons_succ]
  refine wpAnyH_ready (rs := [2]) (by kernel_rfl) (by simp) ?_
  refine AllReadyH.cons (o := ⟨some 29, _, _, _, _, _⟩) rfl (fun K hK => ?_) AllReadyH.nil
  go_simp
  refine (HAN.out _ _ p hHeld hps).mono ?_
  rintro e wn ⟨A1, c1, rfl, hkn⟩
  refine hK.out _ _ (hkn.less (fun q hq => List.mem_cons_of_mem _ hq)) (fun hHeld => ?_)
  clear hK K
  try simp only [Act.put, List.setIfInBounds_toArray, List.set_cons_zero, List.set_cons_succ]
  refine anyH_narrow (S' := fun W => LiS C w w2 W gd gx (evs xs) ((.slice A1 (ancL (evs xs) p).length c1, ancL (evs xs) p) :: [])) (fun _ h => h.less (fun q hq => List.mem_cons_of_mem _ hq)) _ _ _ _ ?_
  clear hHeld
  have hHeld : LiS C w w2 wn gd gx (evs xs) ((.slice A1 (ancL (evs xs) p).length c1, ancL (evs xs) p) :: []) := hkn
  clear hkn
  generalize wn = wd at hHeld ⊢
  refine wpAnyH_ready (rs := [5]) (by kernel_rfl) (by simp) ?_
  refine AllReadyH.cons (o := ⟨some 32, _, _, _, _, _⟩) rfl (fun K hK => ?_) AllReadyH.nil
  go_simp
  refine (HW0.out _ _ p ⟨#[]⟩ hHeld hps (by decide)).mono ?_
  rintro e wn ⟨A2, c2, rfl, hkn⟩
  refine hK.out _ _ (hkn.less (fun q hq => List.mem_cons_of_mem _ hq)) (fun hHeld => ?_)
  clear hK K
  try simp only [Act.put, List.setIfInBounds_toArray, List.set_cons_zero, List.set_cons_succ]
  refine anyH_narrow (S' := fun W => LiS C w w2 W gd gx (evs xs) ((.slice A2 (ancL (evs xs) p).length c2, ancL (evs xs) p) :: ((.slice A1 (ancL (evs xs) p).length c1, ancL (evs xs) p) :: []))) (fun _ h => h.less (fun q hq => List.mem_cons_of_mem _ hq)) _ _ _ _ ?_
  clear hHeld
  have hHeld : LiS C w w2 wn gd gx (evs xs) ((.slice A2 (ancL (evs xs) p).length c2, ancL (evs xs) p) :: ((.slice A1 (ancL (evs xs) p).length c1, ancL (evs xs) p) :: [])) := hkn
  clear hkn
  generalize wn = wd at hHeld ⊢
  refine wpAnyH_ready (rs := [6]) (by kernel_rfl) (by simp) ?_
  refine AllReadyH.cons (o := ⟨some 33, _, _, _, _, _⟩) rfl (fun K hK => ?_) AllReadyH.nil
  go_simp
  refine (HST.out _ _ _ _ _ hHeld (List.mem_cons_of_mem _ List.mem_cons_self) List.mem_cons_self).mono ?_
  rintro e wn ⟨rfl, hkn⟩
  refine hK.out _ _ hkn (fun hHeld => ?_)
  clear hK K hkn
  try simp only [Act.put, List.setIfInBounds_toArray, List.set_cons_zero, List.set_cons_succ]
  generalize wn = wd at hHeld ⊢
  refine wpAnyH_take (i := 7) (oi := ⟨some 34, _, _, _, _, _⟩) (v := ?vz7) rfl (by kernel_rfl) (by kernel_rfl) (by kernel_rfl) (fun _ _ _ h => h) (Or.inl ⟨by rfl, ?yz7⟩) hHeld ?rz7
  case yz7 =>
    intro wx hSx
    go_simp
    try with_reducible rfl
  try simp only [Act.put, List.setIfInBounds_toArray, List.set_cons_zero, List.set_cons_succ]
  refine wpAnyH_take (i := 8) (oi := ⟨some 35, _, _, _, _, _⟩) (v := ?vz8) rfl (by kernel_rfl) (by kernel_rfl) (by kernel_rfl) (fun _ _ _ h => h) (Or.inl ⟨by rfl, ?yz8⟩) hHeld ?rz8
  case yz8 =>
    intro wx hSx
    go_simp
    try with_reducible rfl
  try simp only [Act.put, List.setIfInBounds_toArray, List.set_cons_zero, List.set_cons_succ]
  refine wpAnyH_take (i := 9) (oi := ⟨some 36, _, _, _, _, _⟩) (v := ?vz9) rfl (by kernel_rfl) (by kernel_rfl) (by kernel_rfl) (fun _ _ _ h => h) (Or.inl ⟨by rfl, ?yz9⟩) hHeld ?rz9
  case yz9 =>
    intro wx hSx
    go_simp
    try with_reducible rfl
  try simp only [Act.put, List.setIfInBounds_toArray, List.set_cons_zero, List.set_cons_succ]
  refine wpAnyH_take (i := 11) (oi := ⟨some 38, _, _, _, _, _⟩) (v := ?vz11) rfl (by kernel_rfl) (by kernel_rfl) (by kernel_rfl) (fun _ _ _ h => h) (Or.inl ⟨by rfl, ?yz11⟩) hHeld ?rz11
  case yz11 =>
    intro wx hSx
    have p0 := cell_at (HXW.out _ _ hSx) 0
    have p1 := cell_at (HXW.out _ _ hSx) 1
    simp only [List.getElem?_toArray, List.getElem?_cons_succ, List.getElem?_cons_zero] at p0 p1
    go_simp
    try with_reducible rfl
  try simp only [Act.put, List.setIfInBounds_toArray, List.set_cons_zero, List.set_cons_succ]
  refine wpAnyH_take (i := 12) (oi := ⟨some 39, _, _, _, _, _⟩) (v := ?vz12) rfl (by kernel_rfl) (by kernel_rfl) (by kernel_rfl) (fun _ _ _ h => h) (Or.inl ⟨by rfl, ?yz12⟩) hHeld ?rz12
  case yz12 =>
    intro wx hSx
    go_simp
    try with_reducible rfl
  try simp only [Act.put, List.setIfInBounds_toArray, List.set_cons_zero, List.set_cons_succ]
  refine wpAnyH_ready (rs := [10]) (by kernel_rfl) (by simp) ?_
  refine AllReadyH.cons (o := ⟨some 37, _, _, _, _, _⟩) rfl (fun K hK => ?_) AllReadyH.nil
  go_simp
  refine (HBE.out _ _ p hHeld hps).mono ?_
  rintro e wn ⟨A3, c3, rfl, hkn⟩
  refine hK.out _ _ (hkn.less (fun q hq => List.mem_cons_of_mem _ hq)) (fun hHeld => ?_)
  clear hK K
  try simp only [Act.put, List.setIfInBounds_toArray, List.set_cons_zero, List.set_cons_succ]
  refine anyH_narrow (S' := fun W => LiS C w w2 W gd gx (evs xs) ((.slice A3 (behindL (evs xs) p).length c3, behindL (evs xs) p) :: ((.slice A2 (ancL (evs xs) p).length c2, ancL (evs xs) p) :: ((.slice A1 (ancL (evs xs) p).length c1, ancL (evs xs) p) :: [])))) (fun _ h => h.less (fun q hq => List.mem_cons_of_mem _ hq)) _ _ _ _ ?_
  clear hHeld
  have hHeld : LiS C w w2 wn gd gx (evs xs) ((.slice A3 (behindL (evs xs) p).length c3, behindL (evs xs) p) :: ((.slice A2 (ancL (evs xs) p).length c2, ancL (evs xs) p) :: ((.slice A1 (ancL (evs xs) p).length c1, ancL (evs xs) p) :: []))) := hkn
  clear hkn
  generalize wn = wd at hHeld ⊢
  refine wpAnyH_ready (rs := [13]) (by kernel_rfl) (by simp) ?_
  refine AllReadyH.cons (o := ⟨some 40, _, _, _, _, _⟩) rfl (fun K hK => ?_) AllReadyH.nil
  go_simp
  refine (HW1.out _ _ p ⟨#[]⟩ hHeld hps (by decide)).mono ?_
  rintro e wn ⟨A4, c4, rfl, hkn⟩
  refine hK.out _ _ (hkn.less (fun q hq => List.mem_cons_of_mem _ hq)) (fun hHeld => ?_)
  clear hK K
  try simp only [Act.put, List.setIfInBounds_toArray, List.set_cons_zero, List.set_cons_succ]
  refine anyH_narrow (S' := fun W => LiS C w w2 W gd gx (evs xs) ((.slice A4 (behindL (evs xs) p).length c4, behindL (evs xs) p) :: ((.slice A3 (behindL (evs xs) p).length c3, behindL (evs xs) p) :: ((.slice A2 (ancL (evs xs) p).length c2, ancL (evs xs) p) :: ((.slice A1 (ancL (evs xs) p).length c1, ancL (evs xs) p) :: []))))) (fun _ h => h.less (fun q hq => List.mem_cons_of_mem _ hq)) _ _ _ _ ?_
  clear hHeld
  have hHeld : LiS C w w2 wn gd gx (evs xs) ((.slice A4 (behindL (evs xs) p).length c4, behindL (evs xs) p) :: ((.slice A3 (behindL (evs xs) p).length c3, behindL (evs xs) p) :: ((.slice A2 (ancL (evs xs) p).length c2, ancL (evs xs) p) :: ((.slice A1 (ancL (evs xs) p).length c1, ancL (evs xs) p) :: [])))) := hkn
  clear hkn
  generalize wn = wd at hHeld ⊢
  refine wpAnyH_ready (rs := [14]) (by kernel_rfl) (by simp) ?_
  refine AllReadyH.cons (o := ⟨some 41, _, _, _, _, _⟩) rfl (fun K hK => ?_) AllReadyH.nil
  go_simp
  refine (HST.out _ _ _ _ _ hHeld (List.mem_cons_of_mem _ List.mem_cons_self) List.mem_cons_self).mono ?_
  rintro e wn ⟨rfl, hkn⟩
  refine hK.out _ _ hkn (fun hHeld => ?_)
  clear hK K hkn
  try simp only [Act.put, List.setIfInBounds_toArray, List.set_cons_zero, List.set_cons_succ]
  generalize wn = wd at hHeld ⊢
  refine wpAnyH_take (i := 15) (oi := ⟨some 42, _, _, _, _, _⟩) (v := ?vz15) rfl (by kernel_rfl) (by kernel_rfl) (by kernel_rfl) (fun _ _ _ h => h) (Or.inl ⟨by rfl, ?yz15⟩) hHeld ?rz15
  case yz15 =>
    intro wx hSx
    go_simp
    try with_reducible rfl
  try simp only [Act.put, List.setIfInBounds_toArray, List.set_cons_zero, List.set_cons_succ]
  refine wpAnyH_take (i := 16) (oi := ⟨some 43, _, _, _, _, _⟩) (v := ?vz16) rfl (by kernel_rfl) (by kernel_rfl) (by kernel_rfl) (fun _ _ _ h => h) (Or.inl ⟨by rfl, ?yz16⟩) hHeld ?rz16
  case yz16 =>
    intro wx hSx
    go_simp
    try with_reducible rfl
  try simp only [Act.put, List.setIfInBounds_toArray, List.set_cons_zero, List.set_cons_succ]
  refine wpAnyH_take (i := 17) (oi := ⟨some 44, _, _, _, _, _⟩) (v := ?vz17) rfl (by kernel_rfl) (by kernel_rfl) (by kernel_rfl) (fun _ _ _ h => h) (Or.inl ⟨by rfl, ?yz17⟩) hHeld ?rz17
  case yz17 =>
    intro wx hSx
    go_simp
    try with_reducible rfl
  try simp only [Act.put, List.setIfInBounds_toArray, List.set_cons_zero, List.set_cons_succ]
  refine wpAnyH_take (i := 18) (oi := ⟨some 45, _, _, _, _, _⟩) (v := ?vz18) rfl (by kernel_rfl) (by kernel_rfl) (by kernel_rfl) (fun _ _ _ h => h) (Or.inl ⟨by rfl, ?yz18⟩) hHeld ?rz18
  case yz18 =>
    intro wx hSx
    go_simp
    try with_reducible rfl
  try simp only [Act.put, List.setIfInBounds_toArray, List.set_cons_zero, List.set_cons_succ]
  refine wpAnyH_take (i := 19) (oi := ⟨some 46, _, _, _, _, _⟩) (v := ?vz19) rfl (by kernel_rfl) (by kernel_rfl) (by kernel_rfl) (fun _ _ _ h => h) (Or.inl ⟨by rfl, ?yz19⟩) hHeld ?rz19
  case yz19 =>
    intro wx hSx
    go_simp
    try with_reducible rfl
  try simp only [Act.put, List.setIfInBounds_toArray, List.set_cons_zero, List.set_cons_succ]
  refine wpAnyH_take (i := 21) (oi := ⟨some 48, _, _, _, _, _⟩) (v := ?vz21) rfl (by kernel_rfl) (by kernel_rfl) (by kernel_rfl) (fun _ _ _ h => h) (Or.inl ⟨by rfl, ?yz21⟩) hHeld ?rz21
  case yz21 =>
    intro wx hSx
    have p0 := cell_at (HXW.out _ _ hSx) 0
    have p1 := cell_at (HXW.out _ _ hSx) 1
    simp only [List.getElem?_toArray, List.getElem?_cons_succ, List.getElem?_cons_zero] at p0 p1
    go_simp
    try with_reducible rfl
  try simp only [Act.put, List.setIfInBounds_toArray, List.set_cons_zero, List.set_cons_succ]
  refine wpAnyH_take (i := 22) (oi := ⟨some 49, _, _, _, _, _⟩) (v := ?vz22) rfl (by kernel_rfl) (by kernel_rfl) (by kernel_rfl) (fun _ _ _ h => h) (Or.inl ⟨by rfl, ?yz22⟩) hHeld ?rz22
  case yz22 =>
    intro wx hSx
    go_simp
    try with_reducible rfl
  try simp only [Act.put, List.setIfInBounds_toArray, List.set_cons_zero, List.set_cons_succ]
  refine wpAnyH_take (i := 23) (oi := ⟨some 50, _, _, _, _, _⟩) (v := ?vz23) rfl (by kernel_rfl) (by kernel_rfl) (by kernel_rfl) (fun _ _ _ h => h) (Or.inl ⟨by rfl, ?yz23⟩) hHeld ?rz23
  case yz23 =>
    intro wx hSx
    go_simp
    try with_reducible rfl
  try simp only [Act.put, List.setIfInBounds_toArray, List.set_cons_zero, List.set_cons_succ]
  refine wpAnyH_ready (rs := [20]) (by kernel_rfl) (by simp) ?_
  refine AllReadyH.cons (o := ⟨some 47, _, _, _, _, _⟩) rfl (fun K hK => ?_) AllReadyH.nil
  go_simp
  refine (HCO.out _ _ p q hHeld hps hqs).mono ?_
  rintro e wn ⟨A5, c5, rfl, hkn⟩
  refine hK.out _ _ (hkn.less (fun q hq => List.mem_cons_of_mem _ hq)) (fun hHeld => ?_)
  clear hK K
  try simp only [Act.put, List.setIfInBounds_toArray, List.set_cons_zero, List.set_cons_succ]
  refine anyH_narrow (S' := fun W => LiS C w w2 W gd gx (evs xs) ((.slice A5 (commonL (evs xs) p q).length c5, commonL (evs xs) p q) :: ((.slice A4 (behindL (evs xs) p).length c4, behindL (evs xs) p) :: ((.slice A3 (behindL (evs xs) p).length c3, behindL (evs xs) p) :: ((.slice A2 (ancL (evs xs) p).length c2, ancL (evs xs) p) :: ((.slice A1 (ancL (evs xs) p).length c1, ancL (evs xs) p) :: [])))))) (fun _ h => h.less (fun q hq => List.mem_cons_of_mem _ hq)) _ _ _ _ ?_
  clear hHeld
  have hHeld : LiS C w w2 wn gd gx (evs xs) ((.slice A5 (commonL (evs xs) p q).length c5, commonL (evs xs) p q) :: ((.slice A4 (behindL (evs xs) p).length c4, behindL (evs xs) p) :: ((.slice A3 (behindL (evs xs) p).length c3, behindL (evs xs) p) :: ((.slice A2 (ancL (evs xs) p).length c2, ancL (evs xs) p) :: ((.slice A1 (ancL (evs xs) p).length c1, ancL (evs xs) p) :: []))))) := hkn
  clear hkn
  generalize wn = wd at hHeld ⊢
  refine wpAnyH_ready (rs := [24]) (by kernel_rfl) (by simp) ?_
  refine AllReadyH.cons (o := ⟨some 51, _, _, _, _, _⟩) rfl (fun K hK => ?_) AllReadyH.nil
  go_simp
  refine (HW2.out _ _ p q hHeld hps hqs).mono ?_
  rintro e wn ⟨A6, c6, rfl, hkn⟩
  refine hK.out _ _ (hkn.less (fun q hq => List.mem_cons_of_mem _ hq)) (fun hHeld => ?_)
  clear hK K
  try simp only [Act.put, List.setIfInBounds_toArray, List.set_cons_zero, List.set_cons_succ]
  refine anyH_narrow (S' := fun W => LiS C w w2 W gd gx (evs xs) ((.slice A6 (commonL (evs xs) p q).length c6, commonL (evs xs) p q) :: ((.slice A5 (commonL (evs xs) p q).length c5, commonL (evs xs) p q) :: ((.slice A4 (behindL (evs xs) p).length c4, behindL (evs xs) p) :: ((.slice A3 (behindL (evs xs) p).length c3, behindL (evs xs) p) :: ((.slice A2 (ancL (evs xs) p).length c2, ancL (evs xs) p) :: ((.slice A1 (ancL (evs xs) p).length c1, ancL (evs xs) p) :: []))))))) (fun _ h => h.less (fun q hq => List.mem_cons_of_mem _ hq)) _ _ _ _ ?_
  clear hHeld
  have hHeld : LiS C w w2 wn gd gx (evs xs) ((.slice A6 (commonL (evs xs) p q).length c6, commonL (evs xs) p q) :: ((.slice A5 (commonL (evs xs) p q).length c5, commonL (evs xs) p q) :: ((.slice A4 (behindL (evs xs) p).length c4, behindL (evs xs) p) :: ((.slice A3 (behindL (evs xs) p).length c3, behindL (evs xs) p) :: ((.slice A2 (ancL (evs xs) p).length c2, ancL (evs xs) p) :: ((.slice A1 (ancL (evs xs) p).length c1, ancL (evs xs) p) :: [])))))) := hkn
  clear hkn
  generalize wn = wd at hHeld ⊢
  refine wpAnyH_ready (rs := [25]) (by kernel_rfl) (by simp) ?_
  refine AllReadyH.cons (o := ⟨some 52, _, _, _, _, _⟩) rfl (fun K hK => ?_) AllReadyH.nil
  go_simp
  refine (HST.out _ _ _ _ _ hHeld (List.mem_cons_of_mem _ List.mem_cons_self) List.mem_cons_self).mono ?_
  rintro e wn ⟨rfl, hkn⟩
  refine hK.out _ _ hkn (fun hHeld => ?_)
  clear hK K hkn
  try simp only [Act.put, List.setIfInBounds_toArray, List.set_cons_zero, List.set_cons_succ]
  generalize wn = wd at hHeld ⊢
  refine wpAnyH_take (i := 26) (oi := ⟨some 53, _, _, _, _, _⟩) (v := ?vz26) rfl (by kernel_rfl) (by kernel_rfl) (by kernel_rfl) (fun _ _ _ h => h) (Or.inl ⟨by rfl, ?yz26⟩) hHeld ?rz26
  case yz26 =>
    intro wx hSx
    go_simp
    try with_reducible rfl
  try simp only [Act.put, List.setIfInBounds_toArray, List.set_cons_zero, List.set_cons_succ]
  refine wpAnyH_take (i := 27) (oi := ⟨some 54, _, _, _, _, _⟩) (v := ?vz27) rfl (by kernel_rfl) (by kernel_rfl) (by kernel_rfl) (fun _ _ _ h => h) (Or.inl ⟨by rfl, ?yz27⟩) hHeld ?rz27
  case yz27 =>
    intro wx hSx
    go_simp
    try with_reducible rfl
  try simp only [Act.put, List.setIfInBounds_toArray, List.set_cons_zero, List.set_cons_succ]
  refine wpAnyH_take (i := 28) (oi := ⟨some 55, _, _, _, _, _⟩) (v := ?vz28) rfl (by kernel_rfl) (by kernel_rfl) (by kernel_rfl) (fun _ _ _ h => h) (Or.inl ⟨by rfl, ?yz28⟩) hHeld ?rz28
  case yz28 =>
    intro wx hSx
    go_simp
    try with_reducible rfl
  try simp only [Act.put, List.setIfInBounds_toArray, List.set_cons_zero, List.set_cons_succ]
  refine wpAnyH_ready (rs := [29]) (by kernel_rfl) (by simp) ?_
  refine AllReadyH.cons (o := ⟨some 56, _, _, _, _, _⟩) rfl (fun K hK => ?_) AllReadyH.nil
  go_simp
  refine (HAN0.out _ _ hHeld).mono ?_
  rintro e wn ⟨A7, c7, rfl, hkn⟩
  refine hK.out _ _ (hkn.less (fun q hq => List.mem_cons_of_mem _ hq)) (fun hHeld => ?_)
  clear hK K
  try simp only [Act.put, List.setIfInBounds_toArray, List.set_cons_zero, List.set_cons_succ]
  refine anyH_narrow (S' := fun W => LiS C w w2 W gd gx (evs xs) ((.slice A7 (List.length ([] : List ByteArray)) c7, ([] : List ByteArray)) :: ((.slice A6 (commonL (evs xs) p q).length c6, commonL (evs xs) p q) :: ((.slice A5 (commonL (evs xs) p q).length c5, commonL (evs xs) p q) :: ((.slice A4 (behindL (evs xs) p).length c4, behindL (evs xs) p) :: ((.slice A3 (behindL (evs xs) p).length c3, behindL (evs xs) p) :: ((.slice A2 (ancL (evs xs) p).length c2, ancL (evs xs) p) :: ((.slice A1 (ancL (evs xs) p).length c1, ancL (evs xs) p) :: [])))))))) (fun _ h => h.less (fun q hq => List.mem_cons_of_mem _ hq)) _ _ _ _ ?_
  clear hHeld
  have hHeld : LiS C w w2 wn gd gx (evs xs) ((.slice A7 (List.length ([] : List ByteArray)) c7, ([] : List ByteArray)) :: ((.slice A6 (commonL (evs xs) p q).length c6, commonL (evs xs) p q) :: ((.slice A5 (commonL (evs xs) p q).length c5, commonL (evs xs) p q) :: ((.slice A4 (behindL (evs xs) p).length c4, behindL (evs xs) p) :: ((.slice A3 (behindL (evs xs) p).length c3, behindL (evs xs) p) :: ((.slice A2 (ancL (evs xs) p).length c2, ancL (evs xs) p) :: ((.slice A1 (ancL (evs xs) p).length c1, ancL (evs xs) p) :: []))))))) := hkn
  clear hkn
  generalize wn = wd at hHeld ⊢
  refine wpAnyH_take (i := 30) (oi := ⟨some 57, _, _, _, _, _⟩) (v := ?vz30) rfl (by kernel_rfl) (by kernel_rfl) (by kernel_rfl) (fun _ _ _ h => h) (Or.inl ⟨by rfl, ?yz30⟩) hHeld ?rz30
  case yz30 =>
    intro wx hSx
    go_simp
    try with_reducible rfl
  try simp only [Act.put, List.setIfInBounds_toArray, List.set_cons_zero, List.set_cons_succ]
  refine wpAnyH_take (i := 31) (oi := ⟨some 58, _, _, _, _, _⟩) (v := ?vz31) rfl (by kernel_rfl) (by kernel_rfl) (by kernel_rfl) (fun _ _ _ h => h) (Or.inl ⟨by rfl, ?yz31⟩) hHeld ?rz31
  case yz31 =>
    intro wx hSx
    go_simp
    try with_reducible rfl
  try simp only [Act.put, List.setIfInBounds_toArray, List.set_cons_zero, List.set_cons_succ]
  refine wpAnyH_take (i := 32) (oi := ⟨some 59, _, _, _, _, _⟩) (v := ?vz32) rfl (by kernel_rfl) (by kernel_rfl) (by kernel_rfl) (fun _ _ _ h => h) (Or.inl ⟨by rfl, ?yz32⟩) hHeld ?rz32
  case yz32 =>
    intro wx hSx
    go_simp
    try with_reducible rfl
  try simp only [Act.put, List.setIfInBounds_toArray, List.set_cons_zero, List.set_cons_succ]
  refine wpAnyH_take (i := 33) (oi := ⟨some 60, _, _, _, _, _⟩) (v := ?vz33) rfl (by kernel_rfl) (by kernel_rfl) (by kernel_rfl) (fun _ _ _ h => h) (Or.inl ⟨by rfl, ?yz33⟩) hHeld ?rz33
  case yz33 =>
    intro wx hSx
    go_simp
    try with_reducible rfl
  try simp only [Act.put, List.setIfInBounds_toArray, List.set_cons_zero, List.set_cons_succ]
  refine wpAnyH_take (i := 34) (oi := ⟨some 61, _, _, _, _, _⟩) (v := ?vz34) rfl (by kernel_rfl) (by kernel_rfl) (by kernel_rfl) (fun _ _ _ h => h) (Or.inl ⟨by rfl, ?yz34⟩) hHeld ?rz34
  case yz34 =>
    intro wx hSx
    go_simp
    try with_reducible rfl
  try simp only [Act.put, List.setIfInBounds_toArray, List.set_cons_zero, List.set_cons_succ]
  refine wpAnyH_ready (rs := [35]) (by kernel_rfl) (by simp) ?_
  refine AllReadyH.cons (o := ⟨some 62, _, _, _, _, _⟩) rfl (fun K hK => ?_) AllReadyH.nil
  go_simp
  refine (HBE0.out _ _ hHeld).mono ?_
  rintro e wn ⟨A8, c8, rfl, hkn⟩
  refine hK.out _ _ (hkn.less (fun q hq => List.mem_cons_of_mem _ hq)) (fun hHeld => ?_)
  clear hK K
  try simp only [Act.put, List.setIfInBounds_toArray, List.set_cons_zero, List.set_cons_succ]
  refine anyH_narrow (S' := fun W => LiS C w w2 W gd gx (evs xs) ((.slice A8 (List.length ([] : List ByteArray)) c8, ([] : List ByteArray)) :: ((.slice A7 (List.length ([] : List ByteArray)) c7, ([] : List ByteArray)) :: ((.slice A6 (commonL (evs xs) p q).length c6, commonL (evs xs) p q) :: ((.slice A5 (commonL (evs xs) p q).length c5, commonL (evs xs) p q) :: ((.slice A4 (behindL (evs xs) p).length c4, behindL (evs xs) p) :: ((.slice A3 (behindL (evs xs) p).length c3, behindL (evs xs) p) :: ((.slice A2 (ancL (evs xs) p).length c2, ancL (evs xs) p) :: ((.slice A1 (ancL (evs xs) p).length c1, ancL (evs xs) p) :: []))))))))) (fun _ h => h.less (fun q hq => List.mem_cons_of_mem _ hq)) _ _ _ _ ?_
  clear hHeld
  have hHeld : LiS C w w2 wn gd gx (evs xs) ((.slice A8 (List.length ([] : List ByteArray)) c8, ([] : List ByteArray)) :: ((.slice A7 (List.length ([] : List ByteArray)) c7, ([] : List ByteArray)) :: ((.slice A6 (commonL (evs xs) p q).length c6, commonL (evs xs) p q) :: ((.slice A5 (commonL (evs xs) p q).length c5, commonL (evs xs) p q) :: ((.slice A4 (behindL (evs xs) p).length c4, behindL (evs xs) p) :: ((.slice A3 (behindL (evs xs) p).length c3, behindL (evs xs) p) :: ((.slice A2 (ancL (evs xs) p).length c2, ancL (evs xs) p) :: ((.slice A1 (ancL (evs xs) p).length c1, ancL (evs xs) p) :: [])))))))) := hkn
  clear hkn
  generalize wn = wd at hHeld ⊢
  refine wpAnyH_take (i := 36) (oi := ⟨some 63, _, _, _, _, _⟩) (v := ?vz36) rfl (by kernel_rfl) (by kernel_rfl) (by kernel_rfl) (fun _ _ _ h => h) (Or.inl ⟨by rfl, ?yz36⟩) hHeld ?rz36
  case yz36 =>
    intro wx hSx
    go_simp
    try with_reducible rfl
  try simp only [Act.put, List.setIfInBounds_toArray, List.set_cons_zero, List.set_cons_succ]
  refine wpAnyH_take (i := 37) (oi := ⟨some 64, _, _, _, _, _⟩) (v := ?vz37) rfl (by kernel_rfl) (by kernel_rfl) (by kernel_rfl) (fun _ _ _ h => h) (Or.inl ⟨by rfl, ?yz37⟩) hHeld ?rz37
  case yz37 =>
    intro wx hSx
    go_simp
    try with_reducible rfl
  try simp only [Act.put, List.setIfInBounds_toArray, List.set_cons_zero, List.set_cons_succ]
  refine wpAnyH_take (i := 38) (oi := ⟨some 65, _, _, _, _, _⟩) (v := ?vz38) rfl (by kernel_rfl) (by kernel_rfl) (by kernel_rfl) (fun _ _ _ h => h) (Or.inl ⟨by rfl, ?yz38⟩) hHeld ?rz38
  case yz38 =>
    intro wx hSx
    go_simp
    try with_reducible rfl
  try simp only [Act.put, List.setIfInBounds_toArray, List.set_cons_zero, List.set_cons_succ]
  refine wpAnyH_take (i := 39) (oi := ⟨some 66, _, _, _, _, _⟩) (v := ?vz39) rfl (by kernel_rfl) (by kernel_rfl) (by kernel_rfl) (fun _ _ _ h => h) (Or.inl ⟨by rfl, ?yz39⟩) hHeld ?rz39
  case yz39 =>
    intro wx hSx
    go_simp
    try with_reducible rfl
  try simp only [Act.put, List.setIfInBounds_toArray, List.set_cons_zero, List.set_cons_succ]
  refine wpAnyH_take (i := 40) (oi := ⟨some 67, _, _, _, _, _⟩) (v := ?vz40) rfl (by kernel_rfl) (by kernel_rfl) (by kernel_rfl) (fun _ _ _ h => h) (Or.inl ⟨by rfl, ?yz40⟩) hHeld ?rz40
  case yz40 =>
    intro wx hSx
    go_simp
    try with_reducible rfl
  try simp only [Act.put, List.setIfInBounds_toArray, List.set_cons_zero, List.set_cons_succ]
  refine wpAnyH_take (i := 41) (oi := ⟨some 68, _, _, _, _, _⟩) (v := ?vz41) rfl (by kernel_rfl) (by kernel_rfl) (by kernel_rfl) (fun _ _ _ h => h) (Or.inl ⟨by rfl, ?yz41⟩) hHeld ?rz41
  case yz41 =>
    intro wx hSx
    go_simp
    try with_reducible rfl
  try simp only [Act.put, List.setIfInBounds_toArray, List.set_cons_zero, List.set_cons_succ]
  refine wpAnyH_ready (rs := [42]) (by kernel_rfl) (by simp) ?_
  refine AllReadyH.cons (o := ⟨some 69, _, _, _, _, _⟩) rfl (fun K hK => ?_) AllReadyH.nil
  go_simp
  refine (HCO0.out _ _ hHeld).mono ?_
  rintro e wn ⟨A9, c9, rfl, hkn⟩
  refine hK.out _ _ (hkn.less (fun q hq => List.mem_cons_of_mem _ hq)) (fun hHeld => ?_)
  clear hK K
  try simp only [Act.put, List.setIfInBounds_toArray, List.set_cons_zero, List.set_cons_succ]
  refine anyH_narrow (S' := fun W => LiS C w w2 W gd gx (evs xs) ((.slice A9 (List.length ([] : List ByteArray)) c9, ([] : List ByteArray)) :: ((.slice A8 (List.length ([] : List ByteArray)) c8, ([] : List ByteArray)) :: ((.slice A7 (List.length ([] : List ByteArray)) c7, ([] : List ByteArray)) :: ((.slice A6 (commonL (evs xs) p q).length c6, commonL (evs xs) p q) :: ((.slice A5 (commonL (evs xs) p q).length c5, commonL (evs xs) p q) :: ((.slice A4 (behindL (evs xs) p).length c4, behindL (evs xs) p) :: ((.slice A3 (behindL (evs xs) p).length c3, behindL (evs xs) p) :: ((.slice A2 (ancL (evs xs) p).length c2, ancL (evs xs) p) :: ((.slice A1 (ancL (evs xs) p).length c1, ancL (evs xs) p) :: [])))))))))) (fun _ h => h.less (fun q hq => List.mem_cons_of_mem _ hq)) _ _ _ _ ?_
  clear hHeld
  have hHeld : LiS C w w2 wn gd gx (evs xs) ((.slice A9 (List.length ([] : List ByteArray)) c9, ([] : List ByteArray)) :: ((.slice A8 (List.length ([] : List ByteArray)) c8, ([] : List ByteArray)) :: ((.slice A7 (List.length ([] : List ByteArray)) c7, ([] : List ByteArray)) :: ((.slice A6 (commonL (evs xs) p q).length c6, commonL (evs xs) p q) :: ((.slice A5 (commonL (evs xs) p q).length c5, commonL (evs xs) p q) :: ((.slice A4 (behindL (evs xs) p).length c4, behindL (evs xs) p) :: ((.slice A3 (behindL (evs xs) p).length c3, behindL (evs xs) p) :: ((.slice A2 (ancL (evs xs) p).length c2, ancL (evs xs) p) :: ((.slice A1 (ancL (evs xs) p).length c1, ancL (evs xs) p) :: []))))))))) := hkn
  clear hkn
  generalize wn = wd at hHeld ⊢
  refine wpAnyH_take (i := 43) (oi := ⟨some 70, _, _, _, _, _⟩) (v := ?vz43) rfl (by kernel_rfl) (by kernel_rfl) (by kernel_rfl) (fun _ _ _ h => h) (Or.inl ⟨by rfl, ?yz43⟩) hHeld ?rz43
  case yz43 =>
    intro wx hSx
    go_simp
    try with_reducible rfl
  try simp only [Act.put, List.setIfInBounds_toArray, List.set_cons_zero, List.set_cons_succ]
  refine wpAnyH_take (i := 44) (oi := ⟨some 71, _, _, _, _, _⟩) (v := ?vz44) rfl (by kernel_rfl) (by kernel_rfl) (by kernel_rfl) (fun _ _ _ h => h) (Or.inl ⟨by rfl, ?yz44⟩) hHeld ?rz44
  case yz44 =>
    intro wx hSx
    go_simp
    try with_reducible rfl
  try simp only [Act.put, List.setIfInBounds_toArray, List.set_cons_zero, List.set_cons_succ]
  refine wpAnyH_take (i := 45) (oi := ⟨some 72, _, _, _, _, _⟩) (v := ?vz45) rfl (by kernel_rfl) (by kernel_rfl) (by kernel_rfl) (fun _ _ _ h => h) (Or.inl ⟨by rfl, ?yz45⟩) hHeld ?rz45
  case yz45 =>
    intro wx hSx
    go_simp
    try with_reducible rfl
  try simp only [Act.put, List.setIfInBounds_toArray, List.set_cons_zero, List.set_cons_succ]
  refine wpAnyH_take (i := 46) (oi := ⟨some 73, _, _, _, _, _⟩) (v := ?vz46) rfl (by kernel_rfl) (by kernel_rfl) (by kernel_rfl) (fun _ _ _ h => h) (Or.inl ⟨by rfl, ?yz46⟩) hHeld ?rz46
  case yz46 =>
    intro wx hSx
    go_simp
    try with_reducible rfl
  try simp only [Act.put, List.setIfInBounds_toArray, List.set_cons_zero, List.set_cons_succ]
  refine wpAnyH_ready (rs := [47]) (by kernel_rfl) (by simp) ?_
  refine AllReadyH.cons (o := ⟨some 74, _, _, _, _, _⟩) rfl (fun K hK => ?_) AllReadyH.nil
  go_simp
  refine (HLV.out _ _ hHeld).mono ?_
  rintro e wn ⟨rfl, hkn⟩
  refine hK.out _ _ hkn (fun hHeld => ?_)
  clear hK K hkn
  try simp only [Act.put, List.setIfInBounds_toArray, List.set_cons_zero, List.set_cons_succ]
  generalize wn = wd at hHeld ⊢
  refine wpAnyH_take (i := 48) (oi := ⟨some 75, _, _, _, _, _⟩) (v := ?vz48) rfl (by kernel_rfl) (by kernel_rfl) (by kernel_rfl) (fun _ _ _ h => h) (Or.inl ⟨by rfl, ?yz48⟩) hHeld ?rz48
  case yz48 =>
    intro wx hSx
    go_simp
    try with_reducible rfl
  try simp only [Act.put, List.setIfInBounds_toArray, List.set_cons_zero, List.set_cons_succ]
  refine wpAnyH_take (i := 49) (oi := ⟨some 6, _, _, _, _, _⟩) (v := ?vz49) rfl (by kernel_rfl) (by kernel_rfl) (by kernel_rfl) (fun _ _ _ h => h) (Or.inl ⟨by rfl, ?yz49⟩) hHeld ?rz49
  case yz49 =>
    intro wx hSx
    go_simp
    try with_reducible rfl
  try simp only [Act.put, List.setIfInBounds_toArray, List.set_cons_zero, List.set_cons_succ]
  refine wpAnyH_done (by kernel_rfl) ?_ _
  go_wp2_with fail
  go_ret
  exact ⟨rfl, hHeld.bd.below⟩
end Go.Proofs.YtfbfdkibdjinaaaGreatDoor
