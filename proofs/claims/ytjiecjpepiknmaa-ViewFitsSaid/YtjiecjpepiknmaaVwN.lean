/-
  Made events of both rooms; what they make a view.
-/
import Derived.Test.YtjiecjpepiknmaaVwM
import Derived.Test.YtjiecjpepiknmaaDagMade
namespace Go.Proofs.Ytjiecjpepiknmaa
set_option maxRecDepth 20000
open Go.RowKit
set_option linter.unusedVariables false
set_option linter.unusedSimpArgs false
theorem ofL_put {V : Vw} (h : Up (V.map Prod.fst)) (r : ByteArray) (l : List Ev) (r' : ByteArray) : ofL (putK Prod.fst (r, l) V) r' = if r' = r then l else ofL V r' := by
  have hu := putK_up (key := Prod.fst) (x := (r, l)) h
  by_cases hr : r' = r
  · subst hr
    rw [if_pos rfl]
    exact ofL_in hu (p := (r', l)) ((putK_mem h).2 (.inl rfl))
  · rw [if_neg hr]
    by_cases hm : r' ∈ V.map Prod.fst
    · obtain ⟨p, hp, rfl⟩ := List.mem_map.1 hm
      rw [ofL_in h hp]
      exact ofL_in hu ((putK_mem h).2 (.inr ⟨hp, hr⟩))
    · rw [ofL_out hm]
      refine ofL_out (fun hm' => ?_)
      obtain ⟨p, hp, rfl⟩ := List.mem_map.1 hm'
      rcases (putK_mem h).1 hp with rfl | ⟨hp, -⟩
      · exact hr rfl
      · exact hm (List.mem_map.2 ⟨p, hp, rfl⟩)
theorem ofL_addV {V : Vw} {e : Ev} (h : Up (V.map Prod.fst)) (he : errV V e = 0) (r : ByteArray) : ofL (addV V e) r = if r = e.room then ofL V r ++ [e] else ofL V r := by
  unfold addV
  rw [if_pos he, ofL_put h]
  have : addA e.room (ofL V e.room) e = ofL V e.room ++ [e] := by
    unfold addA
    exact if_pos he
  rw [this]
  by_cases hr : r = e.room
  · rw [if_pos hr, if_pos hr, hr]
  · rw [if_neg hr, if_neg hr]
abbrev inRoom (es : List Ev) (r : ByteArray) : List Ev := es.filter (fun e => decide (e.room = r))
/-- Each is taken behind those ahead of it. -/
def AllOk (es : List Ev) : Prop := ∀ (i : Nat) e, es[i]? = some e → errA e.room (inRoom (es.take i) e.room) e = 0
def foldV (es : List Ev) : Vw := es.foldl addV []
theorem foldV_snoc (es : List Ev) (e : Ev) : foldV (es ++ [e]) = addV (foldV es) e := by simp [foldV]
theorem foldV_ok (es : List Ev) : VOk es.length (foldV es) := by
  induction es using snoc_ind with
  | h0 => exact VOk.nil
  | hs l e ih =>
    rw [foldV_snoc, List.length_append]
    exact addV_ok ih
theorem foldV_ofL (es : List Ev) (h : AllOk es) : ∀ r, ofL (foldV es) r = inRoom es r := by
  induction es using snoc_ind with
  | h0 => intro r; rfl
  | hs l e ih =>
    intro r
    have hl : AllOk l := fun i x hx => by
      have hi := (List.getElem?_eq_some_iff.1 hx).1
      have := h i x (by rw [List.getElem?_append_left hi]; exact hx)
      rw [List.take_append_of_le_length (by omega)] at this
      exact this
    have he : errV (foldV l) e = 0 := by
      have := h l.length e (by simp)
      rw [List.take_left] at this
      unfold errV
      rw [ih hl]
      exact this
    rw [foldV_snoc, ofL_addV (foldV_ok l).up he, ih hl, inRoom, inRoom, List.filter_append]
    by_cases hr : r = e.room
    · rw [if_pos hr, List.filter_cons, if_pos (decide_eq_true hr.symm)]
      rfl
    · rw [if_neg hr, List.filter_cons, if_neg (by simp only [decide_eq_true_eq]; exact fun e' => hr e'.symm)]
      simp
theorem allOk_take {es : List Ev} (h : AllOk es) (n : Nat) : AllOk (es.take n) := fun i e he => by
  rw [List.getElem?_take] at he
  split at he
  · have := h i e he
    rw [List.take_take, Nat.min_eq_left (by omega)]
    exact this
  · cases he
theorem allOk_err {es : List Ev} (h : AllOk es) {i : Nat} {e : Ev} (he : es[i]? = some e) : errV (foldV (es.take i)) e = 0 := by
  unfold errV
  rw [foldV_ofL _ (allOk_take h i)]
  exact h i e he
theorem foldV_take {es : List Ev} {i : Nat} {e : Ev} (he : es[i]? = some e) : foldV (es.take (i + 1)) = addV (foldV (es.take i)) e := by
  rw [List.take_add_one, he]
  exact foldV_snoc _ _
theorem valid_room {r : ByteArray} {l : List Ev} (h : Valid r l) : ∀ e ∈ l, e.room = r := by
  intro e he
  obtain ⟨i, hi, rfl⟩ := List.getElem_of_mem he
  exact (err_zero (h i _ (List.getElem?_eq_getElem hi))).2.1
theorem inRoom_all {r : ByteArray} {l : List Ev} (h : ∀ e ∈ l, e.room = r) : inRoom l r = l := by
  rw [inRoom, List.filter_eq_self]
  intro e he
  exact decide_eq_true (h e he)
theorem inRoom_none {r : ByteArray} {l : List Ev} (h : ∀ e ∈ l, e.room ≠ r) : inRoom l r = [] := by
  rw [inRoom, List.filter_eq_nil_iff]
  intro e he
  simp only [decide_eq_true_eq]
  exact h e he
theorem allOk_two {a b : ByteArray} {la lb : List Ev} (ha : Valid a la) (hb : Valid b lb) (hne : a ≠ b) : AllOk (la ++ lb) := by
  intro i e he
  by_cases hi : i < la.length
  · rw [List.getElem?_append_left hi] at he
    rw [List.take_append_of_le_length (by omega), valid_room ha e (List.mem_of_getElem? he), inRoom_all (fun x hx => valid_room ha x (List.mem_of_mem_take hx))]
    exact ha i e he
  · rw [List.getElem?_append_right (by omega)] at he
    rw [List.take_append, List.take_of_length_le (by omega), valid_room hb e (List.mem_of_getElem? he), inRoom, List.filter_append]
    have h1 := inRoom_none (r := b) (l := la) (fun x hx => by rw [valid_room ha x hx]; exact hne)
    have h2 := inRoom_all (r := b) (l := lb.take (i - la.length)) (fun x hx => valid_room hb x (List.mem_of_mem_take hx))
    unfold inRoom at h1 h2
    rw [h1, h2, List.nil_append]
    exact hb _ e he
theorem rooms_two : roomS 0 ≠ roomS 1 := by decide +kernel
/-- What is made of both. -/
def madeL (gs hs : List GV) : List Ev := madeTo (roomS 0) (gps gs) (min gs.length 9) ++ madeTo (roomS 1) (gps hs) (min hs.length 9)
theorem made_rows (r : Int) (gs : List GV) : Rowed (roomS r) (madeTo (roomS r) (gps gs) (min gs.length 9)) ∧ (madeTo (roomS r) (gps gs) (min gs.length 9)).length ≤ 9 := by
  have h := madeTo_row (roomS_room r) (gps gs) (min gs.length 9) (by omega) (by rw [List.length_map]; omega)
  exact ⟨h.1, by rw [h.2]; omega⟩
theorem madeL_ok (gs hs : List GV) : AllOk (madeL gs hs) := allOk_two (made_rows 0 gs).1.valid (made_rows 1 hs).1.valid rooms_two
theorem madeL_len (gs hs : List GV) : (madeL gs hs).length ≤ 18 := by
  unfold madeL
  rw [List.length_append]
  have := (made_rows 0 gs).2
  have := (made_rows 1 hs).2
  omega

set_option maxHeartbeats 1600000 in
theorem refMade10_any (va vb : Value) (gs hs : List GV) (w : World) (ha : GsS w va gs) (hb : GsS w vb hs) :
    Calls Try.prog 12 #[va, vb] w fun e w' => ∃ v zs, e = .returned v ∧ EvsS w' v zs ∧ evs zs = madeL gs hs ∧ LV.Mine w' w.heap.size v zs ∧ Below w.heap.size w w' ∧ ∀ k, footE v zs k → w.heap.size ≤ k := by
  obtain ⟨Aa, ca, rfl, -⟩ := id ha.1
  obtain ⟨Ab, cb, rfl, -⟩ := id hb.1
  have HA := Lib.hid ha
  have HB := Lib.hid hb
  have HR0 := Lib.hid (fun W => roomOf_any 0 W (by omega) (by omega))
  have HR1 := Lib.hid (fun W => roomOf_any 1 W (by omega) (by omega))
  have HMA := Lib.hid (fun W (hb : Below w.heap.size w W) => refMade_any (roomS 0) _ gs W (HA.out.below hb) (roomS_room 0))
  have HMB := Lib.hid (fun W (hb : Below w.heap.size w W) => refMade_any (roomS 1) _ hs W (HB.out.below hb) (roomS_room 1))
  have HLA : Hid ((madeTo (roomS 0) (gps gs) (min gs.length 9)).length ≤ 9) := Lib.hid (made_rows 0 gs).2
  have HLB : Hid ((madeTo (roomS 1) (gps hs) (min hs.length 9)).length ≤ 9) := Lib.hid (made_rows 1 hs).2
  have HML : Hid (madeL gs hs = madeTo (roomS 0) (gps gs) (min gs.length 9) ++ madeTo (roomS 1) (gps hs) (min hs.length 9)) := Lib.hid rfl
  generalize madeTo (roomS 0) (gps gs) (min gs.length 9) = la at HMA HLA HML
  generalize madeTo (roomS 1) (gps hs) (min hs.length 9) = lb at HMB HLB HML
  generalize madeL gs hs = lab at HML ⊢
  generalize roomS 0 = r0 at HR0 HMA
  generalize roomS 1 = r1 at HR1 HMB
  clear ha hb HA HB
  go_enter Try.func12, Try.ntmps12
  go_wp2_with fail
  go_at_call 6
  refine (HR0.out _).mono ?_
  rintro e w1 ⟨rfl, hb1⟩
  have HB1 := Lib.hid hb1
  have HQ := Lib.hid (HMA.out w1 hb1)
  clear hb1
  go_wp2_with fail
  go_at_call 23
  refine HQ.out.mono ?_
  rintro e w2 ⟨v2, xs, rfl, hes, hev, hb2, hfp⟩
  obtain ⟨A2, c2, rfl, -⟩ := id hes.1
  have HB2 := Lib.hid (HB1.out.trans (hb2.mono HB1.out.size))
  have HE2 := Lib.hid hes
  have HV2 := Lib.hid hev
  have HF2 : Hid (∀ x ∈ xs, ∀ k, footV x k → w.heap.size ≤ k ∧ k < w2.heap.size) := Lib.hid (fun x hx k hk => by
    have := hfp x hx k hk.2
    have := HB1.out.size
    omega)
  have hs2 : w.heap.size ≤ w2.heap.size := HB2.out.size
  have hxl : xs.length ≤ 9 := by rw [← evs_len, hev]; exact HLA.out
  clear hes hev hb2 hfp HQ
  have hfl2 : ∀ w, (Instr.field 51 (.agg #[.string r0, .slice A2 xs.length c2]) 1).run Try.prog w = .ok (.slice A2 xs.length c2) w := fun w => by kernel_rfl
  go_upto_region 3 with (at_builtin; refine wpList_puts rfl knV (.tmp 6) (.tmp 10) 36 rfl (v := .slice none 0 0) rfl (Lies.Mine.nil w2 w.heap.size) hs2 (.slice A2 xs.length c2) xs xs.length rfl rfl (HE2.out.1.srcN knV rfl) (by simp only [List.length_nil]; omega) ?_; rw [List.length_nil, Nat.zero_add, List.nil_append]; intro A3 c3 w3 m3 g3 o3; have HM3 : Hid (LV.Mine w3 w.heap.size (.slice A3 xs.length c3) xs) := Lib.hid m3; have HG3 : Hid (Below w2.heap.size w2 w3) := Lib.hid ((Below.refl _ _).grown g3 (Nat.le_refl _) (fun k hk => by cases hk)); have HO3 : Hid (∀ k, (Value.slice A3 xs.length c3).ownBlock = some k → w2.heap.size ≤ k) := Lib.hid (fun k hk => (o3 k hk).resolve_left (fun e => by cases e)); clear m3 g3 o3)
  have HB3 := Lib.hid (HB2.out.trans (HG3.out.mono HB2.out.size))
  have HE3 : Hid (∀ x ∈ xs, x.at w3) := Lib.hid (fun x hx => (HE2.out.2 x hx).below HG3.out)
  clear HE2
  go_wp2_with fail
  go_at_call 6
  refine (HR1.out _).mono ?_
  rintro e w4 ⟨rfl, hb4⟩
  have HB4 := Lib.hid (HB3.out.trans (hb4.mono HB3.out.size))
  have HM4 := Lib.hid (HM3.out.below hb4)
  have HE4 : Hid (∀ x ∈ xs, x.at w4) := Lib.hid (fun x hx => (HE3.out x hx).below hb4)
  have HQ := Lib.hid (HMB.out w4 HB4.out)
  clear hb4 HM3 HE3
  go_wp2_with fail
  go_at_call 23
  refine HQ.out.mono ?_
  rintro e w5 ⟨v5, ys, rfl, hes, hev, hb5, hfp⟩
  obtain ⟨A5, c5, rfl, -⟩ := id hes.1
  have HB5 := Lib.hid (HB4.out.trans (hb5.mono HB4.out.size))
  have HM5 := Lib.hid (HM4.out.below hb5)
  have HX5 : Hid (∀ x ∈ xs, x.at w5) := Lib.hid (fun x hx => (HE4.out x hx).below hb5)
  have HE5 := Lib.hid hes
  have HV5 := Lib.hid hev
  have HF5 : Hid (∀ y ∈ ys, ∀ k, footV y k → w4.heap.size ≤ k ∧ k < w5.heap.size) := Lib.hid (fun x hx k hk => hfp x hx k hk.2)
  have hs5 : w.heap.size ≤ w5.heap.size := HB5.out.size
  have hyl : ys.length ≤ 9 := by rw [← evs_len, hev]; exact HLB.out
  have HOW : Hid (∀ k, (Value.slice A3 xs.length c3).ownBlock = some k → k < w4.heap.size) := Lib.hid (fun k hk => (HM4.out.lt k hk).2)
  have HOW2 : Hid (∀ x ∈ xs, ∀ k, footV x k → k < w2.heap.size) := Lib.hid (fun x hx k hk => (HF2.out x hx k hk).2)
  clear hes hev hb5 hfp HQ
  have hfl5 : ∀ w, (Instr.field 51 (.agg #[.string r1, .slice A5 ys.length c5]) 1).run Try.prog w = .ok (.slice A5 ys.length c5) w := fun w => by kernel_rfl
  go_wp2_with (at_builtin; refine wpList_puts rfl knV (.tmp 12) (.tmp 16) 36 rfl (v := .slice A3 xs.length c3) rfl HM5.out hs5 (.slice A5 ys.length c5) ys ys.length rfl rfl (HE5.out.1.srcN knV rfl) (by omega) ?_; intro A6 c6 w6 m6 g6 o6; have HM6 : Hid (LV.Mine w6 w.heap.size (.slice A6 (xs.length + ys.length) c6) (xs ++ ys)) := Lib.hid m6; have HG6 : Hid (w5.grownBy w6 (Value.slice A3 xs.length c3).ownBlock) := Lib.hid g6; clear m6 g6 o6)
  go_ret
  have hlow3 : ∀ k, (Value.slice A3 xs.length c3).ownBlock = some k → w.heap.size ≤ k := fun k hk => (HM5.out.lt k hk).1
  refine ⟨_, xs ++ ys, rfl, ⟨HM6.out.slice, fun z hz => ?_⟩, ?_, HM6.out, HB5.out.grown HG6.out HB5.out.size hlow3, fun k hk => ?_⟩
  · rcases List.mem_append.1 hz with hz | hz
    · refine (HX5.out z hz).stay0 HG6.out.size (fun k hk hf => HG6.out.block k hk (fun e => ?_))
      have h1 := HO3.out k e.symm
      have h2 := HOW2.out z hz k hf
      omega
    · refine (HE5.out.2 z hz).stay0 HG6.out.size (fun k hk hf => HG6.out.block k hk (fun e => ?_))
      have h1 := (HF5.out z hz k hf).1
      have h2 := HOW.out k e.symm
      omega
  · show List.map EvV.ev (xs ++ ys) = lab
    rw [List.map_append]
    show evs xs ++ evs ys = lab
    rw [HV2.out, HV5.out, HML.out]
  · rcases hk with ⟨h0, hk⟩ | ⟨z, hz, hk⟩
    · exact (HM6.out.lt k hk).1
    · rcases List.mem_append.1 hz with hz | hz
      · exact (HF2.out z hz k hk).1
      · have := (HF5.out z hz k hk).1
        have := HB4.out.size
        omega
end Go.Proofs.Ytjiecjpepiknmaa
