/-
  What the statements stand on, part ZA26.
-/
import Derived.Test.YtnnapkakbdpkaaaGreatZA25
set_option linter.unusedVariables false
set_option linter.unusedSimpArgs false
namespace Go.Proofs.YtnnapkakbdpkaaaGreat
set_option maxRecDepth 20000
open Go.RowKit
theorem ofL_put {V : Vw} (h : Up (V.map Prod.fst)) (r : ByteArray) (l : List Ev) (r' : ByteArray) : ofL (putK Prod.fst (r, l) V) r' = if r' = r then l else ofL V r' := by
 have hu := putK_up (key := Prod.fst) (x := (r, l)) h
 by_cases hr : r' = r
 ·subst hr
  rw [if_pos rfl]
  exact ofL_in hu (p := (r', l)) ((putK_mem h).2 (.inl rfl))
 ·rw [if_neg hr]
  by_cases hm : r' ∈ V.map Prod.fst
  ·obtain ⟨p, hp, rfl⟩ := List.mem_map.1 hm
   rw [ofL_in h hp]
   exact ofL_in hu ((putK_mem h).2 (.inr ⟨hp, hr⟩))
  ·rw [ofL_out hm]
   refine ofL_out (fun hm' => ?_)
   obtain ⟨p, hp, rfl⟩ := List.mem_map.1 hm'
   rcases (putK_mem h).1 hp with rfl | ⟨hp, -⟩
   ·exact hr rfl
   ·exact hm (List.mem_map.2 ⟨p, hp, rfl⟩)
theorem ofL_addV {V : Vw} {e : Ev} (h : Up (V.map Prod.fst)) (he : errV V e = 0) (r : ByteArray) : ofL (addV V e) r = if r = e.room then ofL V r ++ [e] else ofL V r := by
 unfold addV
 rw [if_pos he, ofL_put h]
 have : addA e.room (ofL V e.room) e = ofL V e.room ++ [e] := by
  unfold addA
  exact if_pos he
 rw [this]
 by_cases hr : r = e.room
 ·rw [if_pos hr, if_pos hr, hr]
 ·rw [if_neg hr, if_neg hr]
abbrev inRoom (es : List Ev) (r : ByteArray) : List Ev := es.filter (fun e => decide (e.room = r))
def AllOk (es : List Ev) : Prop := ∀ (i : Nat) e, es[i]? = some e → errA e.room (inRoom (es.take i) e.room) e = 0
def foldV (es : List Ev) : Vw := es.foldl addV []
theorem foldV_snoc (es : List Ev) (e : Ev) : foldV (es ++ [e]) = addV (foldV es) e := by simp [foldV]
theorem foldV_ok (es : List Ev) : VOk es.length (foldV es) := by
 induction es using snoc_ind with
 | h0 => exact VOk.nil
 | hs l e ih =>
  rw [foldV_snoc, List.length_append]
  exact addV_ok ih
theorem foldV_ofL (es : List Ev) (h : AllOk es) : ∀ r, ofL (foldV es) r = inRoom es r := by
 induction es using snoc_ind with
 | h0 => intro r; rfl
 | hs l e ih =>
  intro r
  have hl : AllOk l := fun i x hx => by
   have hi := (List.getElem?_eq_some_iff.1 hx).1
   have := h i x (by rw [List.getElem?_append_left hi]; exact hx)
   rw [List.take_append_of_le_length (by omega)] at this
   exact this
  have he : errV (foldV l) e = 0 := by
   have := h l.length e (by simp)
   rw [List.take_left] at this
   unfold errV
   rw [ih hl]
   exact this
  rw [foldV_snoc, ofL_addV (foldV_ok l).up he, ih hl, inRoom, inRoom, List.filter_append]
  by_cases hr : r = e.room
  ·rw [if_pos hr, List.filter_cons, if_pos (decide_eq_true hr.symm)]
   rfl
  ·rw [if_neg hr, List.filter_cons, if_neg (by simp only [decide_eq_true_eq]; exact fun e' => hr e'.symm)]
   simp
theorem foldV_take {es : List Ev} {i : Nat} {e : Ev} (he : es[i]? = some e) : foldV (es.take (i + 1)) = addV (foldV (es.take i)) e := by
 rw [List.take_add_one, he]
 exact foldV_snoc _ _
theorem valid_room {r : ByteArray} {l : List Ev} (h : Valid r l) : ∀ e ∈ l, e.room = r := by
 intro e he
 obtain ⟨i, hi, rfl⟩ := List.getElem_of_mem he
 exact (err_zero (h i _ (List.getElem?_eq_getElem hi))).2.1
theorem inRoom_all {r : ByteArray} {l : List Ev} (h : ∀ e ∈ l, e.room = r) : inRoom l r = l := by
 rw [inRoom, List.filter_eq_self]
 intro e he
 exact decide_eq_true (h e he)
theorem inRoom_none {r : ByteArray} {l : List Ev} (h : ∀ e ∈ l, e.room ≠ r) : inRoom l r = [] := by
 rw [inRoom, List.filter_eq_nil_iff]
 intro e he
 simp only [decide_eq_true_eq]
 exact h e he
theorem allOk_two {a b : ByteArray} {la lb : List Ev} (ha : Valid a la) (hb : Valid b lb) (hne : a ≠ b) : AllOk (la ++ lb) := by
 intro i e he
 by_cases hi : i < la.length
 ·rw [List.getElem?_append_left hi] at he
  rw [List.take_append_of_le_length (by omega), valid_room ha e (List.mem_of_getElem? he), inRoom_all (fun x hx => valid_room ha x (List.mem_of_mem_take hx))]
  exact ha i e he
 ·rw [List.getElem?_append_right (by omega)] at he
  rw [List.take_append, List.take_of_length_le (by omega), valid_room hb e (List.mem_of_getElem? he), inRoom, List.filter_append]
  have h1 := inRoom_none (r := b) (l := la) (fun x hx => by rw [valid_room ha x hx]; exact hne)
  have h2 := inRoom_all (r := b) (l := lb.take (i - la.length)) (fun x hx => valid_room hb x (List.mem_of_mem_take hx))
  unfold inRoom at h1 h2
  rw [h1, h2, List.nil_append]
  exact hb _ e he
theorem rooms_two : roomS 0 ≠ roomS 1 := by decide +kernel
def madeL (gs hs : List GV) : List Ev := madeTo (roomS 0) (gps gs) (min gs.length 9) ++ madeTo (roomS 1) (gps hs) (min hs.length 9)
theorem made_rows (r : Int) (gs : List GV) : Rowed (roomS r) (madeTo (roomS r) (gps gs) (min gs.length 9)) ∧ (madeTo (roomS r) (gps gs) (min gs.length 9)).length ≤ 9 := by
 have h := madeTo_row (roomS_room r) (gps gs) (min gs.length 9) (by omega) (by rw [List.length_map]; omega)
 exact ⟨h.1, by rw [h.2]; omega⟩
theorem madeL_ok (gs hs : List GV) : AllOk (madeL gs hs) := allOk_two (made_rows 0 gs).1.valid (made_rows 1 hs).1.valid rooms_two
theorem madeL_len (gs hs : List GV) : (madeL gs hs).length ≤ 18 := by
 unfold madeL
 rw [List.length_append]
 have := (made_rows 0 gs).2
 have := (made_rows 1 hs).2
 omega
set_option maxHeartbeats 1600000 in
theorem refMade10_any (va vb : Value) (gs hs : List GV) (w : World) (ha : GsS w va gs) (hb : GsS w vb hs) :
  Calls Tryz.prog 11 #[va, vb] w fun e w' => ∃ v zs, e = .returned v ∧ EvsS w' v zs ∧ evs zs = madeL gs hs ∧ LV.Mine w' w.heap.size v zs ∧ Below w.heap.size w w' ∧ ∀ k, footE v zs k → w.heap.size ≤ k := by
 obtain ⟨Aa, ca, rfl, -⟩ := id ha.1
 obtain ⟨Ab, cb, rfl, -⟩ := id hb.1
 have HA := Lib.hid ha
 have HB := Lib.hid hb
 have HR0 := Lib.hid (fun W => roomOf_any 0 W (by omega) (by omega))
 have HR1 := Lib.hid (fun W => roomOf_any 1 W (by omega) (by omega))
 have HMA := Lib.hid (fun W (hb : Below w.heap.size w W) => refMade_any (roomS 0) _ gs W (HA.out.below hb) (roomS_room 0))
 have HMB := Lib.hid (fun W (hb : Below w.heap.size w W) => refMade_any (roomS 1) _ hs W (HB.out.below hb) (roomS_room 1))
 have HLA : Hid ((madeTo (roomS 0) (gps gs) (min gs.length 9)).length ≤ 9) := Lib.hid (made_rows 0 gs).2
 have HLB : Hid ((madeTo (roomS 1) (gps hs) (min hs.length 9)).length ≤ 9) := Lib.hid (made_rows 1 hs).2
 have HML : Hid (madeL gs hs = madeTo (roomS 0) (gps gs) (min gs.length 9) ++ madeTo (roomS 1) (gps hs) (min hs.length 9)) := Lib.hid rfl
 generalize madeTo (roomS 0) (gps gs) (min gs.length 9) = la at HMA HLA HML
 generalize madeTo (roomS 1) (gps hs) (min hs.length 9) = lb at HMB HLB HML
 generalize madeL gs hs = lab at HML ⊢
 generalize roomS 0 = r0 at HR0 HMA
 generalize roomS 1 = r1 at HR1 HMB
 clear ha hb HA HB
 go_enter Tryz.func11, Tryz.ntmps11
 go_wp2_with fail
 go_at_call 32
 refine (HR0.out _).mono ?_
 rintro e w1 ⟨rfl, hb1⟩
 have HB1 := Lib.hid hb1
 have HQ := Lib.hid (HMA.out w1 hb1)
 clear hb1
 go_wp2_with fail
 go_at_call 31
 refine HQ.out.mono ?_
 rintro e w2 ⟨v2, xs, rfl, hes, hev, hb2, hfp⟩
 obtain ⟨A2, c2, rfl, -⟩ := id hes.1
 have HB2 := Lib.hid (HB1.out.trans (hb2.mono HB1.out.size))
 have HE2 := Lib.hid hes
 have HV2 := Lib.hid hev
 have HF2 : Hid (∀ x ∈ xs, ∀ k, footV x k → w.heap.size ≤ k ∧ k < w2.heap.size) := Lib.hid (fun x hx k hk => by
  have := hfp x hx k hk.2
  have := HB1.out.size
  omega)
 have hs2 : w.heap.size ≤ w2.heap.size := HB2.out.size
 have hxl : xs.length ≤ 9 := by rw [← evs_len, hev]; exact HLA.out
 clear hes hev hb2 hfp HQ
 have hfl2 : ∀ w, (Instr.field 93 (.agg #[.string r0, .slice A2 xs.length c2]) 1).run Tryz.prog w = .ok (.slice A2 xs.length c2) w := fun w => by kernel_rfl
 go_upto_region 3 with (at_builtin; refine wpList_puts rfl knV (.tmp 6) (.tmp 10) 40 rfl (v := .slice none 0 0) rfl (Lies.Mine.nil w2 w.heap.size) hs2 (.slice A2 xs.length c2) xs xs.length rfl rfl (HE2.out.1.srcN knV rfl) (by simp only [List.length_nil]; omega) ?_; rw [List.length_nil, Nat.zero_add, List.nil_append]; intro A3 c3 w3 m3 g3 o3; have HM3 : Hid (LV.Mine w3 w.heap.size (.slice A3 xs.length c3) xs) := Lib.hid m3; have HG3 : Hid (Below w2.heap.size w2 w3) := Lib.hid ((Below.refl _ _).grown g3 (Nat.le_refl _) (fun k hk => by cases hk)); have HO3 : Hid (∀ k, (Value.slice A3 xs.length c3).ownBlock = some k → w2.heap.size ≤ k) := Lib.hid (fun k hk => (o3 k hk).resolve_left (fun e => by cases e)); clear m3 g3 o3)
 have HB3 := Lib.hid (HB2.out.trans (HG3.out.mono HB2.out.size))
 have HE3 : Hid (∀ x ∈ xs, x.at w3) := Lib.hid (fun x hx => (HE2.out.2 x hx).below HG3.out)
 clear HE2
 go_wp2_with fail
 go_at_call 32
 refine (HR1.out _).mono ?_
 rintro e w4 ⟨rfl, hb4⟩
 have HB4 := Lib.hid (HB3.out.trans (hb4.mono HB3.out.size))
 have HM4 := Lib.hid (HM3.out.below hb4)
 have HE4 : Hid (∀ x ∈ xs, x.at w4) := Lib.hid (fun x hx => (HE3.out x hx).below hb4)
 have HQ := Lib.hid (HMB.out w4 HB4.out)
 clear hb4 HM3 HE3
 go_wp2_with fail
 go_at_call 31
 refine HQ.out.mono ?_
 rintro e w5 ⟨v5, ys, rfl, hes, hev, hb5, hfp⟩
 obtain ⟨A5, c5, rfl, -⟩ := id hes.1
 have HB5 := Lib.hid (HB4.out.trans (hb5.mono HB4.out.size))
 have HM5 := Lib.hid (HM4.out.below hb5)
 have HX5 : Hid (∀ x ∈ xs, x.at w5) := Lib.hid (fun x hx => (HE4.out x hx).below hb5)
 have HE5 := Lib.hid hes
 have HV5 := Lib.hid hev
 have HF5 : Hid (∀ y ∈ ys, ∀ k, footV y k → w4.heap.size ≤ k ∧ k < w5.heap.size) := Lib.hid (fun x hx k hk => hfp x hx k hk.2)
 have hs5 : w.heap.size ≤ w5.heap.size := HB5.out.size
 have hyl : ys.length ≤ 9 := by rw [← evs_len, hev]; exact HLB.out
 have HOW : Hid (∀ k, (Value.slice A3 xs.length c3).ownBlock = some k → k < w4.heap.size) := Lib.hid (fun k hk => (HM4.out.lt k hk).2)
 have HOW2 : Hid (∀ x ∈ xs, ∀ k, footV x k → k < w2.heap.size) := Lib.hid (fun x hx k hk => (HF2.out x hx k hk).2)
 clear hes hev hb5 hfp HQ
 have hfl5 : ∀ w, (Instr.field 93 (.agg #[.string r1, .slice A5 ys.length c5]) 1).run Tryz.prog w = .ok (.slice A5 ys.length c5) w := fun w => by kernel_rfl
 go_wp2_with (at_builtin; refine wpList_puts rfl knV (.tmp 12) (.tmp 16) 40 rfl (v := .slice A3 xs.length c3) rfl HM5.out hs5 (.slice A5 ys.length c5) ys ys.length rfl rfl (HE5.out.1.srcN knV rfl) (by omega) ?_; intro A6 c6 w6 m6 g6 o6; have HM6 : Hid (LV.Mine w6 w.heap.size (.slice A6 (xs.length + ys.length) c6) (xs ++ ys)) := Lib.hid m6; have HG6 : Hid (w5.grownBy w6 (Value.slice A3 xs.length c3).ownBlock) := Lib.hid g6; clear m6 g6 o6)
 go_ret
 have hlow3 : ∀ k, (Value.slice A3 xs.length c3).ownBlock = some k → w.heap.size ≤ k := fun k hk => (HM5.out.lt k hk).1
 refine ⟨_, xs ++ ys, rfl, ⟨HM6.out.slice, fun z hz => ?_⟩, ?_, HM6.out, HB5.out.grown HG6.out HB5.out.size hlow3, fun k hk => ?_⟩
 ·rcases List.mem_append.1 hz with hz | hz
  ·refine (HX5.out z hz).stay0 HG6.out.size (fun k hk hf => HG6.out.block k hk (fun e => ?_))
   have h1 := HO3.out k e.symm
   have h2 := HOW2.out z hz k hf
   omega
  ·refine (HE5.out.2 z hz).stay0 HG6.out.size (fun k hk hf => HG6.out.block k hk (fun e => ?_))
   have h1 := (HF5.out z hz k hf).1
   have h2 := HOW.out k e.symm
   omega
 ·show List.map EvV.ev (xs ++ ys) = lab
  rw [List.map_append]
  show evs xs ++ evs ys = lab
  rw [HV2.out, HV5.out, HML.out]
 ·rcases hk with ⟨h0, hk⟩ | ⟨z, hz, hk⟩
  ·exact (HM6.out.lt k hk).1
  ·rcases List.mem_append.1 hz with hz | hz
   ·exact (HF2.out z hz k hk).1
   ·have := (HF5.out z hz k hk).1
    have := HB4.out.size
    omega
end Go.Proofs.YtnnapkakbdpkaaaGreat

namespace Go.Proofs.YtnnapkakbdpkaaaGreat
set_option maxRecDepth 20000
open Go.RowKit Go.Maps Go.ChangeMaps
def mainS : ByteArray := ⟨#[109, 97, 105, 110]⟩
theorem event_main {s : ByteArray} (h : eventB s = true) : s ≠ mainS ∧ s ≠ ⟨#[]⟩ := by
 constructor
 ·rintro rfl
  revert h
  decide +kernel
 ·rintro rfl
  revert h
  decide +kernel
def isOfB (e : Ev) (t : ByteArray) : Bool := if t = ⟨#[]⟩ then true else if t = mainS then decide (e.thread = ⟨#[]⟩) else decide (t = e.id) || decide (t = e.thread)
theorem isOfB_is {e : Ev} (hm : mayE e = true) (t : ByteArray) : isOfB e t = true ↔ (t = ⟨#[]⟩ ∨ t = e.id ∨ (t = mainS ∧ e.thread = ⟨#[]⟩) ∨ (e.thread ≠ ⟨#[]⟩ ∧ t = e.thread)) := by
 have hid : e.id ≠ mainS := by
  unfold mayE headB at hm
  simp only [Bool.and_eq_true] at hm
  exact (event_main hm.1.1.1.1.1.1.1).1
 have hth : e.thread ≠ mainS := by
  unfold mayE thrB at hm
  simp only [Bool.and_eq_true, Bool.or_eq_true, decide_eq_true_eq] at hm
  rcases hm.1.2 with h | h
  ·rw [h]; decide
  ·exact (event_main h.1.1).1
 unfold isOfB
 by_cases h1 : t = ⟨#[]⟩
 ·simp [h1]
 ·rw [if_neg h1]
  by_cases h2 : t = mainS
  ·rw [if_pos h2, decide_eq_true_eq]
   constructor
   ·intro h; exact .inr (.inr (.inl ⟨h2, h⟩))
   ·rintro (h | h | h | h)
    ·exact absurd h h1
    ·exact absurd (h ▸ h2) hid
    ·exact h.2
    ·exact absurd (h.2 ▸ h2) hth
  ·rw [if_neg h2, Bool.or_eq_true, decide_eq_true_eq, decide_eq_true_eq]
   constructor
   ·rintro (h | h)
    ·exact .inr (.inl h)
    ·exact .inr (.inr (.inr ⟨fun e => h1 (h.trans e), h⟩))
   ·rintro (h | h | h | h)
    ·exact absurd h h1
    ·exact .inl h
    ·exact absurd h.1 h2
    ·exact .inr h.2
theorem fitsL_no {l : List Ev} {id t : ByteArray} (h : hasE l id = false) : fitsL l id t = 4 := by
 unfold hasE at h
 unfold fitsL
 cases hi : idx l id with
 | none => rfl
 | some k => rw [hi] at h; cases h
theorem fitsL_at {l : List Ev} {id t : ByteArray} {k : Nat} {e : Ev} (hk : idx l id = some k) (he : l[k]? = some e) : fitsL l id t = if t = ⟨#[]⟩ ∨ t = id ∨ (t = mainS ∧ e.thread = ⟨#[]⟩) ∨ (e.thread ≠ ⟨#[]⟩ ∧ t = e.thread) then 0 else 7 := by
 unfold fitsL
 rw [hk]
 simp only
 rw [he]
 rfl
theorem fitsL_is {room : ByteArray} {l : List Ev} {y : Ev} (hv : Valid room l) (hy : y ∈ l) (t : ByteArray) : fitsL l y.id t = bif isOfB y t then 0 else 7 := by
 cases hi : idx l y.id with
 | none =>
  have : hasE l y.id = true := has_iff.2 ⟨y, hy, rfl⟩
  unfold hasE at this
  rw [hi] at this
  cases this
 | some k =>
  obtain ⟨x, hx, hxi, _⟩ := idx_some hi
  have e1 : x = y := valid_ids hv (List.mem_of_getElem? hx) hy hxi
  subst e1
  rw [fitsL_at hi hx]
  have hm := (err_zero (hv k x hx)).1
  cases hb : isOfB x t
  ·rw [if_neg (fun h => by have := (isOfB_is hm t).2 h; rw [hb] at this; cases this)]
   rfl
  ·rw [if_pos ((isOfB_is hm t).1 hb)]
   rfl
section
variable {C : Dags} {w wr w' : World} {vs : List VI} {ts : List Th} {v : VI} {i : Nat}
set_option maxHeartbeats 800000 in
theorem isOf_any (y : EvV) (t : ByteArray) (w : World) : Calls Tryz.prog 101 #[y.val, .string t] w fun e w' => e = .returned (.bool (isOfB y.ev t)) ∧ Below w.heap.size w w' := by
 have HB := Lib.hid (below_new w (.cells #[.string y.ev.id, .string y.ev.room, .slice y.A y.ev.parents.length y.cap, .string y.ev.thread, .string y.ev.user, .int .i64 y.ev.does] 52))
 have HW := Lib.hid (heap_alloc_new w (.cells #[.string y.ev.id, .string y.ev.room, .slice y.A y.ev.parents.length y.cap, .string y.ev.thread, .string y.ev.user, .int .i64 y.ev.does] 52))
 unfold EvV.val EvV.pv
 go_enter Tryz.func101, Tryz.ntmps101
 go_upto_region 1 with (fail)
 generalize w.alloc _ = w0 at HB HW ⊢
 generalize hBB : w.heap.size = B at HW ⊢
 have c0 : w0.cell? ⟨B, 0, none⟩ = some (.string y.ev.id) := cell_at HW.out 0
 have c3 : w0.cell? ⟨B, 3, none⟩ = some (.string y.ev.thread) := cell_at HW.out 3
 by_cases h1 : t = ⟨#[]⟩
 ·have HR : Hid (isOfB y.ev t = true) := Lib.hid (by unfold isOfB; rw [if_pos h1])
  have q1 : t.toList.isEmpty = true := by rw [h1, ByteArray.toList_eq]; rfl
  clear h1
  go_wp2_with fail
  go_ret
  exact ⟨by rw [HR.out]; rfl, HB.out⟩
 ·have q1 : t.toList.isEmpty = false := by
   rw [Bool.eq_false_iff]
   intro h9
   exact h1 (key_ext (by rw [List.isEmpty_iff.1 h9, ByteArray.toList_eq]))
  by_cases h2 : t = mainS
  ·have HR : Hid (isOfB y.ev t = decide (y.ev.thread = ⟨#[]⟩)) := Lib.hid (by unfold isOfB; rw [if_neg h1, if_pos h2])
   have q2 : (t.toList == [109, 97, 105, 110]) = true := by rw [h2, ByteArray.toList_eq]; rfl
   clear h1 h2
   have q3 : (y.ev.thread.toList.isEmpty) = decide (y.ev.thread = ⟨#[]⟩) := by
    rw [Bool.eq_iff_iff, decide_eq_true_eq, List.isEmpty_iff]
    exact ⟨fun h => key_ext (by rw [h, ByteArray.toList_eq]), fun h => by rw [h, ByteArray.toList_eq]⟩
   go_wp2_with fail
   go_ret
   exact ⟨by rw [HR.out]; simp [q3], HB.out⟩
  ·have HR : Hid (isOfB y.ev t = (decide (t = y.ev.id) || decide (t = y.ev.thread))) := Lib.hid (by unfold isOfB; rw [if_neg h1, if_neg h2])
   have q2 : (t.toList == [109, 97, 105, 110]) = false := by
    rw [beq_eq_false_iff_ne]
    intro h9
    exact h2 (key_ext (by rw [h9, ByteArray.toList_eq]; rfl))
   have q3 := keyB t y.ev.id
   have q4 := keyB t y.ev.thread
   generalize decide (t = y.ev.id) = b3 at q3 HR
   generalize decide (t = y.ev.thread) = b4 at q4 HR
   clear h1 h2
   cases b3
   ·go_wp2_with fail
    go_ret
    exact ⟨by rw [HR.out]; rfl, HB.out⟩
   ·go_wp2_with fail
    go_ret
    exact ⟨by rw [HR.out]; rfl, HB.out⟩
set_option maxHeartbeats 1600000 in
theorem viewFits_any (h : Kv C w wr vs ts) (hi : vs[i]? = some v) (room id t : ByteArray) (hr : room.size ≤ 40) (hu : id.size ≤ maxLen) : Calls Tryz.prog 70 #[.pointer (some ⟨v.g, 0, none⟩), .string room, .string id, .string t] wr fun e w' => e = .returned (.int .i64 (fitsL (ofL v.V room) id t)) ∧ Kv C w w' vs ts := by
 have hl : (ofL v.V room).length ≤ 100 := ((h.cv hi).ok.of_ room).2
 have HVL : Hid (Valid room (ofL v.V room)) := Lib.hid ((h.cv hi).ok.of_ room).1
 have HQ := Lib.hid (dagOf_any h hi room hr)
 have HK := Lib.hid h
 have HI := Lib.hid hi
 clear h hi
 go_enter Tryz.func70, Tryz.ntmps70
 go_wp2_with fail
 go_at_call 47
 refine HQ.out.mono ?_
 rintro e w1 ⟨gd, rfl, hd⟩
 have HKD := Lib.hid (hd.kd HK.out HI.out)
 have HC := Lib.hid (C.event id HKD.out.code hl hu)
 clear hd HQ
 go_wp2_with fail
 go_at_call 100
 refine HC.out.mono ?_
 rintro e w2 ⟨y, rfl, hya, hym, hyt, hyh, hc, ht⟩
 have HT := Lib.hid (HKD.out.step hc ht).1.kv
 have HH := Lib.hid hyh
 clear hya hym hyt hc ht HC HKD hyh
 have HKB := Lib.hid (HT.out.later (below_new w2 (.cells #[.string y.ev.id, .string y.ev.room, .slice y.A y.ev.parents.length y.cap, .string y.ev.thread, .string y.ev.user, .int .i64 y.ev.does] 52)))
 have HBX := Lib.hid (heap_alloc_new w2 (.cells #[.string y.ev.id, .string y.ev.room, .slice y.A y.ev.parents.length y.cap, .string y.ev.thread, .string y.ev.user, .int .i64 y.ev.does] 52))
 unfold EvV.val EvV.pv
 cases hh : hasE (ofL v.V room) id
 ·have HF : Hid (fitsL (ofL v.V room) id t = 4) := Lib.hid (fitsL_no hh)
  clear hh
  go_wp2_with fail
  go_ret
  exact ⟨by rw [HF.out]; rfl, HKB.out⟩
 ·have HF : Hid (fitsL (ofL v.V room) id t = bif isOfB y.ev t then 0 else 7) := Lib.hid (by
   obtain ⟨h1, h2⟩ := HH.out hh
   rw [← h2]
   exact fitsL_is HVL.out h1 t)
  have HIO := Lib.hid (fun W => isOf_any y t W)
  unfold EvV.val EvV.pv at HIO
  clear hh HH
  go_upto_region 4 with (fail)
  generalize w2.alloc _ = w3 at HKB HBX ⊢
  generalize w2.heap.size = B at HBX ⊢
  have r0 : w3.cell? ⟨B, 0, none⟩ = some (.string y.ev.id) := cell_at HBX.out 0
  have r1 : w3.cell? ⟨B, 1, none⟩ = some (.string y.ev.room) := cell_at HBX.out 1
  have r2 : w3.cell? ⟨B, 2, none⟩ = some (.slice y.A y.ev.parents.length y.cap) := cell_at HBX.out 2
  have r3 : w3.cell? ⟨B, 3, none⟩ = some (.string y.ev.thread) := cell_at HBX.out 3
  have r4 : w3.cell? ⟨B, 4, none⟩ = some (.string y.ev.user) := cell_at HBX.out 4
  have r5 : w3.cell? ⟨B, 5, none⟩ = some (.int .i64 y.ev.does) := cell_at HBX.out 5
  generalize isOfB y.ev t = ib at HIO HF
  go_wp2_with fail
  go_at_call 101
  refine (HIO.out _).mono ?_
  rintro e w4 ⟨rfl, hb4⟩
  have HK4 := Lib.hid (HKB.out.later hb4)
  clear hb4 r0 r1 r2 r3 r4 r5
  cases ib
  ·go_wp2_with fail
   go_ret
   exact ⟨by rw [HF.out]; rfl, HK4.out⟩
  ·go_wp2_with fail
   go_ret
   exact ⟨by rw [HF.out]; rfl, HK4.out⟩
end
end Go.Proofs.YtnnapkakbdpkaaaGreat

namespace Go.Proofs.YtnnapkakbdpkaaaGreat
set_option maxRecDepth 20000
open Go.RowKit Go.Maps Go.ChangeMaps
section
variable {C : Dags} {w wr w' : World} {vs : List VI} {ts : List Th} {v : VI} {i : Nat}
theorem CVs.of100 (h : CVs C w v) (r : ByteArray) : (ofL v.V r).length ≤ 100 := (h.ok.of_ r).2
theorem DagOf.size {gd : Nat} {room : ByteArray} (hd : DagOf C wr w' v gd room) : wr.heap.size ≤ w'.heap.size := by
 rcases hd with ⟨d, -, -, -, rfl⟩ | ⟨-, -, hb, -⟩
 ·exact Nat.le_refl _
 ·exact hb.size
theorem po_at {W : World} {B : Nat} {cs : Array Value} {t : TypeId} (hr : W.heap[B]? = some (.cells cs t (0, 0))) (a0 a1 : Value) (hs : cs.size = 2) :
  ∀ W', W' = W.setCells B 0 [a0, a1] → W'.heap[B]? = some (.cells #[a0, a1] t (0, 0)) ∧ W.grownBy W' (some B) := by
 rintro W' rfl
 obtain ⟨cur, z1, z2, z3⟩ := sm_at B t [a0, a1] 0 W _ hr (by rw [hs]; exact Nat.le_refl 2)
 have hl : cs.toList.length = 2 := hs
 have z4 : cur.toList = [a0, a1] := by
  rw [z3, List.take_zero, List.nil_append, List.drop_of_length_le (by rw [hl]; exact Nat.le_refl _), List.append_nil]
 have z5 : cur = #[a0, a1] := Array.toList_inj.1 z4
 rw [z1, z5]
 exact ⟨rfl, sm_grown W B 0 _⟩
set_option maxHeartbeats 800000 in
theorem viewPosition_any (h : Kv C w wr vs ts) (hi : vs[i]? = some v) (room id : ByteArray) (hr : room.size ≤ 40) (hu : id.size ≤ maxLen) : Calls Tryz.prog 29 #[.pointer (some ⟨v.g, 0, none⟩), .string room, .string id] wr fun e w' => ∃ p : Po, e = .returned (.tuple #[p.val, .bool (hasE (ofL v.V room) id)]) ∧ p = (bif hasE (ofL v.V room) id then posL (ofL v.V room) id else ⟨0, ⟨#[]⟩⟩) ∧ Kv C w w' vs ts := by
 have hl := (h.cv hi).of100 room
 have HTS : Hid (∀ t ∈ ts, ∀ k, t.P k → k ≠ wr.heap.size) := Lib.hid (fun t ht k hk => by have := t.lt wr k (h.is ht) hk; omega)
 have hlow := h.below.size
 have HK := Lib.hid (show Kv C w (wr.alloc (.cells #[.int .i64 0, .string ⟨#[]⟩] 83)) vs (Th.box wr.heap.size (.cells #[.int .i64 0, .string ⟨#[]⟩] 83 (0, 0)) :: ts) from h.add (below_new wr _) (heap_alloc_new wr _) (fun k hk => .inl (Nat.le_of_eq hk.symm)))
 have HI := Lib.hid hi
 clear h
 go_enter Tryz.func29, Tryz.ntmps29
 go_upto_region 1 with (fail)
 generalize wr.alloc _ = w0 at HK ⊢
 generalize wr.heap.size = B at HK HTS hlow ⊢
 have HQ := Lib.hid (dagOf_any HK.out hi room hr)
 clear hi
 go_wp2_with fail
 go_at_call 47
 refine HQ.out.mono ?_
 rintro e w1 ⟨gd, rfl, hd⟩
 have HKD := Lib.hid (hd.kd HK.out HI.out)
 have HC := Lib.hid (C.position id HKD.out.code hl hu)
 clear hd HQ HK
 go_wp2_with fail
 go_at_call 57
 refine HC.out.mono ?_
 rintro e w2 ⟨p, rfl, hp1, hp0, hc, ht⟩
 have HT := Lib.hid (HKD.out.step hc ht).1.kv
 have HP : Hid (p = (bif hasE (ofL v.V room) id then posL (ofL v.V room) id else ⟨0, ⟨#[]⟩⟩)) := Lib.hid (by
  cases hh : hasE (ofL v.V room) id
  ·exact hp0 hh
  ·exact hp1 hh)
 generalize hhb : hasE (ofL v.V room) id = hb at HP ⊢
 have HHB := Lib.hid hhb
 clear hhb
 clear hc ht HC HKD hp1 hp0
 have HB2 := Lib.hid (HT.out.is List.mem_cons_self)
 have r0 : w2.cell? ⟨B, 0, none⟩ = some (.int .i64 0) := cell_at HB2.out 0
 have r1 : w2.cell? ⟨B, 1, none⟩ = some (.string ⟨#[]⟩) := cell_at HB2.out 1
 have z0 : w2.frozen? ⟨B, 0, none⟩ = false := free_at HB2.out 0
 have z1 : w2.frozen? ⟨B, 1, none⟩ = false := free_at HB2.out 1
 have HAN := Lib.hid (po_at HB2.out (.int .i64 p.depth) (.string p.id) rfl _ rfl)
 simp only [World.setCells] at HAN
 unfold Po.val
 go_wp2_with fail
 clear r0 r1 z0 z1
 generalize World.setCell _ _ _ = w9 at HAN ⊢
 have HK9 := Lib.hid (HT.out.put (t' := Th.box B (.cells #[.int .i64 p.depth, .string p.id] 83 (0, 0))) HAN.out.2 (fun k hk => by
  injection hk with hk
  subst hk
  exact ⟨rfl, hlow, fun u hu e => HTS.out u hu _ e rfl⟩) HAN.out.1 (fun k hk => .inl hk))
 have s0 : w9.cell? ⟨B, 0, none⟩ = some (.int .i64 p.depth) := cell_at HAN.out.1 0
 have s1 : w9.cell? ⟨B, 1, none⟩ = some (.string p.id) := cell_at HAN.out.1 1
 refine bodyPost_ret (v := .tuple #[.agg #[.int .i64 p.depth, .string p.id], .bool hb]) ?_ rfl ?_
 ·simp [results, Tryz.results29, go_sem, s0, s1]
 ·exact ⟨p, by rw [HHB.out]; rfl, by rw [HHB.out]; exact HP.out, HK9.out.less (fun t ht => List.mem_cons_of_mem _ ht)⟩
end
end Go.Proofs.YtnnapkakbdpkaaaGreat

namespace Go.Proofs.YtnnapkakbdpkaaaGreat
set_option maxRecDepth 20000
open Go.RowKit Go.Maps Go.ChangeMaps
theorem TwoB.set {w wr : World} {B1 B2 : Nat} {cs : Array Value} {t : TypeId} {o2 : Obj} (h : TwoB w wr B1 (.cells cs t (0, 0)) B2 o2) (i : Nat) (u : Value) : TwoB w (wr.setCell ⟨B1, i, none⟩ u) B1 (.cells (cs.setIfInBounds i u) t (0, 0)) B2 o2 :=
 have hg := h.gr.setCell h.lo1 i u
 ⟨⟨heap_set h.bo.box i u, hg.below⟩, (Below.heap_setCell wr _ u B2 h.ne.symm).trans h.res, h.ne, h.lo1, h.lo2, hg⟩
end Go.Proofs.YtnnapkakbdpkaaaGreat

namespace Go.Proofs.YtnnapkakbdpkaaaGreat
set_option maxRecDepth 20000
open Go.RowKit
structure Ms where
 l : List Mk
 p : Pk
def keyE (e : Edu) : Rk := ⟨e.room, e.user, e.thread, e.priv⟩
def posV (V : Vw) (room id : ByteArray) : Po := bif hasE (ofL V room) id then posL (ofL V room) id else ⟨0, ⟨#[]⟩⟩
def fitV (V : Vw) (e : Edu) : Int := fitsL (ofL V e.room) e.event e.thread
def mayR (e : Edu) : Bool := decide (e.kind = 1) && localB e
def markE (V : Vw) (e : Edu) : Mk := ⟨keyE e, posV V e.room e.event⟩
def Ms.put (s : Ms) (V : Vw) (e : Edu) : Ms :=
 bif mayR e then (if fitV V e = 4 then ⟨s.l, s.p.put e⟩ else if fitV V e = 0 then ⟨putM s.l (markE V e), s.p⟩ else s) else s
def Ms.on (s : Ms) (V : Vw) (e : Edu) : Bool := mayR e && (decide (fitV V e = 0) && onM s.l (markE V e))
def Ms.err (V : Vw) (e : Edu) : Int := bif mayR e then (if fitV V e = 4 then 0 else fitV V e) else 1
theorem Ms.put_no {s : Ms} {V : Vw} {e : Edu} (h : mayR e = false) : s.put V e = s ∧ s.on V e = false ∧ Ms.err V e = 1 := by
 unfold Ms.put Ms.on Ms.err
 rw [h]
 exact ⟨rfl, rfl, rfl⟩
theorem Ms.put_wait {s : Ms} {V : Vw} {e : Edu} (h : mayR e = true) (hf : fitV V e = 4) : s.put V e = ⟨s.l, s.p.put e⟩ ∧ s.on V e = false ∧ Ms.err V e = 0 := by
 unfold Ms.put Ms.on Ms.err
 rw [h, hf]
 exact ⟨rfl, rfl, rfl⟩
theorem Ms.put_odd {s : Ms} {V : Vw} {e : Edu} (h : mayR e = true) (hf : fitV V e ≠ 4) (hf0 : fitV V e ≠ 0) : s.put V e = s ∧ s.on V e = false ∧ Ms.err V e = fitV V e := by
 unfold Ms.put Ms.on Ms.err
 rw [h, decide_eq_false hf0, if_neg hf, if_neg hf0, if_neg hf]
 exact ⟨rfl, rfl, rfl⟩
theorem Ms.put_in {s : Ms} {V : Vw} {e : Edu} (h : mayR e = true) (hf0 : fitV V e = 0) : s.put V e = ⟨putM s.l (markE V e), s.p⟩ ∧ s.on V e = onM s.l (markE V e) ∧ Ms.err V e = 0 := by
 unfold Ms.put Ms.on Ms.err
 rw [h, hf0]
 exact ⟨rfl, by simp, rfl⟩
theorem key_info : (Tryz.prog.info? 97).map (·.size) = some 4 := by kernel_rfl
theorem rkey_info : (Tryz.prog.info? 87).map (·.size) = some 4 := by kernel_rfl
theorem one4 (a b c : ByteArray) (d : Bool) : (#[.string a, .string b, .string c, .bool d] : Array Value).all (·.oneCell') = true := by simp [Value.oneCell']
theorem cells4k {w : World} {g : Nat} {t : TypeId} {x0 x1 x2 x3 : Value} (h : w.heap[g]? = some (.cells #[x0, x1, x2, x3] t (0, 0))) : w.cell? ⟨g, 0, none⟩ = some x0 ∧ w.cell? ⟨g, 1, none⟩ = some x1 ∧ w.cell? ⟨g, 2, none⟩ = some x2 ∧ w.cell? ⟨g, 3, none⟩ = some x3 := ⟨cell_at h 0, cell_at h 1, cell_at h 2, cell_at h 3⟩
set_option maxHeartbeats 800000 in
theorem refOf13_any (e : Edu) (w : World) : Calls Tryz.prog 34 #[e.val] w fun x w' => x = .returned (keyE e).val ∧ Below w.heap.size w w' := by
 obtain ⟨k, r, u, z, t, pr, o, s, y, c, m⟩ := e
 simp only [Edu.val, keyE, Rk.val]
 obtain ⟨h1, h2, HB, hsz⟩ := at_two (.cells #[.int .i64 k, .string r, .string u, .string z, .string t, .bool pr, .bool o, .int .i64 s, .int .i64 y, .int .i64 c, .int .i64 m] 43) (.cells #[.string ⟨#[]⟩, .string ⟨#[]⟩, .string ⟨#[]⟩, .bool false] 97) (rfl : (w.alloc (.cells #[.int .i64 k, .string r, .string u, .string z, .string t, .bool pr, .bool o, .int .i64 s, .int .i64 y, .int .i64 c, .int .i64 m] 43)).alloc (.cells #[.string ⟨#[]⟩, .string ⟨#[]⟩, .string ⟨#[]⟩, .bool false] 97) = _)
 have h2 := Lib.hid h2
 have HB := Lib.hid HB
 go_enter Tryz.func34, Tryz.ntmps34
 go_upto_region 1 with (fail)
 generalize World.alloc _ _ = w1 at h1 h2 HB ⊢
 obtain ⟨g2, hg2⟩ : ∃ g, w.heap.size + 1 = g := ⟨_, rfl⟩
 have hlo : w.heap.size ≤ g2 := by omega
 rw [hg2] at h2 ⊢
 obtain ⟨d0, d1, d2, d3, d4, d5, d6, d7, d8, d9, d10⟩ := cells11 h1
 have Hset := Lib.hid (setRow_heap _ _ _ #[.string r, .string u, .string t, .bool pr] _ _ h2.out)
 have HBB := Lib.hid (below_setRow HB.out hlo #[.string r, .string u, .string t, .bool pr])
 clear hg2 hsz
 go_wp2_with (refine wpList_store_row rfl 97 (.tmp 2) (.tmp 11) rfl g2 #[.string r, .string u, .string t, .bool pr] rfl rfl 97 _ h2.out key_info rfl (one4 _ _ _ _) ?_)
 generalize hW2 : World.setRow _ _ _ = W3 at Hset HBB ⊢
 clear hW2 d0 d1 d2 d3 d4 d5 d6 d7 d8 d9 d10
 obtain ⟨e0, e1, e2, e3⟩ := cells4k Hset.out
 go_wp2_with fail
 refine bodyPost_ret (v := .agg #[.string r, .string u, .string t, .bool pr]) ?_ rfl ⟨rfl, HBB.out⟩
 simp [results, Tryz.results34, go_sem, e0, e1, e2, e3]
end Go.Proofs.YtnnapkakbdpkaaaGreat

namespace Go.Proofs.YtnnapkakbdpkaaaGreat
set_option maxRecDepth 20000
open Go.RowKit
theorem cloneS_any (s : ByteArray) (w : World) (hs : s.size ≤ 281474976710656) : Calls Tryz.prog 81 #[.string s] w fun e w' => e = .returned (.string s) ∧ Below w.heap.size w w' := by
 go_enter Tryz.func81, Tryz.ntmps81
 go_wp2_with fail
 refine (Tryz.stringslite_Clone s _ hs).mono ?_
 rintro e w1 ⟨rfl, hb⟩
 replace hb := Lib.hid hb
 go_wp2_with fail
 go_ret
 exact ⟨rfl, hb.out⟩
theorem ekey_info : (Tryz.prog.info? 166).map (·.size) = some 5 := by kernel_rfl
theorem one5 (k : Int) (r u t : ByteArray) (p : Bool) : (#[.int .i64 k, .string r, .string u, .string t, .bool p] : Array Value).all (·.oneCell') = true := by simp [Value.oneCell']
theorem cells5 {w : World} {g : Nat} {t : TypeId} {x0 x1 x2 x3 x4 : Value} (h : w.heap[g]? = some (.cells #[x0, x1, x2, x3, x4] t (0, 0))) :
  w.cell? ⟨g, 0, none⟩ = some x0 ∧ w.cell? ⟨g, 1, none⟩ = some x1 ∧ w.cell? ⟨g, 2, none⟩ = some x2 ∧ w.cell? ⟨g, 3, none⟩ = some x3 ∧ w.cell? ⟨g, 4, none⟩ = some x4 :=
 ⟨cell_at h 0, cell_at h 1, cell_at h 2, cell_at h 3, cell_at h 4⟩
def TwoK (w : World) (box : Array Value) (w' : World) : Prop := Below w.heap.size w w' ∧ w'.heap[w.heap.size]? = some (.cells box 43 (0, 0)) ∧ (∃ X : Array Value, X.size = 5 ∧ w'.heap[w.heap.size + 1]? = some (.cells X 166 (0, 0)))
theorem TwoK.later {w w' w'' : World} {box : Array Value} (h : TwoK w box w') (hb : Below w'.heap.size w' w'') : TwoK w box w'' := by
 obtain ⟨h1, h2, ⟨X, hX, h3⟩⟩ := h
 exact ⟨Go.Proofs.YtnnapkakbdpkaaaGreat.later h1 hb, (hb.block _ (heap_lt h2)).trans h2, ⟨X, hX, (hb.block _ (heap_lt h3)).trans h3⟩⟩
theorem TwoK.drew {w w' : World} {box : Array Value} (h : TwoK w box w') : TwoK w box w'.drew := ⟨h.1.drew, h.2⟩
theorem TwoK.set {w w' : World} {box new : Array Value} (h : TwoK w box w') (hn : new.size = 5) : TwoK w box (w'.setRow (w.heap.size + 1) new) := by
 obtain ⟨h1, h2, ⟨X, hX, h3⟩⟩ := h
 exact ⟨below_setRow h1 (by omega) _, by rw [setRow_other _ _ _ _ (by omega)]; exact h2, ⟨new, hn, setRow_heap _ _ _ _ _ _ h3⟩⟩
set_option maxHeartbeats 3200000 in
theorem of_any (k : Int) (r u v t : ByteArray) (p o : Bool) (s z c m : Int) (w : World) (hr : r.size ≤ 281474976710656) (hu : u.size ≤ 281474976710656) (ht : t.size ≤ 281474976710656) :
  Calls Tryz.prog 85 #[.agg #[.int .i64 k, .string r, .string u, .string v, .string t, .bool p, .bool o, .int .i64 s, .int .i64 z, .int .i64 c, .int .i64 m]] w fun e w' => e = .returned (.agg #[.int .i64 k, .string r, .string u, .string t, .bool p]) ∧ Below w.heap.size w w' := by
 go_enter Tryz.func85, Tryz.ntmps85
 go_wp2_with fail
 generalize hW : ((w.alloc (.cells #[.int .i64 k, .string r, .string u, .string v, .string t, .bool p, .bool o, .int .i64 s, .int .i64 z, .int .i64 c, .int .i64 m] 43)).alloc (.cells #[.int .i64 0, .string ⟨#[]⟩, .string ⟨#[]⟩, .string ⟨#[]⟩, .bool false] 166)) = W
 have hT : TwoK w #[.int .i64 k, .string r, .string u, .string v, .string t, .bool p, .bool o, .int .i64 s, .int .i64 z, .int .i64 c, .int .i64 m] W.drew := by
  obtain ⟨e0, e1, h1, _⟩ := at_two _ _ hW
  exact ⟨h1.drew, e0, ⟨_, rfl, e1⟩⟩
 clear hW
 refine wp_region_held_drew (S := fun w' => TwoK w #[.int .i64 k, .string r, .string u, .string v, .string t, .bool p, .bool o, .int .i64 s, .int .i64 z, .int .i64 c, .int .i64 m] w') (by kernel_rfl) hT (fun hHeld => ?_)
 clear hT
 refine wpAnyH_take (i := 0) (oi := ⟨some 3, _, _, _, _, _⟩) (v := ?v0) rfl (by kernel_rfl) (by kernel_rfl) (by kernel_rfl) (fun _ _ _ h => h) (Or.inl ⟨by rfl, ?y0⟩) hHeld ?r0
 case y0 =>
  intro wx hSx
  go_simp
  try with_reducible rfl
 try simp only [actS]
 refine wpAnyH_take (i := 1) (oi := ⟨some 4, _, _, _, _, _⟩) (v := ?v1) rfl (by kernel_rfl) (by kernel_rfl) (by kernel_rfl) (fun _ _ _ h => h) (Or.inl ⟨by rfl, ?y1⟩) hHeld ?r1
 case y1 =>
  intro wx hSx
  obtain ⟨d0, d1, d2, d3, d4, d5, d6, d7, d8, d9, d10⟩ := cells11 hSx.2.1
  go_simp
  try with_reducible rfl
 try simp only [actS]
 refine wpAnyH_take (i := 2) (oi := ⟨some 5, _, _, _, _, _⟩) (v := ?v2) rfl (by kernel_rfl) (by kernel_rfl) (by kernel_rfl) (fun _ _ _ h => h) (Or.inl ⟨by rfl, ?y2⟩) hHeld ?r2
 case y2 =>
  intro wx hSx
  go_simp
  try with_reducible rfl
 try simp only [actS]
 refine wpAnyH_take (i := 3) (oi := ⟨some 6, _, _, _, _, _⟩) (v := ?v3) rfl (by kernel_rfl) (by kernel_rfl) (by kernel_rfl) (fun _ _ _ h => h) (Or.inl ⟨by rfl, ?y3⟩) hHeld ?r3
 case y3 =>
  intro wx hSx
  obtain ⟨d0, d1, d2, d3, d4, d5, d6, d7, d8, d9, d10⟩ := cells11 hSx.2.1
  go_simp
  try with_reducible rfl
 try simp only [actS]
 refine wpAnyH_take (i := 5) (oi := ⟨some 8, _, _, _, _, _⟩) (v := ?v5) rfl (by kernel_rfl) (by kernel_rfl) (by kernel_rfl) (fun _ _ _ h => h) (Or.inl ⟨by rfl, ?y5⟩) hHeld ?r5
 case y5 =>
  intro wx hSx
  go_simp
  try with_reducible rfl
 try simp only [actS]
 refine wpAnyH_take (i := 6) (oi := ⟨some 9, _, _, _, _, _⟩) (v := ?v6) rfl (by kernel_rfl) (by kernel_rfl) (by kernel_rfl) (fun _ _ _ h => h) (Or.inl ⟨by rfl, ?y6⟩) hHeld ?r6
 case y6 =>
  intro wx hSx
  obtain ⟨d0, d1, d2, d3, d4, d5, d6, d7, d8, d9, d10⟩ := cells11 hSx.2.1
  go_simp
  try with_reducible rfl
 try simp only [actS]
 refine wpAnyH_take (i := 8) (oi := ⟨some 11, _, _, _, _, _⟩) (v := ?v8) rfl (by kernel_rfl) (by kernel_rfl) (by kernel_rfl) (fun _ _ _ h => h) (Or.inl ⟨by rfl, ?y8⟩) hHeld ?r8
 case y8 =>
  intro wx hSx
  go_simp
  try with_reducible rfl
 try simp only [actS]
 refine wpAnyH_take (i := 9) (oi := ⟨some 12, _, _, _, _, _⟩) (v := ?v9) rfl (by kernel_rfl) (by kernel_rfl) (by kernel_rfl) (fun _ _ _ h => h) (Or.inl ⟨by rfl, ?y9⟩) hHeld ?r9
 case y9 =>
  intro wx hSx
  obtain ⟨d0, d1, d2, d3, d4, d5, d6, d7, d8, d9, d10⟩ := cells11 hSx.2.1
  go_simp
  try with_reducible rfl
 try simp only [actS]
 refine wpAnyH_take (i := 11) (oi := ⟨some 14, _, _, _, _, _⟩) (v := ?v11) rfl (by kernel_rfl) (by kernel_rfl) (by kernel_rfl) (fun _ _ _ h => h) (Or.inl ⟨by rfl, ?y11⟩) hHeld ?r11
 case y11 =>
  intro wx hSx
  go_simp
  try with_reducible rfl
 try simp only [actS]
 refine wpAnyH_take (i := 12) (oi := ⟨some 15, _, _, _, _, _⟩) (v := ?v12) rfl (by kernel_rfl) (by kernel_rfl) (by kernel_rfl) (fun _ _ _ h => h) (Or.inl ⟨by rfl, ?y12⟩) hHeld ?r12
 case y12 =>
  intro wx hSx
  obtain ⟨d0, d1, d2, d3, d4, d5, d6, d7, d8, d9, d10⟩ := cells11 hSx.2.1
  go_simp
  try with_reducible rfl
 try simp only [actS]
 refine wpAnyH_ready (rs := [4]) (by kernel_rfl) (by simp) ?_
 refine AllReadyH.cons (o := ⟨some 7, _, _, _, _, _⟩) rfl (fun K hK => ?_) AllReadyH.nil
 go_simp
 refine (cloneS_any r _ hr).mono ?_
 rintro e wn4 ⟨rfl, hbn⟩
 refine hK.out _ _ (hHeld.later hbn) (fun hH => ?_)
 replace hHeld := hH
 clear hK K hbn hH
 try simp only [actS]
 refine wpAnyH_ready (rs := [7]) (by kernel_rfl) (by simp) ?_
 refine AllReadyH.cons (o := ⟨some 10, _, _, _, _, _⟩) rfl (fun K hK => ?_) AllReadyH.nil
 go_simp
 refine (cloneS_any u _ hu).mono ?_
 rintro e wn7 ⟨rfl, hbn⟩
 refine hK.out _ _ (hHeld.later hbn) (fun hH => ?_)
 replace hHeld := hH
 clear hK K hbn hH
 try simp only [actS]
 refine wpAnyH_ready (rs := [10]) (by kernel_rfl) (by simp) ?_
 refine AllReadyH.cons (o := ⟨some 13, _, _, _, _, _⟩) rfl (fun K hK => ?_) AllReadyH.nil
 go_simp
 refine (cloneS_any t _ ht).mono ?_
 rintro e wn10 ⟨rfl, hbn⟩
 refine hK.out _ _ (hHeld.later hbn) (fun hH => ?_)
 replace hHeld := hH
 clear hK K hbn hH
 try simp only [actS]
 refine wpAnyH_take (i := 13) (oi := ⟨some 16, _, _, _, _, _⟩) (v := ?v13) rfl (by kernel_rfl) (by kernel_rfl) (by kernel_rfl) (fun _ _ _ h => h) (Or.inl ⟨by rfl, ?y13⟩) hHeld ?r13
 case y13 =>
  intro wx hSx
  go_simp
  try with_reducible rfl
 try simp only [actS]
 obtain ⟨X, hX, hx3⟩ := hHeld.2.2
 refine wpAnyH_ready (rs := [14]) (by kernel_rfl) (by simp) ?_
 refine AllReadyH.cons (o := ⟨none, _, _, _, _, _⟩) rfl (fun K hK => ?_) AllReadyH.nil
 rw [if_pos (by rfl)]
 refine wp_store_row 166 (.tmp 2) (.tmp 16) rfl (w.heap.size + 1) #[.int .i64 k, .string r, .string u, .string t, .bool p] rfl rfl 166 X hx3 ekey_info (hX.trans rfl) (one5 _ _ _ _ _) ?_
 have hset := setRow_heap _ _ _ #[.int .i64 k, .string r, .string u, .string t, .bool p] _ _ hx3
 have hH := hHeld.set (new := #[.int .i64 k, .string r, .string u, .string t, .bool p]) rfl
 refine hK.out _ _ hH (fun hHeld => ?_)
 clear hK K hH hx3 hX X
 try simp only [actS]
 generalize hW2 : World.setRow _ _ _ = W2 at hset hHeld ⊢
 clear hW2
 refine wpAnyH_done (by kernel_rfl) ?_ _
 have HB := Lib.hid hHeld.1
 obtain ⟨d0, d1, d2, d3, d4⟩ := cells5 hset
 clear hHeld hset
 go_wp2_with fail
 refine bodyPost_ret (v := .agg #[.int .i64 k, .string r, .string u, .string t, .bool p]) ?_ rfl ⟨rfl, HB.out⟩
 simp [results, Tryz.results85, go_sem, d0, d1, d2, d3, d4]
end Go.Proofs.YtnnapkakbdpkaaaGreat
