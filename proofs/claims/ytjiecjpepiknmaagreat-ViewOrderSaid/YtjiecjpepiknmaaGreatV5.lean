/-
  Views in whatever row; the document's Same.
-/
import Derived.Test.YtjiecjpepiknmaaGreatV3
import Derived.Test.YtjiecjpepiknmaaGreatV2
namespace Go.Proofs.YtjiecjpepiknmaaGreat
set_option maxRecDepth 20000
open Go.RowKit
set_option linter.unusedVariables false
set_option linter.unusedSimpArgs false
structure PartL (room : ByteArray) (L l : List Ev) : Prop where
  val : Valid room l
  sub : ∀ e ∈ l, e ∈ L
section
variable {room : ByteArray} {L l : List Ev} {e : Ev}
theorem addA_sub (room : ByteArray) (l : List Ev) (e x : Ev) (h : x ∈ l) : x ∈ addA room l e := by
  unfold addA
  split
  · exact List.mem_append.2 (.inl h)
  · exact h
theorem PartL.nil (room : ByteArray) (L : List Ev) : PartL room L [] := ⟨valid_nil room, fun e h => by simp at h⟩
theorem PartL.add (h : PartL room L l) (he : e ∈ L) : PartL room L (addA room l e) := by
  refine ⟨valid_add h.val, fun x hx => ?_⟩
  unfold addA at hx
  split at hx
  · rcases List.mem_append.1 hx with hx | hx
    · exact h.sub x hx
    · rw [List.mem_singleton.1 hx]; exact he
  · exact h.sub x hx
theorem err_part (hm : mayE e = true) (hr : e.room = room) : errA room l e = if hasE l e.id then 9 else if e.parents.all (hasE l) = false then 4 else if e.thread = ⟨#[]⟩ then 0 else match idx l e.thread with
    | none => 4
    | some k => match l[k]? with
      | none => 4
      | some t => if t.thread = ⟨#[]⟩ ∧ t.does = 0 then 0 else 7 := by
  unfold errA
  rw [if_neg (by simp [hm, hr])]
  rfl
theorem PartL.err (hL : Valid room L) (h : PartL room L l) (he : e ∈ L) : errA room l e = 0 ∨ errA room l e = 4 ∨ errA room l e = 9 := by
  obtain ⟨i, hi⟩ := List.getElem?_of_mem he
  obtain ⟨hm, hr, hh, hp, ht⟩ := err_zero (hL i e hi)
  rw [err_part hm hr]
  split
  · exact .inr (.inr rfl)
  split
  · exact .inr (.inl rfl)
  split
  · exact .inl rfl
  next ht0 =>
  rcases ht with ht | ⟨t, htm, hti, ht1, ht2⟩
  · exact absurd ht ht0
  cases hx : idx l e.thread with
  | none => exact .inr (.inl rfl)
  | some k =>
    obtain ⟨x, hxk, hxi, -⟩ := idx_some hx
    have hxt : x = t := valid_ids hL (h.sub x (List.mem_of_getElem? hxk)) (List.mem_of_mem_take htm) (hxi.trans hti.symm)
    simp only [hxk]
    rw [hxt, if_pos ⟨ht1, ht2⟩]
    exact .inl rfl
theorem PartL.turn (hL : Valid room L) (h : PartL room L l) {r : Nat} (he : L[r]? = some e) (hp : ∀ x ∈ L.take r, x ∈ l) : e ∈ addA room l e := by
  have hem : e ∈ L := List.mem_of_getElem? he
  obtain ⟨hm, hr, hh, hpar, ht⟩ := err_zero (hL r e he)
  by_cases hhas : hasE l e.id = true
  · obtain ⟨x, hx, hxi⟩ := has_iff.1 hhas
    have hxe : x = e := valid_ids hL (h.sub x hx) hem hxi
    exact addA_sub room l e e (hxe ▸ hx)
  have h0 : errA room l e = 0 := by
    rw [err_part hm hr, if_neg (by simpa using hhas), if_neg (by
      have ha : e.parents.all (hasE l) = true := List.all_eq_true.2 (fun p hpp => by
        obtain ⟨x, hx, hxi⟩ := has_iff.1 (hpar p hpp)
        exact has_iff.2 ⟨x, hp x hx, hxi⟩)
      simp [ha])]
    split
    · rfl
    next ht0 =>
    rcases ht with ht | ⟨t, htm, hti, ht1, ht2⟩
    · exact absurd ht ht0
    obtain ⟨j, hj⟩ := List.getElem?_of_mem (hp t htm)
    have hx := valid_idx h.val hj
    rw [hti] at hx
    simp only [hx, hj]
    rw [if_pos ⟨ht1, ht2⟩]
  unfold addA
  rw [if_pos h0]
  exact List.mem_append.2 (.inr (List.mem_singleton.2 rfl))
end

theorem ofL_same {V : Vw} {e : Ev} (he : ¬ errV V e = 0) : addV V e = V := by unfold addV; exact if_neg he
theorem inRoom_valid {L : List Ev} (h : AllOk L) (r : ByteArray) : Valid r (inRoom L r) := by
  rw [← foldV_ofL L h r]
  exact ((foldV_ok L).of_ r).1
theorem mem_inRoom {L : List Ev} {r : ByteArray} {e : Ev} : e ∈ inRoom L r ↔ e ∈ L ∧ e.room = r := by
  rw [inRoom, List.mem_filter, decide_eq_true_eq]
theorem valid_apart {r : ByteArray} {l : List Ev} (h : Valid r l) : l.Nodup := (List.pairwise_map.1 (valid_nodup h)).imp (fun h e => h (by rw [e]))
/-- A view of some of a list's events. -/
structure OrdV (L : List Ev) (V : Vw) : Prop where
  up : Up (V.map Prod.fst)
  each : ∀ p ∈ V, Valid p.1 p.2 ∧ p.2 ≠ [] ∧ p.1.size ≤ 40
  sub : ∀ p ∈ V, ∀ e ∈ p.2, e ∈ L
section
variable {L : List Ev} {V W : Vw} {e : Ev} {k : Nat}
theorem OrdV.nil : OrdV L [] := ⟨List.Pairwise.nil, fun p h => (by cases h), fun p h => (by cases h)⟩
theorem OrdV.of_ (h : OrdV L V) (r : ByteArray) : Valid r (ofL V r) ∧ ∀ x ∈ ofL V r, x ∈ L := by
  by_cases hr : r ∈ V.map Prod.fst
  · obtain ⟨p, hp, rfl⟩ := List.mem_map.1 hr
    rw [ofL_in h.up hp]
    exact ⟨(h.each p hp).1, h.sub p hp⟩
  · rw [ofL_out hr]
    exact ⟨valid_nil r, fun x hx => (by cases hx)⟩
theorem OrdV.part (h : OrdV L V) (r : ByteArray) : PartL r (inRoom L r) (ofL V r) := ⟨(h.of_ r).1, fun x hx => mem_inRoom.2 ⟨(h.of_ r).2 x hx, valid_room (h.of_ r).1 x hx⟩⟩
theorem OrdV.add (h : OrdV L V) (he : e ∈ L) : OrdV L (addV V e) := by
  by_cases h0 : errV V e = 0
  · have hv := h.of_ e.room
    have hadd : addA e.room (ofL V e.room) e = ofL V e.room ++ [e] := by
      unfold addA
      exact if_pos h0
    unfold addV
    rw [if_pos h0]
    refine ⟨putK_up h.up, fun p hp => ?_, fun p hp x hx => ?_⟩
    · rcases (putK_mem h.up).1 hp with rfl | ⟨hp, -⟩
      · refine ⟨valid_add hv.1, ?_, (may_short (err_zero h0).1).2.1⟩
        simp only
        rw [hadd]
        simp
      · exact h.each p hp
    · rcases (putK_mem h.up).1 hp with rfl | ⟨hp, -⟩
      · simp only at hx
        rw [hadd] at hx
        rcases List.mem_append.1 hx with hx | hx
        · exact hv.2 x hx
        · rw [List.mem_singleton.1 hx]
          exact he
      · exact h.sub p hp x hx
  · rw [ofL_same h0]
    exact h
theorem OrdV.ok (h : OrdV L V) : VOk L.length V := by
  refine ⟨h.up, fun p hp => ⟨(h.each p hp).1, nodup_len (valid_apart (h.each p hp).1) (h.sub p hp), (h.each p hp).2.2⟩, ?_⟩
  have h1 := nodup_len (b := L.map Ev.room) (up_nodup h.up) (fun r hr => by
    obtain ⟨p, hp, rfl⟩ := List.mem_map.1 hr
    obtain ⟨h2, h3, -⟩ := h.each p hp
    obtain ⟨x, hx⟩ := List.exists_mem_of_ne_nil _ h3
    exact List.mem_map.2 ⟨x, h.sub p hp x hx, valid_room h2 x hx⟩)
  rw [List.length_map, List.length_map] at h1
  exact h1
theorem OrdV.err (hL : AllOk L) (h : OrdV L V) (he : e ∈ L) : errV V e = 0 ∨ errV V e = 4 ∨ errV V e = 9 := (h.part e.room).err (inRoom_valid hL _) (mem_inRoom.2 ⟨he, rfl⟩)
theorem OrdV.stays (h : OrdV L V) {r : ByteArray} {x : Ev} (hx : x ∈ ofL V r) : x ∈ ofL (addV V e) r := by
  by_cases h0 : errV V e = 0
  · rw [ofL_addV h.up h0]
    split
    · exact List.mem_append_left _ hx
    · exact hx
  · rw [ofL_same h0]
    exact hx
/-- The first k of each room are in. -/
def InV (L : List Ev) (V : Vw) (k : Nat) : Prop := ∀ r, ∀ x ∈ (inRoom L r).take k, x ∈ ofL V r
/-- Within a round: those that came are in, where they are the next of their room. -/
def CameV (L : List Ev) (V : Vw) (k a : Nat) : Prop := ∀ (j : Nat) x, a ≤ j → L[j]? = some x → (inRoom L x.room)[k]? = some x → x ∈ ofL V x.room
theorem InV.start : InV L V 0 := fun r x hx => (by cases hx)
theorem CameV.start : CameV L V k L.length := fun j x hj hx => by
  have := (List.getElem?_eq_some_iff.1 hx).1
  omega
theorem InV.stays (h : OrdV L V) (hi : InV L V k) : InV L (addV V e) k := fun r x hx => h.stays (hi r x hx)
theorem CameV.step (hL : AllOk L) (h : OrdV L V) (hi : InV L V k) {a : Nat} (hc : CameV L V k (a + 1)) (he : L[a]? = some e) : CameV L (addV V e) k a := by
  intro j x hj hx hk
  by_cases hja : a + 1 ≤ j
  · exact h.stays (hc j x hja hx hk)
  · have hja : j = a := by omega
    subst hja
    rw [he] at hx
    injection hx with hx
    subst hx
    have h1 := (h.part e.room).turn (inRoom_valid hL _) hk (hi e.room)
    by_cases h0 : errV V e = 0
    · rw [ofL_addV h.up h0, if_pos rfl]
      exact List.mem_append_right _ List.mem_cons_self
    · rw [ofL_same h0]
      have h2 : addA e.room (ofL V e.room) e = ofL V e.room := by
        unfold addA
        exact if_neg h0
      rw [h2] at h1
      exact h1
theorem InV.next (hi : InV L V k) (hc : CameV L V k 0) : InV L V (k + 1) := by
  intro r x hx
  rw [List.take_add_one, List.mem_append] at hx
  rcases hx with hx | hx
  · exact hi r x hx
  · cases hk : (inRoom L r)[k]? with
    | none => rw [hk] at hx; cases hx
    | some y =>
      rw [hk] at hx
      have hxy := List.mem_singleton.1 hx
      subst hxy
      obtain ⟨hm, hr⟩ := mem_inRoom.1 (List.mem_of_getElem? hk)
      obtain ⟨j, hj⟩ := List.getElem?_of_mem hm
      subst hr
      exact hc j x (Nat.zero_le _) hj hk
theorem sameV_of (hV : OrdV L V) (hW : OrdV L W) (h : ∀ r x, x ∈ ofL V r ↔ x ∈ ofL W r) : sameV V W = true := by
  have hk : V.map Prod.fst = W.map Prod.fst := by
    have one : ∀ {V W : Vw}, OrdV L V → OrdV L W → (∀ r x, x ∈ ofL V r ↔ x ∈ ofL W r) → ∀ r ∈ V.map Prod.fst, r ∈ W.map Prod.fst := by
      intro V W hV hW h r hr
      obtain ⟨p, hp, rfl⟩ := List.mem_map.1 hr
      obtain ⟨x, hx⟩ := List.exists_mem_of_ne_nil _ (hV.each p hp).2.1
      rw [← ofL_in hV.up hp] at hx
      by_cases hm : p.1 ∈ W.map Prod.fst
      · exact hm
      · have h1 := (h p.1 x).1 hx
        rw [ofL_out hm] at h1
        cases h1
    exact up_unique hV.up hW.up (fun r => ⟨one hV hW h r, one hW hV (fun r x => (h r x).symm) r⟩)
  refine (sameV_iff hV.up hW.up).2 ⟨?_, fun p hp => ?_⟩
  · have := congrArg List.length hk
    rw [List.length_map, List.length_map] at this
    exact this
  · have hm : p.1 ∈ W.map Prod.fst := by
      rw [← hk]
      exact List.mem_map.2 ⟨p, hp, rfl⟩
    obtain ⟨q, hq, hqp⟩ := List.mem_map.1 hm
    refine ⟨q, hq, hqp, allL_same (hV.each p hp).1 (hW.each q hq).1 (fun x => ?_)⟩
    have := h p.1 x
    rw [ofL_in hV.up hp, ← hqp, ofL_in hW.up hq] at this
    exact this
theorem all_in (hL : AllOk L) (hn : ∀ r, (inRoom L r).length ≤ k) (h : OrdV L V) (hi : InV L V k) (r : ByteArray) (x : Ev) : x ∈ ofL V r ↔ x ∈ inRoom L r :=
  ⟨(h.part r).sub x, fun hx => hi r x (by rw [List.take_of_length_le (hn r)]; exact hx)⟩
end
theorem fold_ord {L : List Ev} : ∀ es : List Ev, (∀ e ∈ es, e ∈ L) → OrdV L (foldV es) := by
  intro es
  induction es using snoc_ind with
  | h0 => intro _; exact OrdV.nil
  | hs l e ih =>
    intro h
    rw [foldV_snoc]
    exact (ih (fun x hx => h x (List.mem_append_left _ hx))).add (h e (List.mem_append_right _ List.mem_cons_self))
theorem order_same {L : List Ev} {V : Vw} {k : Nat} (hL : AllOk L) (hn : ∀ r, (inRoom L r).length ≤ k) (h : OrdV L V) (hi : InV L V k) : sameV (foldV L) V = true ∧ sameV V (foldV L) = true := by
  have h1 : ∀ r x, x ∈ ofL (foldV L) r ↔ x ∈ ofL V r := fun r x => by rw [foldV_ofL L hL, all_in hL hn h hi]
  have h2 := fold_ord (L := L) L (fun e he => he)
  exact ⟨sameV_of h2 h h1, sameV_of h h2 (fun r x => (h1 r x).symm)⟩
theorem made_few (gs hs : List GV) (r : ByteArray) : (inRoom (madeL gs hs) r).length ≤ 9 := by
  have ha := made_rows 0 gs
  have hb := made_rows 1 hs
  unfold madeL
  rw [inRoom, List.filter_append, List.length_append]
  have h1 := fun e he => valid_room ha.1.valid e he
  have h2 := fun e he => valid_room hb.1.valid e he
  by_cases hr : r = roomS 0
  · have := inRoom_none (r := r) (fun e he => by rw [h2 e he, hr]; exact fun e => rooms_two e.symm)
    unfold inRoom at this
    rw [this]
    have := List.length_filter_le (fun e : Ev => decide (e.room = r)) (madeTo (roomS 0) (gps gs) (min gs.length 9))
    have := ha.2
    simp only [List.length_nil]
    omega
  · have := inRoom_none (r := r) (fun e he => by rw [h1 e he]; exact fun e => hr e.symm)
    unfold inRoom at this
    rw [this]
    have := List.length_filter_le (fun e : Ev => decide (e.room = r)) (madeTo (roomS 1) (gps hs) (min hs.length 9))
    have := hb.2
    simp only [List.length_nil]
    omega
end Go.Proofs.YtjiecjpepiknmaaGreat

namespace Go.Proofs.YtjiecjpepiknmaaGreat
set_option maxRecDepth 20000
open Go.RowKit
set_option linter.unusedVariables false
set_option linter.unusedSimpArgs false
section
variable {C : Dags} {w wr : World} {vs : List VI} {ts : List Th}
theorem refAllK (h : Kv C w wr vs ts) {u : Value} {ds : List DV} (hu : Th.vw u ds ∈ ts) {d : DV} (hd : d ∈ ds) (hv : Valid d.room (evs d.xs)) (hl : d.xs.length ≤ 1000) : Calls Tryz.prog 16 #[d.val] wr fun e w' => ∃ A n c ys, e = .returned (.slice A n c) ∧ evs ys = allL (evs d.xs) ∧ n = ys.length ∧ ys.length ≤ 1000 ∧ Kv C w w' vs (Th.evs (.slice A n c) ys :: ts) := by
  have hds := h.is hu
  refine (refAll_any d.room d.lv d.xs wr (hds.2 d hd) hv hl).mono ?_
  rintro e w' ⟨v', ys, rfl, hm, hev, hys, hb⟩
  obtain ⟨A, c, rfl, -⟩ := id hm.shape
  refine ⟨A, _, c, ys, rfl, hev, rfl, ?_, h.add (t := Th.evs _ ys) hb ⟨hm.slice, fun y hy => ((hds.2 d hd).2 y (hys y hy)).below hb⟩ (fun k hk => ?_)⟩
  · have h1 := congrArg List.length hev
    rw [evs_len, allL_len, evs_len] at h1
    omega
  · rcases hk with ⟨h0, hk⟩ | ⟨y, hy, hk⟩
    · exact .inl (hm.lt k hk).1
    · exact .inr ⟨_, hu, .inr ⟨d, hd, .inr ⟨y, hys y hy, hk⟩⟩⟩
theorem refSameAllK (h : Kv C w wr vs ts) {v v' : Value} {xs ys : List EvV} (hx : Th.evs v xs ∈ ts) (hy : Th.evs v' ys ∈ ts) (hl : xs.length ≤ 1000) (hl' : ys.length ≤ 1000) : Calls Tryz.prog 14 #[v, v'] wr fun e w' => e = .returned (.bool (decide (evs xs = evs ys))) ∧ Kv C w w' vs ts :=
  (refSameAll_any v v' xs ys wr (h.is hx) (h.is hy) hl hl').mono (fun e w' he => ⟨he.1, h.later he.2.below⟩)
theorem sameV_miss {V W : Vw} {j : Nat} {p q : ByteArray × List Ev} (hp : V[j]? = some p) (hq : W[j]? = some q) (h : ¬ (p.1 = q.1 ∧ allL p.2 = allL q.2)) : sameV V W = false := by
  refine decide_eq_false (fun e => h ?_)
  have h1 := congrArg (fun l => l[j]?) e
  simp only [List.getElem?_map, hp, hq, Option.map_some] at h1
  injection h1 with h1
  exact Prod.mk.inj h1
theorem sameV_all {V W : Vw} (hl : V.length = W.length) (h : ∀ (j : Nat) p q, V[j]? = some p → W[j]? = some q → p.1 = q.1 ∧ allL p.2 = allL q.2) : sameV V W = true := by
  refine decide_eq_true (List.ext_getElem? (fun j => ?_))
  rw [List.getElem?_map, List.getElem?_map]
  by_cases hj : j < V.length
  · have h1 := h j _ _ (List.getElem?_eq_getElem hj) (List.getElem?_eq_getElem (by omega))
    rw [List.getElem?_eq_getElem hj, List.getElem?_eq_getElem (show j < W.length by omega)]
    simp only [Option.map_some]
    rw [h1.1, h1.2]
  · rw [List.getElem?_eq_none (by omega), List.getElem?_eq_none (by omega)]

set_option maxHeartbeats 1600000 in
theorem refSame10_any (h : Kv C w wr vs ts) {u u' : Value} {ds es : List DV} (hu : Th.vw u ds ∈ ts) (hu' : Th.vw u' es ∈ ts) (hV : VOk 100 (vws ds)) (hW : VOk 100 (vws es)) :
    Calls Tryz.prog 45 #[.agg #[u], .agg #[u']] wr fun e w' => e = .returned (.bool (sameV (vws ds) (vws es))) ∧ Kv C w w' vs ts := by
  obtain ⟨A, cap, rfl, h1, h2, -⟩ := id (h.is hu).1
  obtain ⟨A', cap', rfl, h1', h2', -⟩ := id (h.is hu').1
  have HB := Lib.hid (two_boxes wr #[.slice A ds.length cap] #[.slice A' es.length cap'] 28)
  have HK0 : Hid (Kv C w ((wr.alloc (.cells #[.slice A ds.length cap] 28)).alloc (.cells #[.slice A' es.length cap'] 28)) vs (Th.box wr.heap.size (.cells #[.slice A ds.length cap] 28 (0, 0)) :: Th.box (wr.heap.size + 1) (.cells #[.slice A' es.length cap'] 28 (0, 0)) :: ts)) := Lib.hid (by
    have k1 := h.later (((Gr.refl wr).alloc (.cells #[.slice A ds.length cap] 28)).alloc (.cells #[.slice A' es.length cap'] 28)).below
    have hold : ∀ {k}, wr.heap.size ≤ k → ∀ (j : Nat) y, vs[j]? = some y → ¬ y.own C ((wr.alloc (.cells #[.slice A ds.length cap] 28)).alloc (.cells #[.slice A' es.length cap'] 28)) k := fun {k} hk j y hj ho => by
      have h3 := (h.cv hj).keep (((Gr.refl wr).alloc (.cells #[.slice A ds.length cap] 28)).alloc (.cells #[.slice A' es.length cap'] 28)).below.size (fun k' hk' => (((Gr.refl wr).alloc (.cells #[.slice A ds.length cap] 28)).alloc (.cells #[.slice A' es.length cap'] 28)).below.block k' ((h.cv hj).old hk'))
      have h4 := (h.cv hj).old (h3.2 k ho)
      omega
    exact (k1.with (t := Th.box (wr.heap.size + 1) (.cells #[.slice A' es.length cap'] 28 (0, 0))) HB.out.2 (fun k hk => hold (by rw [hk]; omega))).with (t := Th.box wr.heap.size (.cells #[.slice A ds.length cap] 28 (0, 0))) HB.out.1 (fun k hk => hold (by rw [hk]; omega)))
  have HU : Hid (Th.vw (.slice A ds.length cap) ds ∈ ts) := Lib.hid hu
  have HU' : Hid (Th.vw (.slice A' es.length cap') es ∈ ts) := Lib.hid hu'
  have HV := Lib.hid hV
  have HW := Lib.hid hW
  have HLD := Lib.hid (vws_len hV)
  have HLE := Lib.hid (vws_len hW)
  unfold maxLen at h2 h2'
  clear HB h hu hu' hV hW
  by_cases hl : ds.length = es.length
  · have q0 : ((ds.length : Int) != (es.length : Int)) = false := by rw [bne_eq_false_iff_eq]; omega
    have HL := Lib.hid hl
    clear hl
    go_enter Tryz.func45, Tryz.ntmps45
    go_upto_region 1 with (fail)
    generalize World.alloc _ _ = w1 at HK0 ⊢
    generalize wr.heap.size + 1 = B3 at HK0 ⊢
    generalize wr.heap.size = B2 at HK0 ⊢
    have c2 : w1.cell? ⟨B2, 0, none⟩ = some (.slice A ds.length cap) := cell_at (HK0.out.is List.mem_cons_self) 0
    have c3 : w1.cell? ⟨B3, 0, none⟩ = some (.slice A' es.length cap') := cell_at (HK0.out.is (List.mem_cons_of_mem _ List.mem_cons_self)) 0
    go_wp2_with fail
    clear c2 c3
    go_loopw [5] (fun i wr => ∃ a : Nat, i = .int .i64 (a : Int) ∧ a ≤ ds.length ∧ Hid (Kv C w wr vs (Th.box B2 (.cells #[.slice A ds.length cap] 28 (0, 0)) :: Th.box B3 (.cells #[.slice A' es.length cap'] 28 (0, 0)) :: ts)) ∧ Hid (∀ (j : Nat) p q, j < a → (vws ds)[j]? = some p → (vws es)[j]? = some q → p.1 = q.1 ∧ allL p.2 = allL q.2)) (fun i _ => ds.length - (intOf i).toNat)
    case atStart => exact ⟨0, rfl, Nat.zero_le _, HK0, Lib.hid (fun j p q hj => by omega)⟩
    case round =>
      obtain ⟨a, rfl, ha, HK, HT⟩ := hrel
      clear HK0
      have c2 : wr.cell? ⟨B2, 0, none⟩ = some (.slice A ds.length cap) := cell_at (HK.out.is List.mem_cons_self) 0
      by_cases hax : a < ds.length
      · have q1 : decide ((a : Int) < (ds.length : Int)) = true := decide_eq_true (by omega)
        have hay : a < es.length := by have := HL.out; omega
        have hx : ds[a]? = some ds[a] := List.getElem?_eq_getElem hax
        have hy : es[a]? = some es[a] := List.getElem?_eq_getElem hay
        generalize ds[a] = x at hx
        generalize es[a] = y at hy
        have HXP : Hid ((vws ds)[a]? = some x.rl) := Lib.hid (by unfold vws; rw [List.getElem?_map, hx]; rfl)
        have HYP : Hid ((vws es)[a]? = some y.rl) := Lib.hid (by unfold vws; rw [List.getElem?_map, hy]; rfl)
        have HXM : Hid (x ∈ ds) := Lib.hid (List.mem_of_getElem? hx)
        have HYM : Hid (y ∈ es) := Lib.hid (List.mem_of_getElem? hy)
        obtain ⟨b, o, hA, hb, -⟩ := dv_at (HK.out.is (List.mem_cons_of_mem _ (List.mem_cons_of_mem _ HU.out))).1 hx
        obtain ⟨b', o', hA', hb', -⟩ := dv_at (HK.out.is (List.mem_cons_of_mem _ (List.mem_cons_of_mem _ HU'.out))).1 hy
        have hix := index_any (P := Tryz.prog) knD (by decide) (b := b) (off := o) (cap := cap) hax
        have hiy := index_any (P := Tryz.prog) knD (by decide) (b := b') (off := o') (cap := cap') hay
        simp only [LD] at hix hiy
        rw [← hA] at hix
        rw [← hA'] at hiy
        have HCS : Hid (∀ W, Kv C w W vs (Th.box B2 (.cells #[.slice A ds.length cap] 28 (0, 0)) :: Th.box B3 (.cells #[.slice A' es.length cap'] 28 (0, 0)) :: ts) → W.cell? ⟨B2, 0, none⟩ = some (.slice A ds.length cap) ∧ W.cell? ⟨B3, 0, none⟩ = some (.slice A' es.length cap') ∧ W.cell? ⟨b, o + a * 2, none⟩ = some (.string x.room) ∧ W.cell? ⟨b, o + a * 2 + 1, none⟩ = some (.slice x.A x.xs.length x.cap) ∧ W.cell? ⟨b', o' + a * 2, none⟩ = some (.string y.room) ∧ W.cell? ⟨b', o' + a * 2 + 1, none⟩ = some (.slice y.A y.xs.length y.cap)) := Lib.hid (fun W hk => by
          obtain ⟨b2, o2, hA2, -, p1, p2⟩ := dv_at (hk.is (List.mem_cons_of_mem _ (List.mem_cons_of_mem _ HU.out))).1 hx
          obtain ⟨b3, o3, hA3, -, p3, p4⟩ := dv_at (hk.is (List.mem_cons_of_mem _ (List.mem_cons_of_mem _ HU'.out))).1 hy
          rw [hA] at hA2
          rw [hA'] at hA3
          injection hA2 with hA2
          injection hA2 with e1 e2
          injection hA3 with hA3
          injection hA3 with e3 e4
          subst e1 e2 e3 e4
          exact ⟨cell_at (hk.is List.mem_cons_self) 0, cell_at (hk.is (List.mem_cons_of_mem _ List.mem_cons_self)) 0, p1, p2, p3, p4⟩)
        have HXV : Hid (Valid x.room (evs x.xs)) := Lib.hid (HV.out.each x.rl (List.mem_map.2 ⟨x, HXM.out, rfl⟩)).1
        have HYV : Hid (Valid y.room (evs y.xs)) := Lib.hid (HW.out.each y.rl (List.mem_map.2 ⟨y, HYM.out, rfl⟩)).1
        have HA1 := Lib.hid (fun W tt (hk : Kv C w W vs tt) (hs : ∀ t ∈ Th.box B2 (.cells #[.slice A ds.length cap] 28 (0, 0)) :: Th.box B3 (.cells #[.slice A' es.length cap'] 28 (0, 0)) :: ts, t ∈ tt) => refAllK hk (hs _ (List.mem_cons_of_mem _ (List.mem_cons_of_mem _ HU.out))) HXM.out HXV.out (Nat.le_trans (HLD.out.2 x HXM.out) (by decide)))
        have HA2 := Lib.hid (fun W tt (hk : Kv C w W vs tt) (hs : ∀ t ∈ Th.box B2 (.cells #[.slice A ds.length cap] 28 (0, 0)) :: Th.box B3 (.cells #[.slice A' es.length cap'] 28 (0, 0)) :: ts, t ∈ tt) => refAllK hk (hs _ (List.mem_cons_of_mem _ (List.mem_cons_of_mem _ HU'.out))) HYM.out HYV.out (Nat.le_trans (HLE.out.2 y HYM.out) (by decide)))
        unfold DV.val DV.lv at HA1 HA2
        have HSA := Lib.hid (fun W tt v v' (zs zs' : List EvV) (hk : Kv C w W vs tt) (e1 : evs zs = allL (evs x.xs)) (e2 : evs zs' = allL (evs y.xs)) (l1 : zs.length ≤ 1000) (l2 : zs'.length ≤ 1000) (m1 : Th.evs v zs ∈ tt) (m2 : Th.evs v' zs' ∈ tt) => refSameAllK hk m1 m2 l1 l2)
        have HSA2 : Hid (∀ W tt v v' (zs zs' : List EvV), Kv C w W vs tt → evs zs = allL (evs x.xs) → evs zs' = allL (evs y.xs) → zs.length ≤ 1000 → zs'.length ≤ 1000 → Th.evs v zs ∈ tt → Th.evs v' zs' ∈ tt → Calls Tryz.prog 14 #[v, v'] W fun e w' => e = .returned (.bool (decide (allL (evs x.xs) = allL (evs y.xs)))) ∧ Kv C w w' vs tt) := Lib.hid (fun W tt v v' zs zs' hk e1 e2 l1 l2 m1 m2 => by
          have := HSA.out W tt v v' zs zs' hk e1 e2 l1 l2 m1 m2
          rw [e1, e2] at this
          exact this)
        clear HSA
        have HSA := HSA2
        clear HSA2 hb hb' hx hy hA hA'
        generalize hall : decide (allL (evs x.xs) = allL (evs y.xs)) = all at HSA
        have HALL := Lib.hid hall
        clear hall
        go_wp2_with fail
        go_cut [6] from 14 to 50 (fun s6 wx => s6 = .bool all ∧ Hid (Kv C w wx vs (Th.box B2 (.cells #[.slice A ds.length cap] 28 (0, 0)) :: Th.box B3 (.cells #[.slice A' es.length cap'] 28 (0, 0)) :: ts)))
        case first =>
          have hk0 := HK.out.later (below_drew wr)
          clear c2 HK
          refine wp_region_held_drew (S := fun W => Kv C w W vs (Th.box B2 (.cells #[.slice A ds.length cap] 28 (0, 0)) :: Th.box B3 (.cells #[.slice A' es.length cap'] 28 (0, 0)) :: ts)) (by kernel_rfl) hk0 (fun hHeld => ?_)
          clear hk0
          generalize wr.drew = wd at hHeld ⊢
          refine wpAnyH_take (i := 0) (oi := ⟨some 21, _, _, _, _, _⟩) (v := ?vas0_0) rfl (by kernel_rfl) (by kernel_rfl) (by kernel_rfl) (fun _ _ _ h => h) (Or.inl ⟨by rfl, ?yas0_0⟩) hHeld ?ras0_0
          case yas0_0 =>
            intro wx hSx
            go_simp
            try with_reducible rfl
          try simp only [Act.put, List.setIfInBounds_toArray, List.set_cons_zero, List.set_cons_succ]
          refine wpAnyH_take (i := 1) (oi := ⟨some 22, _, _, _, _, _⟩) (v := ?vas0_1) rfl (by kernel_rfl) (by kernel_rfl) (by kernel_rfl) (fun _ _ _ h => h) (Or.inl ⟨by rfl, ?yas0_1⟩) hHeld ?ras0_1
          case yas0_1 =>
            intro wx hSx
            have z := (HCS.out _ hSx).1
            go_simp
            try with_reducible rfl
          try simp only [Act.put, List.setIfInBounds_toArray, List.set_cons_zero, List.set_cons_succ]
          refine wpAnyH_take (i := 2) (oi := ⟨some 23, _, _, _, _, _⟩) (v := ?vas0_2) rfl (by kernel_rfl) (by kernel_rfl) (by kernel_rfl) (fun _ _ _ h => h) (Or.inl ⟨by rfl, ?yas0_2⟩) hHeld ?ras0_2
          case yas0_2 =>
            intro wx hSx
            go_simp
            try with_reducible rfl
          try simp only [Act.put, List.setIfInBounds_toArray, List.set_cons_zero, List.set_cons_succ]
          refine wpAnyH_take (i := 3) (oi := ⟨some 24, _, _, _, _, _⟩) (v := ?vas0_3) rfl (by kernel_rfl) (by kernel_rfl) (by kernel_rfl) (fun _ _ _ h => h) (Or.inl ⟨by rfl, ?yas0_3⟩) hHeld ?ras0_3
          case yas0_3 =>
            intro wx hSx
            go_simp
            try with_reducible rfl
          try simp only [Act.put, List.setIfInBounds_toArray, List.set_cons_zero, List.set_cons_succ]
          refine wpAnyH_take (i := 4) (oi := ⟨some 25, _, _, _, _, _⟩) (v := ?vas0_4) rfl (by kernel_rfl) (by kernel_rfl) (by kernel_rfl) (fun _ _ _ h => h) (Or.inl ⟨by rfl, ?yas0_4⟩) hHeld ?ras0_4
          case yas0_4 =>
            intro wx hSx
            have z := (HCS.out _ hSx).2.2.1
            have z2 := (HCS.out _ hSx).2.2.2.1
            go_simp
            try with_reducible rfl
          try simp only [Act.put, List.setIfInBounds_toArray, List.set_cons_zero, List.set_cons_succ]
          refine wpAnyH_take (i := 6) (oi := ⟨some 27, _, _, _, _, _⟩) (v := ?vas0_6) rfl (by kernel_rfl) (by kernel_rfl) (by kernel_rfl) (fun _ _ _ h => h) (Or.inl ⟨by rfl, ?yas0_6⟩) hHeld ?ras0_6
          case yas0_6 =>
            intro wx hSx
            go_simp
            try with_reducible rfl
          try simp only [Act.put, List.setIfInBounds_toArray, List.set_cons_zero, List.set_cons_succ]
          refine wpAnyH_take (i := 7) (oi := ⟨some 28, _, _, _, _, _⟩) (v := ?vas0_7) rfl (by kernel_rfl) (by kernel_rfl) (by kernel_rfl) (fun _ _ _ h => h) (Or.inl ⟨by rfl, ?yas0_7⟩) hHeld ?ras0_7
          case yas0_7 =>
            intro wx hSx
            have z := (HCS.out _ hSx).2.1
            go_simp
            try with_reducible rfl
          try simp only [Act.put, List.setIfInBounds_toArray, List.set_cons_zero, List.set_cons_succ]
          refine wpAnyH_take (i := 8) (oi := ⟨some 29, _, _, _, _, _⟩) (v := ?vas0_8) rfl (by kernel_rfl) (by kernel_rfl) (by kernel_rfl) (fun _ _ _ h => h) (Or.inl ⟨by rfl, ?yas0_8⟩) hHeld ?ras0_8
          case yas0_8 =>
            intro wx hSx
            go_simp
            try with_reducible rfl
          try simp only [Act.put, List.setIfInBounds_toArray, List.set_cons_zero, List.set_cons_succ]
          refine wpAnyH_take (i := 9) (oi := ⟨some 30, _, _, _, _, _⟩) (v := ?vas0_9) rfl (by kernel_rfl) (by kernel_rfl) (by kernel_rfl) (fun _ _ _ h => h) (Or.inl ⟨by rfl, ?yas0_9⟩) hHeld ?ras0_9
          case yas0_9 =>
            intro wx hSx
            go_simp
            try with_reducible rfl
          try simp only [Act.put, List.setIfInBounds_toArray, List.set_cons_zero, List.set_cons_succ]
          refine wpAnyH_take (i := 10) (oi := ⟨some 31, _, _, _, _, _⟩) (v := ?vas0_10) rfl (by kernel_rfl) (by kernel_rfl) (by kernel_rfl) (fun _ _ _ h => h) (Or.inl ⟨by rfl, ?yas0_10⟩) hHeld ?ras0_10
          case yas0_10 =>
            intro wx hSx
            have z := (HCS.out _ hSx).2.2.2.2.1
            have z2 := (HCS.out _ hSx).2.2.2.2.2
            go_simp
            try with_reducible rfl
          try simp only [Act.put, List.setIfInBounds_toArray, List.set_cons_zero, List.set_cons_succ]
          refine wpAnyH_ready (rs := [5]) (by kernel_rfl) (by simp) ?_
          refine AllReadyH.cons (o := ⟨some 26, _, _, _, _, _⟩) rfl (fun K hK => ?wa5) AllReadyH.nil
          case wa5 =>
            have HQc := Lib.hid (HA1.out wd _ hHeld (fun _ ht => ht))
            go_simp
            refine HQc.out.mono ?_
            rintro e Wa5 ⟨A5, _, c5, ys5, rfl, hev5, rfl, hl5, hk⟩
            refine hK.out _ _ (hk.less (fun _ ht => List.mem_cons_of_mem _ ht)) (fun hHeld => ?_)
            clear hK K hHeld
            try simp only [Act.put, List.setIfInBounds_toArray, List.set_cons_zero, List.set_cons_succ]
            refine anyH_narrow (S' := fun W => Kv C w W vs (Th.evs (.slice A5 ys5.length c5) ys5 :: Th.box B2 (.cells #[.slice A ds.length cap] 28 (0, 0)) :: Th.box B3 (.cells #[.slice A' es.length cap'] 28 (0, 0)) :: ts)) (fun _ h => h.less (fun _ ht => List.mem_cons_of_mem _ ht)) _ _ _ _ ?_
            have hHeld := hk
            clear hk HQc
            have HEV5 := Lib.hid hev5
            have HLN5 := Lib.hid hl5
            clear hev5 hl5
            refine wpAnyH_ready (rs := [11]) (by kernel_rfl) (by simp) ?_
            refine AllReadyH.cons (o := ⟨some 32, _, _, _, _, _⟩) rfl (fun K hK => ?wa5x11) AllReadyH.nil
            case wa5x11 =>
              have HQc := Lib.hid (HA2.out Wa5 _ hHeld (fun _ ht => (List.mem_cons_of_mem _ ht)))
              go_simp
              refine HQc.out.mono ?_
              rintro e Wa5x11 ⟨A11, _, c11, ys11, rfl, hev11, rfl, hl11, hk⟩
              refine hK.out _ _ (hk.less (fun _ ht => List.mem_cons_of_mem _ ht)) (fun hHeld => ?_)
              clear hK K hHeld
              try simp only [Act.put, List.setIfInBounds_toArray, List.set_cons_zero, List.set_cons_succ]
              refine anyH_narrow (S' := fun W => Kv C w W vs (Th.evs (.slice A11 ys11.length c11) ys11 :: Th.evs (.slice A5 ys5.length c5) ys5 :: Th.box B2 (.cells #[.slice A ds.length cap] 28 (0, 0)) :: Th.box B3 (.cells #[.slice A' es.length cap'] 28 (0, 0)) :: ts)) (fun _ h => h.less (fun _ ht => List.mem_cons_of_mem _ ht)) _ _ _ _ ?_
              have hHeld := hk
              clear hk HQc
              have HEV11 := Lib.hid hev11
              have HLN11 := Lib.hid hl11
              clear hev11 hl11
              refine wpAnyH_ready (rs := [12]) (by kernel_rfl) (by simp) ?_
              refine AllReadyH.cons (o := ⟨some 33, _, _, _, _, _⟩) rfl (fun K hK => ?wa5x11x12) AllReadyH.nil
              case wa5x11x12 =>
                have HQc := Lib.hid (HSA.out Wa5x11 _ (.slice A5 ys5.length c5) (.slice A11 ys11.length c11) ys5 ys11 hHeld HEV5.out HEV11.out HLN5.out HLN11.out (List.mem_cons_of_mem _ List.mem_cons_self) List.mem_cons_self)
                go_simp
                refine HQc.out.mono ?_
                rintro e Wa5x11x12 ⟨rfl, hk⟩
                refine hK.out _ _ hk (fun hHeld => ?_)
                clear hK K hk HQc
                try simp only [Act.put, List.setIfInBounds_toArray, List.set_cons_zero, List.set_cons_succ]
                refine wpAnyH_take (i := 13) (oi := ⟨some 6, _, _, _, _, _⟩) (v := ?va5x11x12xs3_13) rfl (by kernel_rfl) (by kernel_rfl) (by kernel_rfl) (fun _ _ _ h => h) (Or.inl ⟨by rfl, ?ya5x11x12xs3_13⟩) hHeld ?ra5x11x12xs3_13
                case ya5x11x12xs3_13 =>
                  intro wx hSx
                  go_simp
                  try with_reducible rfl
                try simp only [Act.put, List.setIfInBounds_toArray, List.set_cons_zero, List.set_cons_succ]
                refine wpAnyH_done (by kernel_rfl) ?_ _
                have HKF : Hid (Kv C w Wa5x11x12 vs (Th.box B2 (.cells #[.slice A ds.length cap] 28 (0, 0)) :: Th.box B3 (.cells #[.slice A' es.length cap'] 28 (0, 0)) :: ts)) := Lib.hid (hHeld.less (fun _ ht => List.mem_cons_of_mem _ (List.mem_cons_of_mem _ ht)))
                go_wp2_with fail
                go_meet
                exact ⟨rfl, HKF⟩
        case rest =>
          obtain ⟨rfl, HK2⟩ := hcut
          obtain ⟨c2, c3, d0, d1, e0, e1⟩ := HCS.out wc HK2.out
          generalize hrr : (x.room.toList == y.room.toList) = rr
          have HQQ := Lib.hid hrr
          have HNE : Hid ((x.room.toList != y.room.toList) = !rr) := Lib.hid (by rw [← hrr]; rfl)
          have HRR : Hid (decide (x.room = y.room) = rr) := Lib.hid (by rw [← keyB]; exact hrr)
          clear hrr
          cases all with
          | false =>
            have HF : Hid (sameV (vws ds) (vws es) = false) := Lib.hid (sameV_miss HXP.out HYP.out (fun hh => of_decide_eq_false HALL.out hh.2))
            go_upto_region 7 with (fail)
            go_quiet (fail)
            replace HK2 := Lib.hid (HK2.out.later ((Gr.refl wc).drewN nq).below)
            go_wp2_with fail
            go_ret
            exact ⟨by rw [HF.out]; rfl, HK2.out.less (fun _ ht => List.mem_cons_of_mem _ (List.mem_cons_of_mem _ ht))⟩
          | true =>
            cases rr with
            | false =>
              have hne : (x.room.toList != y.room.toList) = true := HNE.out
              have hqq := HQQ.out
              have HF : Hid (sameV (vws ds) (vws es) = false) := Lib.hid (sameV_miss HXP.out HYP.out (fun hh => of_decide_eq_false HRR.out hh.1))
              go_upto_region 7 with (fail)
              go_quiet (fail)
              replace HK2 := Lib.hid (HK2.out.later ((Gr.refl wc).drewN nq).below)
              go_wp2_with fail
              go_ret
              exact ⟨by rw [HF.out]; rfl, HK2.out.less (fun _ ht => List.mem_cons_of_mem _ (List.mem_cons_of_mem _ ht))⟩
            | true =>
              have hne : (x.room.toList != y.room.toList) = false := HNE.out
              have hqq := HQQ.out
              have HT2 : Hid (∀ (j : Nat) p q, j < a + 1 → (vws ds)[j]? = some p → (vws es)[j]? = some q → p.1 = q.1 ∧ allL p.2 = allL q.2) := Lib.hid (fun j p q hj hp hq => by
                rcases Nat.lt_or_eq_of_le (Nat.lt_succ_iff.1 hj) with hh | hh
                · exact HT.out j p q hh hp hq
                · subst hh
                  rw [HXP.out] at hp
                  rw [HYP.out] at hq
                  injection hp with hp
                  injection hq with hq
                  rw [← hp, ← hq]
                  exact ⟨of_decide_eq_true HRR.out, of_decide_eq_true HALL.out⟩)
              go_upto_region 7 with (fail)
              go_quiet (fail)
              replace HK2 := Lib.hid (HK2.out.later ((Gr.refl wc).drewN nq).below)
              go_wp2_with fail
              refine ⟨⟨a + 1, by go_num, by omega, HK2, HT2⟩, ?_⟩
              simp [intOf]; omega
      · have q1 : decide ((a : Int) < (ds.length : Int)) = false := decide_eq_false (by omega)
        have HF : Hid (sameV (vws ds) (vws es) = true) := Lib.hid (sameV_all (by unfold vws; rw [List.length_map, List.length_map]; exact HL.out) (fun j p q hp hq => HT.out j p q (by have := (List.getElem?_eq_some_iff.1 hp).1; unfold vws at this; rw [List.length_map] at this; omega) hp hq))
        go_wp2_with fail
        go_ret
        exact ⟨by rw [HF.out]; rfl, HK.out.less (fun _ ht => List.mem_cons_of_mem _ (List.mem_cons_of_mem _ ht))⟩
  · have q0 : ((ds.length : Int) != (es.length : Int)) = true := by rw [bne_iff_ne]; omega
    have HF : Hid (sameV (vws ds) (vws es) = false) := Lib.hid (decide_eq_false (fun e => hl (by have := congrArg List.length e; unfold vws at this; rw [List.length_map, List.length_map, List.length_map, List.length_map] at this; exact this)))
    clear hl
    go_enter Tryz.func45, Tryz.ntmps45
    go_upto_region 1 with (fail)
    generalize World.alloc _ _ = w1 at HK0 ⊢
    generalize wr.heap.size + 1 = B3 at HK0 ⊢
    generalize wr.heap.size = B2 at HK0 ⊢
    have c2 : w1.cell? ⟨B2, 0, none⟩ = some (.slice A ds.length cap) := cell_at (HK0.out.is List.mem_cons_self) 0
    have c3 : w1.cell? ⟨B3, 0, none⟩ = some (.slice A' es.length cap') := cell_at (HK0.out.is (List.mem_cons_of_mem _ List.mem_cons_self)) 0
    go_wp2_with fail
    go_ret
    exact ⟨by rw [HF.out]; rfl, HK0.out.less (fun _ ht => List.mem_cons_of_mem _ (List.mem_cons_of_mem _ ht))⟩
end
end Go.Proofs.YtjiecjpepiknmaaGreat
