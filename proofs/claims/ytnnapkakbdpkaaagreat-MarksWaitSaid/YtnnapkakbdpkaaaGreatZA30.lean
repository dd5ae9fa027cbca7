/-
  What the statements stand on, part ZA30.
-/
import Derived.Test.YtnnapkakbdpkaaaGreatZA27
set_option linter.unusedVariables false
set_option linter.unusedSimpArgs false
namespace Go.Proofs.YtnnapkakbdpkaaaGreat
set_option maxRecDepth 20000
open Go.RowKit
theorem nodup_len {α : Type} [DecidableEq α] : ∀ {a b : List α}, a.Nodup → (∀ x ∈ a, x ∈ b) → a.length ≤ b.length
 | [], b, _, _ => Nat.zero_le _
 | x :: r, b, hn, hs => by
  have hn1 := List.nodup_cons.1 hn
  have hx := hs x List.mem_cons_self
  have h1 := nodup_len (b := b.erase x) hn1.2 (fun y hy => (List.mem_erase_of_ne (fun e => hn1.1 (by rw [← e]; exact hy))).2 (hs y (List.mem_cons_of_mem _ hy)))
  rw [List.length_erase_of_mem hx] at h1
  have := List.length_pos_of_mem hx
  rw [List.length_cons]
  omega
theorem up_nodup {us : List ByteArray} (h : Up us) : us.Nodup := by
 rw [List.nodup_iff_pairwise_ne]
 exact h.imp (fun hab => up_ne hab)
structure PartL (room : ByteArray) (L l : List Ev) : Prop where
 val : Valid room l
 sub : ∀ e ∈ l, e ∈ L
section
variable {room : ByteArray} {L l : List Ev} {e : Ev}
theorem addA_sub (room : ByteArray) (l : List Ev) (e x : Ev) (h : x ∈ l) : x ∈ addA room l e := by
 unfold addA
 split
 ·exact List.mem_append.2 (.inl h)
 ·exact h
theorem PartL.nil (room : ByteArray) (L : List Ev) : PartL room L [] := ⟨valid_nil room, fun e h => by simp at h⟩
theorem PartL.add (h : PartL room L l) (he : e ∈ L) : PartL room L (addA room l e) := by
 refine ⟨valid_add h.val, fun x hx => ?_⟩
 unfold addA at hx
 split at hx
 ·rcases List.mem_append.1 hx with hx | hx
  ·exact h.sub x hx
  ·rw [List.mem_singleton.1 hx]; exact he
 ·exact h.sub x hx
theorem err_part (hm : mayE e = true) (hr : e.room = room) : errA room l e = if hasE l e.id then 9 else if e.parents.all (hasE l) = false then 4 else if e.thread = ⟨#[]⟩ then 0 else match idx l e.thread with
  | none => 4
  | some k => match l[k]? with
   | none => 4
   | some t => if t.thread = ⟨#[]⟩ ∧ t.does = 0 then 0 else 7 := by
 unfold errA
 rw [if_neg (by simp [hm, hr])]
 rfl
theorem PartL.err (hL : Valid room L) (h : PartL room L l) (he : e ∈ L) : errA room l e = 0 ∨ errA room l e = 4 ∨ errA room l e = 9 := by
 obtain ⟨i, hi⟩ := List.getElem?_of_mem he
 obtain ⟨hm, hr, hh, hp, ht⟩ := err_zero (hL i e hi)
 rw [err_part hm hr]
 split
 ·exact .inr (.inr rfl)
 split
 ·exact .inr (.inl rfl)
 split
 ·exact .inl rfl
 next ht0 =>
 rcases ht with ht | ⟨t, htm, hti, ht1, ht2⟩
 ·exact absurd ht ht0
 cases hx : idx l e.thread with
 | none => exact .inr (.inl rfl)
 | some k =>
  obtain ⟨x, hxk, hxi, -⟩ := idx_some hx
  have hxt : x = t := valid_ids hL (h.sub x (List.mem_of_getElem? hxk)) (List.mem_of_mem_take htm) (hxi.trans hti.symm)
  simp only [hxk]
  rw [hxt, if_pos ⟨ht1, ht2⟩]
  exact .inl rfl
theorem PartL.turn (hL : Valid room L) (h : PartL room L l) {r : Nat} (he : L[r]? = some e) (hp : ∀ x ∈ L.take r, x ∈ l) : e ∈ addA room l e := by
 have hem : e ∈ L := List.mem_of_getElem? he
 obtain ⟨hm, hr, hh, hpar, ht⟩ := err_zero (hL r e he)
 by_cases hhas : hasE l e.id = true
 ·obtain ⟨x, hx, hxi⟩ := has_iff.1 hhas
  have hxe : x = e := valid_ids hL (h.sub x hx) hem hxi
  exact addA_sub room l e e (hxe ▸ hx)
 have h0 : errA room l e = 0 := by
  rw [err_part hm hr, if_neg (by simpa using hhas), if_neg (by
   have ha : e.parents.all (hasE l) = true := List.all_eq_true.2 (fun p hpp => by
    obtain ⟨x, hx, hxi⟩ := has_iff.1 (hpar p hpp)
    exact has_iff.2 ⟨x, hp x hx, hxi⟩)
   simp [ha])]
  split
  ·rfl
  next ht0 =>
  rcases ht with ht | ⟨t, htm, hti, ht1, ht2⟩
  ·exact absurd ht ht0
  obtain ⟨j, hj⟩ := List.getElem?_of_mem (hp t htm)
  have hx := valid_idx h.val hj
  rw [hti] at hx
  simp only [hx, hj]
  rw [if_pos ⟨ht1, ht2⟩]
 unfold addA
 rw [if_pos h0]
 exact List.mem_append.2 (.inr (List.mem_singleton.2 rfl))
end
theorem ofL_same {V : Vw} {e : Ev} (he : ¬ errV V e = 0) : addV V e = V := by unfold addV; exact if_neg he
theorem inRoom_valid {L : List Ev} (h : AllOk L) (r : ByteArray) : Valid r (inRoom L r) := by
 rw [← foldV_ofL L h r]
 exact ((foldV_ok L).of_ r).1
theorem mem_inRoom {L : List Ev} {r : ByteArray} {e : Ev} : e ∈ inRoom L r ↔ e ∈ L ∧ e.room = r := by
 rw [inRoom, List.mem_filter, decide_eq_true_eq]
theorem valid_apart {r : ByteArray} {l : List Ev} (h : Valid r l) : l.Nodup := (List.pairwise_map.1 (valid_nodup h)).imp (fun h e => h (by rw [e]))
structure OrdV (L : List Ev) (V : Vw) : Prop where
 up : Up (V.map Prod.fst)
 each : ∀ p ∈ V, Valid p.1 p.2 ∧ p.2 ≠ [] ∧ p.1.size ≤ 40
 sub : ∀ p ∈ V, ∀ e ∈ p.2, e ∈ L
section
variable {L : List Ev} {V W : Vw} {e : Ev} {k : Nat}
theorem OrdV.nil : OrdV L [] := ⟨List.Pairwise.nil, fun p h => (by cases h), fun p h => (by cases h)⟩
theorem OrdV.of_ (h : OrdV L V) (r : ByteArray) : Valid r (ofL V r) ∧ ∀ x ∈ ofL V r, x ∈ L := by
 by_cases hr : r ∈ V.map Prod.fst
 ·obtain ⟨p, hp, rfl⟩ := List.mem_map.1 hr
  rw [ofL_in h.up hp]
  exact ⟨(h.each p hp).1, h.sub p hp⟩
 ·rw [ofL_out hr]
  exact ⟨valid_nil r, fun x hx => (by cases hx)⟩
theorem OrdV.part (h : OrdV L V) (r : ByteArray) : PartL r (inRoom L r) (ofL V r) := ⟨(h.of_ r).1, fun x hx => mem_inRoom.2 ⟨(h.of_ r).2 x hx, valid_room (h.of_ r).1 x hx⟩⟩
theorem OrdV.add (h : OrdV L V) (he : e ∈ L) : OrdV L (addV V e) := by
 by_cases h0 : errV V e = 0
 ·have hv := h.of_ e.room
  have hadd : addA e.room (ofL V e.room) e = ofL V e.room ++ [e] := by
   unfold addA
   exact if_pos h0
  unfold addV
  rw [if_pos h0]
  refine ⟨putK_up h.up, fun p hp => ?_, fun p hp x hx => ?_⟩
  ·rcases (putK_mem h.up).1 hp with rfl | ⟨hp, -⟩
   ·refine ⟨valid_add hv.1, ?_, (may_short (err_zero h0).1).2.1⟩
    simp only
    rw [hadd]
    simp
   ·exact h.each p hp
  ·rcases (putK_mem h.up).1 hp with rfl | ⟨hp, -⟩
   ·simp only at hx
    rw [hadd] at hx
    rcases List.mem_append.1 hx with hx | hx
    ·exact hv.2 x hx
    ·rw [List.mem_singleton.1 hx]
     exact he
   ·exact h.sub p hp x hx
 ·rw [ofL_same h0]
  exact h
theorem OrdV.ok (h : OrdV L V) : VOk L.length V := by
 refine ⟨h.up, fun p hp => ⟨(h.each p hp).1, nodup_len (valid_apart (h.each p hp).1) (h.sub p hp), (h.each p hp).2.2⟩, ?_⟩
 have h1 := nodup_len (b := L.map Ev.room) (up_nodup h.up) (fun r hr => by
  obtain ⟨p, hp, rfl⟩ := List.mem_map.1 hr
  obtain ⟨h2, h3, -⟩ := h.each p hp
  obtain ⟨x, hx⟩ := List.exists_mem_of_ne_nil _ h3
  exact List.mem_map.2 ⟨x, h.sub p hp x hx, valid_room h2 x hx⟩)
 rw [List.length_map, List.length_map] at h1
 exact h1
theorem OrdV.err (hL : AllOk L) (h : OrdV L V) (he : e ∈ L) : errV V e = 0 ∨ errV V e = 4 ∨ errV V e = 9 := (h.part e.room).err (inRoom_valid hL _) (mem_inRoom.2 ⟨he, rfl⟩)
theorem OrdV.stays (h : OrdV L V) {r : ByteArray} {x : Ev} (hx : x ∈ ofL V r) : x ∈ ofL (addV V e) r := by
 by_cases h0 : errV V e = 0
 ·rw [ofL_addV h.up h0]
  split
  ·exact List.mem_append_left _ hx
  ·exact hx
 ·rw [ofL_same h0]
  exact hx
def InV (L : List Ev) (V : Vw) (k : Nat) : Prop := ∀ r, ∀ x ∈ (inRoom L r).take k, x ∈ ofL V r
def CameV (L : List Ev) (V : Vw) (k a : Nat) : Prop := ∀ (j : Nat) x, a ≤ j → L[j]? = some x → (inRoom L x.room)[k]? = some x → x ∈ ofL V x.room
theorem InV.start : InV L V 0 := fun r x hx => (by cases hx)
theorem CameV.start : CameV L V k L.length := fun j x hj hx => by
 have := (List.getElem?_eq_some_iff.1 hx).1
 omega
theorem InV.stays (h : OrdV L V) (hi : InV L V k) : InV L (addV V e) k := fun r x hx => h.stays (hi r x hx)
theorem CameV.step (hL : AllOk L) (h : OrdV L V) (hi : InV L V k) {a : Nat} (hc : CameV L V k (a + 1)) (he : L[a]? = some e) : CameV L (addV V e) k a := by
 intro j x hj hx hk
 by_cases hja : a + 1 ≤ j
 ·exact h.stays (hc j x hja hx hk)
 ·have hja : j = a := by omega
  subst hja
  rw [he] at hx
  injection hx with hx
  subst hx
  have h1 := (h.part e.room).turn (inRoom_valid hL _) hk (hi e.room)
  by_cases h0 : errV V e = 0
  ·rw [ofL_addV h.up h0, if_pos rfl]
   exact List.mem_append_right _ List.mem_cons_self
  ·rw [ofL_same h0]
   have h2 : addA e.room (ofL V e.room) e = ofL V e.room := by
    unfold addA
    exact if_neg h0
   rw [h2] at h1
   exact h1
theorem InV.next (hi : InV L V k) (hc : CameV L V k 0) : InV L V (k + 1) := by
 intro r x hx
 rw [List.take_add_one, List.mem_append] at hx
 rcases hx with hx | hx
 ·exact hi r x hx
 ·cases hk : (inRoom L r)[k]? with
  | none => rw [hk] at hx; cases hx
  | some y =>
   rw [hk] at hx
   have hxy := List.mem_singleton.1 hx
   subst hxy
   obtain ⟨hm, hr⟩ := mem_inRoom.1 (List.mem_of_getElem? hk)
   obtain ⟨j, hj⟩ := List.getElem?_of_mem hm
   subst hr
   exact hc j x (Nat.zero_le _) hj hk
end
end Go.Proofs.YtnnapkakbdpkaaaGreat

namespace Go.Proofs.YtnnapkakbdpkaaaGreat
set_option maxRecDepth 20000
open Go.RowKit
theorem depth_part {room room' : ByteArray} {l l' : List Ev} (hv : Valid room l) (hv' : Valid room' l') (hm : ∀ e ∈ l, e ∈ l') {e : Ev} (he : e ∈ l) : depthL l e.id = depthL l' e.id := by
 have key : ∀ (n i : Nat) (e : Ev), i < n → l[i]? = some e → depthL l e.id = depthL l' e.id := by
  intro n
  induction n with
  | zero => intro i e hi; omega
  | succ n ih =>
   intro i e hi he
   have hel := List.mem_of_getElem? he
   rw [depth_rec hv hel, depth_rec hv' (hm e hel)]
   obtain ⟨_, _, _, hp, _⟩ := err_zero (hv i e he)
   have fold : ∀ (ps : List ByteArray) (m : Nat), (∀ p ∈ ps, hasE (l.take i) p = true) → ps.foldl (fun m p => max m (depthL l p + 1)) m = ps.foldl (fun m p => max m (depthL l' p + 1)) m := by
    intro ps
    induction ps with
    | nil => intro m _; rfl
    | cons p r ih2 =>
     intro m hq
     rw [List.foldl_cons, List.foldl_cons]
     obtain ⟨e1, t, e2, ht⟩ := idx_take (hq p List.mem_cons_self)
     obtain ⟨x, hx, hxe, _⟩ := idx_some (e1.trans e2)
     have := ih t x (by omega) hx
     rw [hxe] at this
     rw [this]
     exact ih2 _ (fun q hq' => hq q (List.mem_cons_of_mem _ hq'))
   exact fold _ _ hp
 obtain ⟨i, hi⟩ := List.getElem?_of_mem he
 exact key (i + 1) i e (by omega) hi
section
variable {E : List Ev} {R : List Edu} {V : Vw} {s : Ms} {P : Edu → Prop} {n : Nat} {e : Ev} {r : Edu}
theorem mem_all (hE : AllOk E) {x : Ev} {r : ByteArray} : x ∈ ofL (foldV E) r ↔ x ∈ E ∧ x.room = r := by
 rw [foldV_ofL E hE r, mem_inRoom]
theorem OrdV.all (hE : AllOk E) (h : OrdV E V) {r : ByteArray} {x : Ev} (hx : x ∈ ofL V r) : x ∈ ofL (foldV E) r := (mem_all hE).2 ⟨(h.of_ r).2 x hx, valid_room (h.of_ r).1 x hx⟩
theorem known_all (hE : AllOk E) (h : OrdV E V) {r id : ByteArray} (hk : hasE (ofL V r) id = true) : hasE (ofL (foldV E) r) id = true := by
 obtain ⟨x, hx, hi⟩ := has_iff.1 hk
 exact has_iff.2 ⟨x, h.all hE hx, hi⟩
theorem pos_all (hE : AllOk E) (h : OrdV E V) {r id : ByteArray} (hk : hasE (ofL V r) id = true) : posV V r id = posV (foldV E) r id := by
 unfold posV
 rw [hk, known_all hE h hk, cond_true, cond_true]
 obtain ⟨x, hx, rfl⟩ := has_iff.1 hk
 unfold posL
 rw [depth_part (h.of_ r).1 ((foldV_ok E).of_ r).1 (fun y hy => h.all hE hy) hx]
theorem fits_one {room : ByteArray} {l : List Ev} {x : Ev} {t : ByteArray} (hv : Valid room l) (hx : x ∈ l) : fitsL l x.id t = if t = ⟨#[]⟩ ∨ t = x.id ∨ (t = ⟨#[109, 97, 105, 110]⟩ ∧ x.thread = ⟨#[]⟩) ∨ (x.thread ≠ ⟨#[]⟩ ∧ t = x.thread) then 0 else 7 := by
 obtain ⟨i, hi⟩ := List.getElem?_of_mem hx
 unfold fitsL
 simp only [valid_idx hv hi, hi]
theorem fit_all (hE : AllOk E) (h : OrdV E V) {r : Edu} (hk : hasE (ofL V r.room) r.event = true) : fitV V r = fitV (foldV E) r := by
 obtain ⟨x, hx, hi⟩ := has_iff.1 hk
 unfold fitV
 rw [← hi, fits_one (h.of_ r.room).1 hx, fits_one ((foldV_ok E).of_ r.room).1 (h.all hE hx)]
theorem mark_all (hE : AllOk E) (h : OrdV E V) {r : Edu} (hk : hasE (ofL V r.room) r.event = true) : markE V r = markE (foldV E) r := by
 unfold markE
 rw [pos_all hE h hk]
theorem known_add (h : OrdV E V) (h0 : errV V e = 0) {room id : ByteArray} : hasE (ofL (addV V e) room) id = true ↔ hasE (ofL V room) id = true ∨ (room = e.room ∧ id = e.id) := by
 rw [has_iff, has_iff, ofL_addV h.up h0]
 by_cases hr : room = e.room
 ·rw [if_pos hr]
  constructor
  ·rintro ⟨x, hx, hi⟩
   rcases List.mem_append.1 hx with hx | hx
   ·exact .inl ⟨x, hx, hi⟩
   ·rw [List.mem_singleton.1 hx] at hi
    exact .inr ⟨hr, hi.symm⟩
  ·rintro (⟨x, hx, hi⟩ | ⟨-, hi⟩)
   ·exact ⟨x, List.mem_append_left _ hx, hi⟩
   ·exact ⟨e, List.mem_append_right _ List.mem_cons_self, hi.symm⟩
 ·rw [if_neg hr]
  constructor
  ·exact fun h => .inl h
  ·rintro (h | ⟨h, -⟩)
   ·exact h
   ·exact absurd h hr
structure OrdM (E : List Ev) (V : Vw) (s : Ms) (P : Edu → Prop) (n : Nat) : Prop where
 ord : OrdV E V
 row : RowM s.l
 best : Best (getM s.l) (fun m => ∃ r, P r ∧ hasE (ofL V r.room) r.event = true ∧ fitV (foldV E) r = 0 ∧ m = markE (foldV E) r)
 inP : ∀ r ∈ s.p.l, P r ∧ hasE (ofL V r.room) r.event = false
 wait : ∀ r, P r → hasE (ofL V r.room) r.event = false → r ∈ s.p.l
 lost : s.p.lost = 0
 most : s.p.most = 1000
 len : s.l.length + s.p.l.length ≤ n
theorem OrdM.start : OrdM E [] ⟨[], ⟨1000, [], 0⟩⟩ (fun _ => False) 0 :=
 ⟨OrdV.nil, row_nilM, best_same best_nil (fun m => ⟨fun h => h.elim, fun ⟨r, h, _⟩ => h.elim⟩), (fun r h => (List.not_mem_nil h).elim), (fun r h => h.elim), rfl, rfl, Nat.le_refl _⟩
theorem OrdM.same {P' : Edu → Prop} (h : OrdM E V s P n) (hp : ∀ x, P x ↔ P' x) {n' : Nat} (hn : n ≤ n') : OrdM E V s P' n' :=
 ⟨h.ord, h.row, best_same h.best (fun m => ⟨fun ⟨r, a, b⟩ => ⟨r, (hp r).1 a, b⟩, fun ⟨r, a, b⟩ => ⟨r, (hp r).2 a, b⟩⟩), fun r hr => ⟨(hp r).1 (h.inP r hr).1, (h.inP r hr).2⟩, fun r hr => h.wait r ((hp r).2 hr), h.lost, h.most, Nat.le_trans h.len hn⟩
theorem OrdM.put (hE : AllOk E) (h : OrdM E V s P n) (hm : mayR r = true) (hn : n < 1000) : OrdM E V (s.put V r) (fun x => P x ∨ x = r) (n + 1) := by
 have hlen := h.len
 by_cases h4 : fitV V r = 4
 ·have hk := fit_known.1 h4
  rw [(Ms.put_wait hm h4).1]
  have hS : ∀ m, (∃ r, P r ∧ hasE (ofL V r.room) r.event = true ∧ fitV (foldV E) r = 0 ∧ m = markE (foldV E) r) ↔ ∃ x, (P x ∨ x = r) ∧ hasE (ofL V x.room) x.event = true ∧ fitV (foldV E) x = 0 ∧ m = markE (foldV E) x := fun m =>
   ⟨fun ⟨x, a, b⟩ => ⟨x, .inl a, b⟩, fun ⟨x, a, b⟩ => by
    rcases a with a | rfl
    ·exact ⟨x, a, b⟩
    ·rw [hk] at b; cases b.1⟩
  by_cases hh : hasP s.p.l r = true
  ·rw [(Pk.put_has hh).1]
   have hw : ∀ x, (P x ∨ x = r) → hasE (ofL V x.room) x.event = false → x ∈ s.p.l := fun x hx hxk => by
    rcases hx with hx | rfl
    ·exact h.wait x hx hxk
    ·exact hasP_iff.1 hh
   exact ⟨h.ord, h.row, best_same h.best hS, fun x hx => ⟨.inl (h.inP x hx).1, (h.inP x hx).2⟩, hw, h.lost, h.most, Nat.le_succ_of_le hlen⟩
  ·have ho : s.p.over = false := by
    unfold Pk.over
    rw [h.most]
    exact decide_eq_false (by omega)
   rw [(Pk.put_in (Bool.eq_false_iff.2 hh) ho).1]
   have hi : ∀ x ∈ s.p.l ++ [r], (P x ∨ x = r) ∧ hasE (ofL V x.room) x.event = false := fun x hx => by
    rcases List.mem_append.1 hx with hx | hx
    ·exact ⟨.inl (h.inP x hx).1, (h.inP x hx).2⟩
    ·rw [List.mem_singleton.1 hx]
     exact ⟨.inr rfl, hk⟩
   have hw : ∀ x, (P x ∨ x = r) → hasE (ofL V x.room) x.event = false → x ∈ s.p.l ++ [r] := fun x hx hxk => by
    rcases hx with hx | rfl
    ·exact List.mem_append_left _ (h.wait x hx hxk)
    ·exact List.mem_append_right _ List.mem_cons_self
   exact ⟨h.ord, h.row, best_same h.best hS, hi, hw, h.lost, h.most, by simp only [List.length_append, List.length_cons, List.length_nil]; omega⟩
 ·have hk : hasE (ofL V r.room) r.event = true := by
   cases hc : hasE (ofL V r.room) r.event
   ·exact absurd (fit_known.2 hc) h4
   ·rfl
  have hwait : ∀ x, (P x ∨ x = r) → hasE (ofL V x.room) x.event = false → x ∈ s.p.l := fun x hx hxk => by
   rcases hx with hx | rfl
   ·exact h.wait x hx hxk
   ·rw [hk] at hxk; cases hxk
  have hin : ∀ x ∈ s.p.l, (P x ∨ x = r) ∧ hasE (ofL V x.room) x.event = false := fun x hx => ⟨.inl (h.inP x hx).1, (h.inP x hx).2⟩
  by_cases h0 : fitV V r = 0
  ·rw [(Ms.put_in hm h0).1]
   have h1 := put_leM s.l (markE V r)
   refine ⟨h.ord, row_putM h.row, best_same (best_put h.row h.best) (fun m => ?_), hin, hwait, h.lost, h.most, by simp only; omega⟩
   constructor
   ·rintro (⟨x, a, b⟩ | rfl)
    ·exact ⟨x, .inl a, b⟩
    ·exact ⟨r, .inr rfl, hk, (fit_all hE h.ord hk).symm.trans h0, mark_all hE h.ord hk⟩
   ·rintro ⟨x, a, b, c, d⟩
    rcases a with a | rfl
    ·exact .inl ⟨x, a, b, c, d⟩
    ·exact .inr (d.trans (mark_all hE h.ord hk).symm)
  ·rw [(Ms.put_odd hm h4 h0).1]
   refine ⟨h.ord, h.row, best_same h.best (fun m => ⟨fun ⟨x, a, b⟩ => ⟨x, .inl a, b⟩, fun ⟨x, a, b, c, d⟩ => ?_⟩), hin, hwait, h.lost, h.most, by omega⟩
   rcases a with a | rfl
   ·exact ⟨x, a, b, c, d⟩
   ·exact absurd ((fit_all hE h.ord hk).trans c) h0
theorem took_left (p : Pk) (room id : ByteArray) : (p.took room id).length + (p.take room id).l.length = p.l.length := by
 unfold Pk.took Pk.take
 simp only
 induction p.l with
 | nil => rfl
 | cons x l ih =>
  cases hb : isOf room id x <;> simp [List.filter_cons, hb] <;> omega
theorem OrdM.ev (hE : AllOk E) (h : OrdM E V s P n) (he : e ∈ E) (h0 : errV V e = 0) : OrdM E (addV V e) (s.arr (addV V e) e.room e.id).1 P n := by
 have ho := h.ord.add he
 have hka : hasE (ofL (addV V e) e.room) e.id = true := (known_add h.ord h0).2 (.inr ⟨rfl, rfl⟩)
 have hN : ∀ {room id : ByteArray}, hasE (ofL (addV V e) room) id = false → hasE (ofL V room) id = false ∧ ¬ (room = e.room ∧ id = e.id) := fun {room id} hf => by
  refine ⟨?_, fun hh => ?_⟩
  ·cases hc : hasE (ofL V room) id
   ·rfl
   ·rw [(known_add h.ord h0).2 (.inl hc)] at hf; cases hf
  ·rw [(known_add h.ord h0).2 (.inr hh)] at hf; cases hf
 rw [Ms.arr_yes hka]
 unfold arrF
 have hlen := h.len
 have htl := took_left s.p e.room e.id
 have htab := arrF_tab (addV V e) (s.p.took e.room e.id) (⟨s.l, s.p.take e.room e.id⟩, [])
 obtain ⟨hpk, hl1, -⟩ := arrF_len (addV V e) (s.p.took e.room e.id) (⟨s.l, s.p.take e.room e.id⟩, [])
 generalize List.foldl (arrS (addV V e)) _ _ = q at htab hpk hl1 ⊢
 simp only at htab hpk hl1
 refine ⟨ho, by rw [htab]; exact row_foldM h.row, ?_, fun x hx => ?_, fun x hx hxk => ?_, by rw [hpk]; exact h.lost, by rw [hpk]; exact h.most, by rw [hpk]; omega⟩
 ·rw [htab]
  refine best_same (best_fold h.row h.best) (fun m => ?_)
  constructor
  ·rintro (⟨x, a, b, c⟩ | hm)
   ·exact ⟨x, a, (known_add h.ord h0).2 (.inl b), c⟩
   ·obtain ⟨x, hx, rfl⟩ := List.mem_map.1 hm
    rw [List.mem_filter, decide_eq_true_eq, mem_took] at hx
    obtain ⟨⟨hxl, hxr, hxe⟩, hf⟩ := hx
    have hkx : hasE (ofL (addV V e) x.room) x.event = true := (known_add h.ord h0).2 (.inr ⟨hxr, hxe⟩)
    exact ⟨x, (h.inP x hxl).1, hkx, (fit_all hE ho hkx).symm.trans hf, mark_all hE ho hkx⟩
  ·rintro ⟨x, a, b, c, rfl⟩
   rcases (known_add h.ord h0).1 b with hb | hb
   ·exact .inl ⟨x, a, hb, c, rfl⟩
   ·cases hc : hasE (ofL V x.room) x.event
    ·refine .inr (List.mem_map.2 ⟨x, ?_, mark_all hE ho b⟩)
     rw [List.mem_filter, decide_eq_true_eq, mem_took]
     exact ⟨⟨h.wait x a hc, hb⟩, (fit_all hE ho b).trans c⟩
    ·exact .inl ⟨x, a, hc, c, rfl⟩
 ·rw [hpk, mem_left] at hx
  refine ⟨(h.inP x hx.1).1, ?_⟩
  cases hc : hasE (ofL (addV V e) x.room) x.event
  ·rfl
  ·rcases (known_add h.ord h0).1 hc with hb | hb
   ·rw [(h.inP x hx.1).2] at hb; cases hb
   ·exact absurd hb hx.2
 ·rw [hpk, mem_left]
  exact ⟨h.wait x hx (hN hxk).1, (hN hxk).2⟩
theorem OrdM.done (hE : AllOk E) (h : OrdM E V s P n) (hP : ∀ r, P r ↔ r ∈ R) (hin : ∀ x ∈ E, x ∈ ofL V x.room) : s.l = foldE (foldV E) R := by
 have hk : ∀ r : Edu, fitV (foldV E) r = 0 → hasE (ofL V r.room) r.event = true := fun r hf => by
  have hW : hasE (ofL (foldV E) r.room) r.event = true := by
   cases hc : hasE (ofL (foldV E) r.room) r.event
   ·rw [fit_known.2 hc] at hf; cases hf
   ·rfl
  obtain ⟨x, hx, hi⟩ := has_iff.1 hW
  obtain ⟨hxE, hxr⟩ := (mem_all hE).1 hx
  exact has_iff.2 ⟨x, hxr ▸ hin x hxE, hi⟩
 unfold foldE
 refine rowM_ext h.row (row_foldM row_nilM) (best_unique h.best (best_fold row_nilM best_nil) (fun m => ?_))
 rw [List.mem_map]
 constructor
 ·rintro ⟨x, a, b, c, rfl⟩
  exact .inr ⟨x, List.mem_filter.2 ⟨(hP x).1 a, decide_eq_true c⟩, rfl⟩
 ·rintro (hf | ⟨x, hx, rfl⟩)
  ·exact hf.elim
  ·obtain ⟨h1, h2⟩ := List.mem_filter.1 hx
   have h2 := of_decide_eq_true h2
   exact ⟨x, (hP x).2 h1, hk x h2, h2, rfl⟩
end
end Go.Proofs.YtnnapkakbdpkaaaGreat

namespace Go.Proofs.YtnnapkakbdpkaaaGreat
set_option maxRecDepth 20000
open Go.RowKit
section
variable {C : Dags} {w w' wr : World} {ts ms : List Th} {t : Th} {vl vc vc' vp vp' : Value} {l lc lc' : List Mk} {p p' : Pk} {vs : List VI}
theorem Km.with (h : Km C w wr [] ms ts) (hI : t.I wr) (hne : ∀ m ∈ ms, ∀ k, m.P k → ¬ t.P k) : Km C w wr [] ms (t :: ts) := by
 refine ⟨(h.kv.with (t := t) hI (fun k hk j u hu => by simp at hu)).less (fun u hu => ?_), h.lo, h.dj, fun m hm u hu k hmk huk => ?_⟩
 ·rcases List.mem_append.1 hu with hu | hu
  ·exact List.mem_cons_of_mem _ (List.mem_append_left _ hu)
  ·rcases List.mem_cons.1 hu with rfl | hu
   ·exact List.mem_cons_self
   ·exact List.mem_cons_of_mem _ (List.mem_append_right _ hu)
 ·rcases List.mem_cons.1 hu with rfl | hu
  ·exact hne m hm k hmk huk
  ·exact h.dt m hm u hu k hmk huk
def TabT (w : World) (vl : Value) (l : List Mk) (ts : List Th) (vc : Value) (lc : List Mk) : Prop := (vc = vl ∧ lc = l) ∨ ∃ B, w.heap.size ≤ B ∧ Th.mine LM B vc lc ∈ ts
def PrkT (w : World) (ts : List Th) (vp : Value) (pl : List Edu) : Prop := ∃ B, w.heap.size ≤ B ∧ Th.mine LE B vp pl ∈ ts
theorem TabT.more {ts' : List Th} (h : TabT w vl l ts vc lc) (hs : ∀ t ∈ ts, t ∈ ts') : TabT w vl l ts' vc lc := by
 rcases h with h | ⟨B, h1, h2⟩
 ·exact .inl h
 ·exact .inr ⟨B, h1, hs _ h2⟩
theorem PrkT.more {ts' : List Th} {pl : List Edu} (h : PrkT w ts vp pl) (hs : ∀ t ∈ ts, t ∈ ts') : PrkT w ts' vp pl := by
 obtain ⟨B, h1, h2⟩ := h
 exact ⟨B, h1, hs _ h2⟩
theorem TabT.slice (h : TabT w vl l ts vc lc) (hk : Km C w wr vs ms ts) (hr : Th.row LM vl l ∈ ts) : LM.Slice wr vc lc := by
 rcases h with ⟨rfl, rfl⟩ | ⟨B, h1, h2⟩
 ·exact hk.isT hr
 ·exact (show LM.Mine wr B vc lc from hk.isT h2).slice
theorem PrkT.slice {pl : List Edu} (h : PrkT w ts vp pl) (hk : Km C w wr vs ms ts) : LE.Slice wr vp pl := by
 obtain ⟨B, h1, h2⟩ := h
 exact (show LE.Mine wr B vp pl from hk.isT h2).slice
end
theorem Lies.Slice.one {α : Type} {L : Lies α} {w : World} {v : Value} {xs : List α} (h : L.Slice w v xs) : v.oneCell' = true := by
 obtain ⟨A, cap, rfl, -⟩ := h
 rfl
def Th.sb (g : Nat) (v : Value) (p : Pk) (vp : Value) : Th := Th.box g (.cells #[v, .int .i64 (p.most : Int), vp, .int .i64 (p.lost : Int)] 36 (0, 0))
end Go.Proofs.YtnnapkakbdpkaaaGreat
