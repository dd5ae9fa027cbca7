/-
  What the statements stand on, part ZO2.
-/
import Derived.Test.YtnnapkakbdpkaaaGreatZA29
import Derived.Test.YtnnapkakbdpkaaaGreatZA30
set_option linter.unusedVariables false
set_option linter.unusedSimpArgs false
namespace Go.Proofs.YtnnapkakbdpkaaaGreat
set_option maxRecDepth 20000
open Go.RowKit
section
variable {E : List Ev} {R : List Edu} {V : Vw} {s : Ms} {P : Edu → Prop} {n : Nat} {e : Ev} {r : Edu}
def stepO (E : List Ev) (R : List Edu) (q : Vw × Ms) (i : Nat) : Vw × Ms := match E[i]? with
 | some e => (addV q.1 e, bif decide (errV q.1 e = 0) then (q.2.arr (addV q.1 e) e.room e.id).1 else q.2)
 | none => match R[i - E.length]? with
  | some r => (q.1, q.2.put q.1 r)
  | none => q
def runO (E : List Ev) (R : List Edu) (is : List Nat) : Vw × Ms := is.foldl (stepO E R) ([], ⟨[], ⟨1000, [], 0⟩⟩)
theorem runO_next {is : List Nat} {a i : Nat} (h : is[a]? = some i) : runO E R (is.take (a + 1)) = stepO E R (runO E R (is.take a)) i := by
 unfold runO
 rw [List.take_add_one, h, List.foldl_append]
 rfl
def PutO (E : List Ev) (R : List Edu) (is : List Nat) (x : Edu) : Prop := ∃ j, E.length + j ∈ is ∧ R[j]? = some x
theorem run_ord (hE : AllOk E) (hR : ∀ r ∈ R, mayR r = true) (is : List Nat) (hl : is.length ≤ 1000) : ∀ a, a ≤ is.length → OrdM E (runO E R (is.take a)).1 (runO E R (is.take a)).2 (PutO E R (is.take a)) a := by
 intro a
 induction a with
 | zero => intro _; exact OrdM.start.same (fun x => ⟨fun h => h.elim, fun ⟨j, h, _⟩ => (List.not_mem_nil h).elim⟩) (Nat.le_refl _)
 | succ a ih =>
  intro ha
  have h := ih (by omega)
  have hi : is[a]? = some is[a] := List.getElem?_eq_getElem (by omega)
  generalize is[a] = i at hi
  rw [runO_next hi]
  generalize runO E R (is.take a) = q at h ⊢
  have hpn : ∀ x, PutO E R (is.take (a + 1)) x ↔ PutO E R (is.take a) x ∨ (E.length ≤ i ∧ R[i - E.length]? = some x) := fun x => by
   unfold PutO
   rw [List.take_add_one, hi]
   constructor
   ·rintro ⟨j, hj, hx⟩
    rcases List.mem_append.1 hj with hj | hj
    ·exact .inl ⟨j, hj, hx⟩
    ·have : E.length + j = i := List.mem_singleton.1 hj
     exact .inr ⟨by omega, by rw [show i - E.length = j by omega]; exact hx⟩
   ·rintro (⟨j, hj, hx⟩ | ⟨h1, hx⟩)
    ·exact ⟨j, List.mem_append_left _ hj, hx⟩
    ·exact ⟨i - E.length, List.mem_append_right _ (by rw [show E.length + (i - E.length) = i by omega]; exact List.mem_cons_self), hx⟩
  unfold stepO
  cases hEi : E[i]? with
  | some e =>
   have hil := (List.getElem?_eq_some_iff.1 hEi).1
   have hsame : ∀ x, PutO E R (is.take a) x ↔ PutO E R (is.take (a + 1)) x := fun x => by
    rw [hpn]
    exact ⟨.inl, fun h => h.elim id (fun h => by omega)⟩
   simp only
   by_cases h0 : errV q.1 e = 0
   ·rw [decide_eq_true h0, cond_true]
    exact (h.ev hE (List.mem_of_getElem? hEi) h0).same hsame (by omega)
   ·rw [decide_eq_false h0, cond_false, ofL_same h0]
    exact h.same hsame (by omega)
  | none =>
   have hil := List.getElem?_eq_none_iff.1 hEi
   simp only
   cases hRi : R[i - E.length]? with
   | some r =>
    simp only
    exact (h.put hE (hR r (List.mem_of_getElem? hRi)) (by omega)).same (fun x => by
     rw [hpn]
     refine or_congr Iff.rfl ⟨fun e => ⟨hil, by rw [hRi, e]⟩, fun ⟨_, e⟩ => ?_⟩
     rw [hRi] at e
     injection e with e
     exact e.symm) (Nat.le_refl _)
   | none =>
    simp only
    exact h.same (fun x => by
     rw [hpn, hRi]
     exact ⟨.inl, fun h => h.elim id (fun h => by cases h.2)⟩) (by omega)
theorem step_stays {q : Vw × Ms} (h : OrdV E q.1) {i : Nat} {room : ByteArray} {x : Ev} (hx : x ∈ ofL q.1 room) : x ∈ ofL (stepO E R q i).1 room := by
 unfold stepO
 split
 ·exact h.stays hx
 ·split <;> exact hx
theorem step_ord {q : Vw × Ms} (h : OrdV E q.1) (i : Nat) : OrdV E (stepO E R q i).1 := by
 unfold stepO
 split
 ·next he => exact h.add (List.mem_of_getElem? he)
 ·split <;> exact h
theorem fold_ord : ∀ (is : List Nat) (q : Vw × Ms), OrdV E q.1 → OrdV E (is.foldl (stepO E R) q).1 ∧ ∀ room x, x ∈ ofL q.1 room → x ∈ ofL (is.foldl (stepO E R) q).1 room
 | [], q, h => ⟨h, fun _ _ hx => hx⟩
 | i :: is, q, h => by
  obtain ⟨h1, h2⟩ := fold_ord is (stepO E R q i) (step_ord h i)
  exact ⟨h1, fun room x hx => h2 room x (step_stays h hx)⟩
theorem all_in (hE : AllOk E) {q : Vw × Ms} (h : OrdV E q.1) : ∀ a, a ≤ E.length → ∀ x ∈ E.take a, x ∈ ofL ((List.range a).foldl (stepO E R) q).1 x.room := by
 intro a
 induction a with
 | zero => intro _ x hx; cases hx
 | succ a ih =>
  intro ha x hx
  have hi := ih (by omega)
  have he : E[a]? = some E[a] := List.getElem?_eq_getElem (by omega)
  generalize E[a] = e at he
  rw [List.range_succ, List.foldl_append]
  have ho := (fold_ord (R := R) (List.range a) q h).1
  generalize (List.range a).foldl (stepO E R) q = q' at hi ho ⊢
  rw [List.take_add_one, he] at hx
  rcases List.mem_append.1 hx with hx | hx
  ·exact step_stays ho (hi x hx)
  ·have hxe : x = e := List.mem_singleton.1 hx
   subst hxe
   have hp := ho.part x.room
   have hsplit : E = E.take a ++ (x :: E.drop (a + 1)) := by
    obtain ⟨h1, h2⟩ := List.getElem?_eq_some_iff.1 he
    rw [← h2, List.getElem_cons_drop, List.take_append_drop]
   have hL : inRoom E x.room = inRoom (E.take a) x.room ++ (x :: inRoom (E.drop (a + 1)) x.room) := by
    conv => lhs; rw [hsplit]
    unfold inRoom
    rw [List.filter_append, List.filter_cons_of_pos (by simp)]
   have hk : (inRoom E x.room)[(inRoom (E.take a) x.room).length]? = some x := by
    rw [hL, List.getElem?_append_right (Nat.le_refl _), Nat.sub_self]
    rfl
   have ht := hp.turn (inRoom_valid hE _) hk (fun y hy => by
    rw [hL, List.take_left] at hy
    obtain ⟨h1, h2⟩ := mem_inRoom.1 hy
    exact h2 ▸ hi y h1)
   show x ∈ ofL (stepO E R q' a).1 x.room
   unfold stepO
   rw [he]
   simp only
   by_cases h0 : errV q'.1 x = 0
   ·rw [ofL_addV ho.up h0, if_pos rfl]
    exact List.mem_append_right _ List.mem_cons_self
   ·rw [ofL_same h0]
    unfold addA at ht
    unfold errV at h0
    rw [if_neg h0] at ht
    exact ht
theorem order_all (hE : AllOk E) (hR : ∀ r ∈ R, mayR r = true) (is pre post : List Nat) (his : is = pre ++ List.range (E.length + R.length) ++ post) (hl : is.length ≤ 1000) : (runO E R is).2.l = foldE (foldV E) R ∧ (runO E R is).2.p.lost = 0 := by
 have h := run_ord hE hR is hl is.length (Nat.le_refl _)
 rw [List.take_length] at h
 have hin : ∀ x ∈ E, x ∈ ofL (runO E R is).1 x.room := fun x hx => by
  unfold runO
  rw [his, List.foldl_append, List.foldl_append]
  have h1 := (fold_ord (E := E) (R := R) pre ([], ⟨[], ⟨1000, [], 0⟩⟩) OrdV.nil).1
  generalize pre.foldl (stepO E R) _ = q at h1 ⊢
  have h2 := all_in (R := R) hE h1 E.length (Nat.le_refl _) x (by rw [List.take_length]; exact hx)
  have hr : List.range (E.length + R.length) = List.range E.length ++ (List.range R.length).map (E.length + ·) := List.range_add
  rw [hr, List.foldl_append]
  have h3 := (fold_ord (R := R) (List.range E.length) q h1).1
  obtain ⟨h4, h5⟩ := fold_ord (R := R) ((List.range R.length).map (E.length + ·)) _ h3
  exact (fold_ord (R := R) post _ h4).2 _ _ (h5 _ _ h2)
 refine ⟨h.done hE (fun r => ?_) hin, h.lost⟩
 constructor
 ·rintro ⟨j, -, hj⟩
  exact List.mem_of_getElem? hj
 ·intro hr
  obtain ⟨j, hj⟩ := List.getElem?_of_mem hr
  refine ⟨j, ?_, hj⟩
  rw [his]
  have := (List.getElem?_eq_some_iff.1 hj).1
  exact List.mem_append_left _ (List.mem_append_right _ (List.mem_range.2 (by omega)))
end
end Go.Proofs.YtnnapkakbdpkaaaGreat
