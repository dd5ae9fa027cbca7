/-
  Events of one list, in whatever order they come: which are taken, and that all are in the end.
-/
import Derived.Test.YtflgpdkdflhhgaaGreatLike
namespace Go.Proofs.YtflgpdkdflhhgaaGreat
set_option linter.unusedVariables false
set_option linter.unusedSimpArgs false

/-- A dag of some of a list's events. -/
structure PartL (room : ByteArray) (L l : List Ev) : Prop where
  val : Valid room l
  sub : ∀ e ∈ l, e ∈ L
section
variable {room : ByteArray} {L l : List Ev} {e : Ev}
theorem addA_sub (room : ByteArray) (l : List Ev) (e x : Ev) (h : x ∈ l) : x ∈ addA room l e := by
  unfold addA
  split
  · exact List.mem_append.2 (.inl h)
  · exact h
theorem addA_len (room : ByteArray) (l : List Ev) (e : Ev) : (addA room l e).length ≤ l.length + 1 := by
  unfold addA
  split
  · simp
  · omega
theorem PartL.nil (room : ByteArray) (L : List Ev) : PartL room L [] := ⟨valid_nil room, fun e h => by simp at h⟩
theorem PartL.add (h : PartL room L l) (he : e ∈ L) : PartL room L (addA room l e) := by
  refine ⟨valid_add h.val, fun x hx => ?_⟩
  unfold addA at hx
  split at hx
  · rcases List.mem_append.1 hx with hx | hx
    · exact h.sub x hx
    · rw [List.mem_singleton.1 hx]; exact he
  · exact h.sub x hx
theorem err_part (hm : mayE e = true) (hr : e.room = room) : errA room l e = if hasE l e.id then 9 else if e.parents.all (hasE l) = false then 4 else if e.thread = ⟨#[]⟩ then 0 else match idx l e.thread with
    | none => 4
    | some k => match l[k]? with
      | none => 4
      | some t => if t.thread = ⟨#[]⟩ ∧ t.does = 0 then 0 else 7 := by
  unfold errA
  rw [if_neg (by simp [hm, hr])]
  rfl
theorem PartL.err (hL : Valid room L) (h : PartL room L l) (he : e ∈ L) : errA room l e = 0 ∨ errA room l e = 4 ∨ errA room l e = 9 := by
  obtain ⟨i, hi⟩ := List.getElem?_of_mem he
  obtain ⟨hm, hr, hh, hp, ht⟩ := err_zero (hL i e hi)
  rw [err_part hm hr]
  split
  · exact .inr (.inr rfl)
  split
  · exact .inr (.inl rfl)
  split
  · exact .inl rfl
  next ht0 =>
  rcases ht with ht | ⟨t, htm, hti, ht1, ht2⟩
  · exact absurd ht ht0
  cases hx : idx l e.thread with
  | none => exact .inr (.inl rfl)
  | some k =>
    obtain ⟨x, hxk, hxi, -⟩ := idx_some hx
    have hxt : x = t := valid_ids hL (h.sub x (List.mem_of_getElem? hxk)) (List.mem_of_mem_take htm) (hxi.trans hti.symm)
    simp only [hxk]
    rw [hxt, if_pos ⟨ht1, ht2⟩]
    exact .inl rfl
theorem PartL.turn (hL : Valid room L) (h : PartL room L l) {r : Nat} (he : L[r]? = some e) (hp : ∀ x ∈ L.take r, x ∈ l) : e ∈ addA room l e := by
  have hem : e ∈ L := List.mem_of_getElem? he
  obtain ⟨hm, hr, hh, hpar, ht⟩ := err_zero (hL r e he)
  by_cases hhas : hasE l e.id = true
  · obtain ⟨x, hx, hxi⟩ := has_iff.1 hhas
    have hxe : x = e := valid_ids hL (h.sub x hx) hem hxi
    exact addA_sub room l e e (hxe ▸ hx)
  have h0 : errA room l e = 0 := by
    rw [err_part hm hr, if_neg (by simpa using hhas), if_neg (by
      have ha : e.parents.all (hasE l) = true := List.all_eq_true.2 (fun p hpp => by
        obtain ⟨x, hx, hxi⟩ := has_iff.1 (hpar p hpp)
        exact has_iff.2 ⟨x, hp x hx, hxi⟩)
      simp [ha])]
    split
    · rfl
    next ht0 =>
    rcases ht with ht | ⟨t, htm, hti, ht1, ht2⟩
    · exact absurd ht ht0
    obtain ⟨j, hj⟩ := List.getElem?_of_mem (hp t htm)
    have hx := valid_idx h.val hj
    rw [hti] at hx
    simp only [hx, hj]
    rw [if_pos ⟨ht1, ht2⟩]
  unfold addA
  rw [if_pos h0]
  exact List.mem_append.2 (.inr (List.mem_singleton.2 rfl))
theorem PartL.alike (hL : Valid room L) (h : PartL room L l) (hp : ∀ x ∈ L, x ∈ l) : Alike l L := by
  have hm : ∀ e, e ∈ l ↔ e ∈ L := fun e => ⟨h.sub e, hp e⟩
  exact ⟨len_same h.val hL hm, allL_same h.val hL hm, headsL_same h.val hL hm, fun k => pos_same h.val hL hm k, hm⟩
end
end Go.Proofs.YtflgpdkdflhhgaaGreat
