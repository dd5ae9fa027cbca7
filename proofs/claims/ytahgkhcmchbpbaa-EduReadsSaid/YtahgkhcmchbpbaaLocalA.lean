/-
  Which EDUs may be local, and which may be, as package edu tells it.
-/
import Derived.Test.YtahgkhcmchbpbaaAsks2
import Derived.Deep.DeepCutAuto
namespace Go.Proofs.Ytahgkhcmchbpbaa
open Go.RowKit
set_option linter.unusedVariables false
set_option linter.unusedSimpArgs false
set_option maxRecDepth 4000

/-- Of an EDU's fields those that its kind names, and whether they are right. -/
def namedA (e : Edu) : Edu :=
  if e.kind = 1 then ⟨0, e.room, e.user, e.event, e.thread, e.priv, false, 0, 0, 0, 0⟩
  else if e.kind = 2 then ⟨0, e.room, e.user, ⟨#[]⟩, ⟨#[]⟩, false, e.on, if e.on then e.span else 0, 0, 0, 0⟩
  else if e.kind = 3 then ⟨0, ⟨#[]⟩, e.user, ⟨#[]⟩, ⟨#[]⟩, false, false, 0, e.state, 0, 0⟩
  else ⟨0, ⟨#[]⟩, ⟨#[]⟩, ⟨#[]⟩, ⟨#[]⟩, false, false, 0, 0, 0, 0⟩
def rightA (e : Edu) : Bool :=
  if e.kind = 1 then namedB 33 e.room && namedB 64 e.user && eventB e.event && threadB e.thread
  else if e.kind = 2 then namedB 33 e.room && namedB 64 e.user && (!e.on || decide (1 ≤ e.span ∧ e.span ≤ 60))
  else if e.kind = 3 then namedB 64 e.user && decide (0 ≤ e.state ∧ e.state ≤ 2)
  else false
/-- Are two the same, field by field? -/
def eqE (a b : Edu) : Bool := (a.kind == b.kind) && ((a.room.toList == b.room.toList) && ((a.user.toList == b.user.toList) && ((a.event.toList == b.event.toList) && ((a.thread.toList == b.thread.toList) && ((a.priv == b.priv) && ((a.on == b.on) && ((a.span == b.span) && ((a.state == b.state) && ((a.tick == b.tick) && (a.stamp == b.stamp))))))))))
theorem toList_iff (a b : ByteArray) : a.toList = b.toList ↔ a = b := by
  constructor
  · intro h
    rw [ByteArray.toList_eq, ByteArray.toList_eq] at h
    obtain ⟨⟨x⟩⟩ := a
    obtain ⟨⟨y⟩⟩ := b
    simp at h
    rw [h]
  · rintro rfl
    rfl
theorem eqE_iff (a b : Edu) : eqE a b = true ↔ a = b := by
  unfold eqE
  obtain ⟨k, r, u, v, t, p, o, s, z, c, m⟩ := a
  obtain ⟨k', r', u', v', t', p', o', s', z', c', m'⟩ := b
  simp only [Bool.and_eq_true, beq_iff_eq, toList_iff, Edu.mk.injEq]
theorem size_zero {a : ByteArray} : a.size = 0 ↔ a = ⟨#[]⟩ := by
  constructor
  · intro h
    obtain ⟨⟨x⟩⟩ := a
    cases x with
    | nil => rfl
    | cons y l => cases h
  · rintro rfl
    rfl
/-- May it be local? As the code tells it. -/
theorem local_eq (e : Edu) : localB e = (rightA e && (eqE e { namedA e with kind := e.kind, tick := e.tick, stamp := e.stamp } && (decide (0 ≤ e.tick ∧ e.tick ≤ 1099511627776) && decide (0 ≤ e.stamp ∧ e.stamp ≤ 1099511627776)))) := by
  rw [Bool.eq_iff_iff]
  simp only [Bool.and_eq_true, eqE_iff]
  obtain ⟨k, r, u, v, t, p, o, s, z, c, m⟩ := e
  simp only [localB, stampsB, kindB, rightA, namedA, Bool.and_eq_true, decide_eq_true_iff]
  by_cases h1 : k = 1
  · subst h1
    simp [size_zero]
    cases o <;> simp
    all_goals (constructor <;> (intro h; simp_all; try rfl))
  · by_cases h2 : k = 2
    · subst h2
      simp [size_zero]
      cases o <;> simp
      all_goals (constructor <;> (intro h; simp_all; try rfl))
    · by_cases h3 : k = 3
      · subst h3
        simp [size_zero]
        cases o <;> simp
        all_goals (constructor <;> (intro h; simp_all; try rfl))
      · simp [h1, h2, h3]
end Go.Proofs.Ytahgkhcmchbpbaa
