/-
  Events of a room: which may be, where one stands among others, what comes of one that is added. Plain facts.
-/
import Derived.Test.YtjiecjpepiknmaaGreatWD
import Derived.Sort.Walk0
namespace Go.Proofs.YtjiecjpepiknmaaGreat
set_option maxRecDepth 20000
set_option linter.unusedVariables false
set_option linter.unusedSimpArgs false

structure Ev where
  id : ByteArray
  room : ByteArray
  parents : List ByteArray
  thread : ByteArray
  user : ByteArray
  does : Int
theorem key_eq (a b : ByteArray) : a = b ↔ a.data.toList = b.data.toList := by
  constructor
  · rintro rfl; rfl
  · intro h
    cases a; cases b
    simp only [ByteArray.mk.injEq]
    exact Array.toList_inj.1 h
theorem keyB (a b : ByteArray) : (a.toList == b.toList) = decide (a = b) := by
  rw [Bool.eq_iff_iff, beq_iff_eq, decide_eq_true_iff, ByteArray.toList_eq, ByteArray.toList_eq]
  exact (key_eq a b).symm
theorem key_ext {a b : ByteArray} (h : a.toList = b.toList) : a = b := by
  rw [ByteArray.toList_eq, ByteArray.toList_eq] at h
  exact (key_eq a b).2 h
instance : DecidableEq Ev := fun a b => decidable_of_iff (a.id = b.id ∧ a.room = b.room ∧ a.parents = b.parents ∧ a.thread = b.thread ∧ a.user = b.user ∧ a.does = b.does) (by cases a; cases b; simp)
/-- Its texts and its number are as they can be. -/
def Ev.ok (e : Ev) : Prop := e.id.size ≤ maxLen ∧ e.room.size ≤ maxLen ∧ e.thread.size ≤ maxLen ∧ e.user.size ≤ maxLen ∧ (∀ p ∈ e.parents, p.size ≤ maxLen) ∧ (-9223372036854775808 ≤ e.does ∧ e.does ≤ 9223372036854775807)

/-- The parent at i, among the others, may be. -/
def parB (e : Ev) (i : Nat) : Bool := eventB (e.parents.getD i ⟨#[]⟩) && !decide (e.parents.getD i ⟨#[]⟩ = e.id) && (decide (i = 0) || Op.bytesLess (e.parents.getD (i - 1) ⟨#[]⟩).toList (e.parents.getD i ⟨#[]⟩).toList)
def parTo (e : Ev) (k : Nat) : Bool := (List.range k).all (parB e)
theorem parTo_zero (e : Ev) : parTo e 0 = true := rfl
theorem parTo_succ (e : Ev) (k : Nat) : parTo e (k + 1) = (parTo e k && parB e k) := by simp [parTo, List.range_succ]
theorem parTo_mono {e : Ev} {k n : Nat} (h : parTo e n = true) (hk : k ≤ n) : parTo e k = true := by
  rw [parTo, List.all_eq_true] at *
  exact fun i hi => h i (by rw [List.mem_range] at *; omega)
theorem parTo_stop {e : Ev} {k n : Nat} (hk : k < n) (h : parB e k = false) : parTo e n = false := by
  rw [Bool.eq_false_iff]
  intro hn
  have := (List.all_eq_true.1 hn) k (by rw [List.mem_range]; exact hk)
  rw [h] at this
  cases this
def headB (e : Ev) : Bool := eventB e.id && namedB 33 e.room && namedB 64 e.user && decide (e.parents.length ≤ 4) && decide (0 ≤ e.does) && decide (e.does ≤ 2)
def thrB (e : Ev) : Bool := decide (e.thread = ⟨#[]⟩) || (eventB e.thread && !decide (e.thread = e.id) && decide (e.does = 0))
def mayE (e : Ev) : Bool := headB e && thrB e && parTo e e.parents.length

/-- Where an event stands. -/
def idx (l : List Ev) (id : ByteArray) : Option Nat := l.findIdx? (fun e => decide (e.id = id))
def idxI (l : List Ev) (id : ByteArray) : Int := match idx l id with | some i => (i : Int) | none => -1
def hasE (l : List Ev) (id : ByteArray) : Bool := (idx l id).isSome
theorem idx_hit {l : List Ev} {id : ByteArray} {i : Nat} {x : Ev} (hx : l[i]? = some x) (hk : x.id = id) (hn : ∀ (j : Nat) y, j < i → l[j]? = some y → y.id ≠ id) : idx l id = some i := by
  have hi := (List.getElem?_eq_some_iff.1 hx)
  obtain ⟨hi, he⟩ := hi
  rw [idx, List.findIdx?_eq_some_iff_getElem]
  refine ⟨hi, by rw [he]; exact decide_eq_true hk, fun j hj => ?_⟩
  simp only [decide_eq_true_eq]
  exact hn j _ hj (List.getElem?_eq_getElem _)
theorem idx_miss {l : List Ev} {id : ByteArray} (hn : ∀ (j : Nat) y, l[j]? = some y → y.id ≠ id) : idx l id = none := by
  rw [idx, List.findIdx?_eq_none_iff]
  intro x hx
  obtain ⟨j, hj, he⟩ := List.getElem_of_mem hx
  exact decide_eq_false (hn j x (by rw [List.getElem?_eq_getElem hj, he]))
theorem idx_some {l : List Ev} {id : ByteArray} {i : Nat} (h : idx l id = some i) : ∃ x, l[i]? = some x ∧ x.id = id ∧ ∀ (j : Nat) y, j < i → l[j]? = some y → y.id ≠ id := by
  rw [idx, List.findIdx?_eq_some_iff_getElem] at h
  obtain ⟨hi, he, hn⟩ := h
  refine ⟨l[i], List.getElem?_eq_getElem hi, of_decide_eq_true he, fun j y hj hy => ?_⟩
  obtain ⟨hj', hy'⟩ := List.getElem?_eq_some_iff.1 hy
  have := hn j hj
  rw [hy'] at this
  simpa using this
theorem idx_lt {l : List Ev} {id : ByteArray} {i : Nat} (h : idx l id = some i) : i < l.length := by
  obtain ⟨x, hx, _⟩ := idx_some h
  exact (List.getElem?_eq_some_iff.1 hx).1
theorem has_iff {l : List Ev} {id : ByteArray} : hasE l id = true ↔ ∃ x ∈ l, x.id = id := by
  unfold hasE
  constructor
  · intro h
    obtain ⟨i, hi⟩ := Option.isSome_iff_exists.1 h
    obtain ⟨x, hx, he, _⟩ := idx_some hi
    exact ⟨x, List.mem_of_getElem? hx, he⟩
  · rintro ⟨x, hx, he⟩
    cases h : idx l id with
    | some i => rfl
    | none =>
      rw [idx, List.findIdx?_eq_none_iff] at h
      have := h x hx
      simp [he] at this

/-- What comes of an event that is added: the error's number. -/
def errA (room : ByteArray) (l : List Ev) (e : Ev) : Int :=
  if (mayE e && decide (e.room = room)) = false then 1
  else if hasE l e.id then 9
  else if e.parents.all (hasE l) = false then 4
  else if e.thread = ⟨#[]⟩ then 0
  else match idx l e.thread with
    | none => 4
    | some k => match l[k]? with
      | none => 4
      | some t => if t.thread = ⟨#[]⟩ ∧ t.does = 0 then 0 else 7
def addA (room : ByteArray) (l : List Ev) (e : Ev) : List Ev := if errA room l e = 0 then l ++ [e] else l
end Go.Proofs.YtjiecjpepiknmaaGreat
