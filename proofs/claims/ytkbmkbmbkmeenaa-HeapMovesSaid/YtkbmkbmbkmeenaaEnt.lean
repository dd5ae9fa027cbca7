/-
  Entries: a key and a tick. Lists of entries in their row: what is put, dropped, asked for, due. Plain facts; how entries and texts lie in memory.
-/
import Derived.Test.YtkbmkbmbkmeenaaRows
import Derived.Test.YtkbmkbmbkmeenaaSPut
namespace Go.Proofs.Ytkbmkbmbkmeenaa
set_option maxRecDepth 20000
open Go.RowKit
set_option linter.unusedVariables false
set_option linter.unusedSimpArgs false

structure Ent where
  tick : Int
  key : ByteArray
instance : DecidableEq Ent := fun a b => decidable_of_iff (a.tick = b.tick ∧ a.key = b.key) (by cases a; cases b; simp)
/-- Its text and its number are as they can be. -/
def Ent.ok (x : Ent) : Prop := x.key.size ≤ 281474976710656 ∧ -9223372036854775808 ≤ x.tick ∧ x.tick ≤ 9223372036854775807
theorem byteArray_eq_iff (a b : ByteArray) : a = b ↔ a.data.toList = b.data.toList := by
  constructor
  · rintro rfl; rfl
  · intro h
    cases a; cases b
    simp only [ByteArray.mk.injEq]
    exact Array.toList_inj.1 h
/-- In their row: by tick, then by key. -/
def beforeB (x y : Ent) : Bool := decide (x.tick < y.tick) || (decide (x.tick = y.tick) && Op.bytesLess x.key.toList y.key.toList)
/-- Without the entry of a key; whether there is one; its tick. -/
def dropL (k : ByteArray) : List Ent → List Ent
  | [] => []
  | x :: r => if x.key = k then r else x :: dropL k r
def hasL (k : ByteArray) : List Ent → Bool
  | [] => false
  | x :: r => if x.key = k then true else hasL k r
def tickL (k : ByteArray) : List Ent → Int
  | [] => 0
  | x :: r => if x.key = k then x.tick else tickL k r
/-- An entry, put where it belongs; put, whatever its key had. -/
def insL (x : Ent) : List Ent → List Ent
  | [] => [x]
  | y :: r => bif beforeB y x then y :: insL x r else x :: y :: r
def putL (x : Ent) (l : List Ent) : List Ent := insL x (dropL x.key l)
/-- What is due, and what is left. -/
def dueL (t : Int) : List Ent → List Ent
  | [] => []
  | x :: r => if x.tick ≤ t then x :: dueL t r else []
def leftL (t : Int) : List Ent → List Ent
  | [] => []
  | x :: r => if x.tick ≤ t then leftL t r else x :: r

theorem drop_miss {k : ByteArray} : ∀ {l : List Ent}, (∀ (i : Nat) x, l[i]? = some x → x.key ≠ k) → dropL k l = l ∧ hasL k l = false ∧ tickL k l = 0
  | [], _ => ⟨rfl, rfl, rfl⟩
  | x :: r, h => by
    have h0 : x.key ≠ k := h 0 x rfl
    obtain ⟨h1, h2, h3⟩ := drop_miss (l := r) (fun i y hy => h (i + 1) y hy)
    simp only [dropL, hasL, tickL, if_neg h0]
    exact ⟨by rw [h1], h2, h3⟩
theorem drop_hit {k : ByteArray} : ∀ {l : List Ent} {i : Nat} {x : Ent}, (∀ (j : Nat) y, j < i → l[j]? = some y → y.key ≠ k) → l[i]? = some x → x.key = k → dropL k l = l.take i ++ l.drop (i + 1) ∧ hasL k l = true ∧ tickL k l = x.tick
  | [], i, x, _, hx, _ => by simp at hx
  | y :: r, 0, x, _, hx, hk => by
    simp only [List.getElem?_cons_zero, Option.some.injEq] at hx
    subst hx
    simp [dropL, hasL, tickL, hk]
  | y :: r, i + 1, x, h, hx, hk => by
    have h0 : y.key ≠ k := h 0 y (by omega) rfl
    rw [List.getElem?_cons_succ] at hx
    obtain ⟨h1, h2, h3⟩ := drop_hit (fun j z hj hz => h (j + 1) z (by omega) hz) hx hk
    simp only [dropL, hasL, tickL, if_neg h0]
    exact ⟨by rw [h1]; simp, h2, h3⟩
theorem drop_sub {k : ByteArray} : ∀ {l : List Ent} {x : Ent}, x ∈ dropL k l → x ∈ l
  | [], x, h => h
  | y :: r, x, h => by
    unfold dropL at h
    split at h
    · exact List.mem_cons_of_mem _ h
    · rcases List.mem_cons.1 h with rfl | h
      · exact List.mem_cons_self
      · exact List.mem_cons_of_mem _ (drop_sub h)
theorem drop_len (k : ByteArray) : ∀ l : List Ent, (dropL k l).length ≤ l.length
  | [] => Nat.le_refl _
  | y :: r => by
    unfold dropL
    have := drop_len k r
    split <;> simp <;> omega
theorem ins_at {x : Ent} : ∀ {l : List Ent} {i : Nat}, (∀ (j : Nat) y, j < i → l[j]? = some y → beforeB y x = true) → i ≤ l.length → (∀ y, l[i]? = some y → beforeB y x = false) → insL x l = l.take i ++ (x :: l.drop i)
  | [], i, _, hi, _ => by
    obtain rfl : i = 0 := by simpa using hi
    rfl
  | y :: r, 0, _, _, h => by
    unfold insL
    rw [h y rfl]
    rfl
  | y :: r, i + 1, h, hi, hs => by
    unfold insL
    rw [h 0 y (by omega) rfl, cond_true, ins_at (l := r) (i := i) (fun j z hj hz => h (j + 1) z (by omega) hz) (by simpa using hi) (fun z hz => hs z hz)]
    rfl
theorem ins_mem {x y : Ent} : ∀ {l : List Ent}, y ∈ insL x l → y = x ∨ y ∈ l
  | [], h => by simpa [insL] using h
  | z :: r, h => by
    unfold insL at h
    cases hb : beforeB z x
    · rw [hb, cond_false] at h
      rcases List.mem_cons.1 h with h | h
      · exact .inl h
      · exact .inr h
    · rw [hb, cond_true] at h
      rcases List.mem_cons.1 h with h | h
      · exact .inr (by rw [h]; exact List.mem_cons_self)
      · rcases ins_mem h with h | h
        · exact .inl h
        · exact .inr (List.mem_cons_of_mem _ h)
theorem ins_len (x : Ent) : ∀ l : List Ent, (insL x l).length = l.length + 1
  | [] => rfl
  | y :: r => by
    unfold insL
    cases beforeB y x
    · rfl
    · simp [ins_len x r]
theorem put_len (x : Ent) (l : List Ent) : (putL x l).length ≤ l.length + 1 := by
  unfold putL
  rw [ins_len]
  have := drop_len x.key l
  omega
theorem put_mem {x y : Ent} {l : List Ent} (h : y ∈ putL x l) : y = x ∨ y ∈ l := by
  rcases ins_mem h with h | h
  · exact .inl h
  · exact .inr (drop_sub h)
theorem due_split (t : Int) : ∀ l : List Ent, dueL t l ++ leftL t l = l
  | [] => rfl
  | x :: r => by
    unfold dueL leftL
    split
    · rw [List.cons_append, due_split t r]
    · rfl
theorem due_step {t : Int} {x : Ent} {r : List Ent} (h : x.tick ≤ t) : dueL t (x :: r) = x :: dueL t r ∧ leftL t (x :: r) = leftL t r := by simp [dueL, leftL, h]
theorem due_end {t : Int} {l : List Ent} (h : ∀ x, l[0]? = some x → ¬ x.tick ≤ t) : dueL t l = [] ∧ leftL t l = l := by
  cases l with
  | nil => exact ⟨rfl, rfl⟩
  | cons x r => simp [dueL, leftL, h x rfl]

/-- How the document's entries lie. -/
def LE : Lies Ent := ⟨44, 2, fun x => [.int .i64 x.tick, .string x.key], fun _ => rfl, fun x u hu => by
  simp only [List.mem_cons, List.not_mem_nil, or_false] at hu
  rcases hu with rfl | rfl <;> rfl⟩
/-- How the code's entries lie. -/
def LC : Lies Ent := ⟨45, 2, fun x => [.int .i64 x.tick, .string x.key], fun _ => rfl, fun x u hu => by
  simp only [List.mem_cons, List.not_mem_nil, or_false] at hu
  rcases hu with rfl | rfl <;> rfl⟩
/-- How texts lie. -/
def LT : Lies ByteArray := ⟨9, 1, fun x => [.string x], fun _ => rfl, fun x u hu => by
  simp only [List.mem_cons, List.not_mem_nil, or_false] at hu
  subst hu; rfl⟩
theorem knE : Kn Try.prog LE 26 (.agg #[.int .i64 0, .string ⟨#[]⟩]) 24 := ⟨Try.underlying26, by kernel_rfl, rfl, by decide⟩
theorem knC : Kn Try.prog LC 37 (.agg #[.int .i64 0, .string ⟨#[]⟩]) 24 := ⟨Try.underlying37, by kernel_rfl, rfl, by decide⟩
theorem knT : Kn Try.prog LT 32 (.string ⟨#[]⟩) 16 := ⟨Try.underlying32, by kernel_rfl, rfl, by decide⟩
/-- An entry's two cells. -/
theorem range2 {w : World} {b o : Nat} {x : Ent} (h : w.rangeAt b o [.int .i64 x.tick, .string x.key]) : w.cell? ⟨b, o, none⟩ = some (.int .i64 x.tick) ∧ w.cell? ⟨b, o + 1, none⟩ = some (.string x.key) := ⟨h 0 _ rfl, h 1 _ rfl⟩
end Go.Proofs.Ytkbmkbmbkmeenaa
