/-
  Memory of lists: things of one kind, each in so many cells, in rows, whatever the program: a row of one's own, a slice of whatever memory, append from whatever source, an element's address, its load and its store, slices of slices.
-/
import Derived.WalkKit
import Derived.WalkSpells
import Derived.Below
import Derived.Lib.Hide
import Derived.OwnWalk
import Derived.Deep.AppendSrc
import Derived.Deep.MidRow
import Derived.Great.BuildSlice
namespace Go.Proofs.Ytimlomflgnnmnaa
set_option maxRecDepth 20000
open Go.RowKit
set_option linter.unusedVariables false
set_option linter.unusedSimpArgs false

/-- How things of a kind lie: their type, how many cells each takes, which. -/
structure Lies (α : Type) where
  e : TypeId
  c : Nat
  cl : α → List Value
  len : ∀ x, (cl x).length = c
  one : ∀ x, ∀ u ∈ cl x, u.oneCell' = true

section
variable {α : Type} (L : Lies α)

/-- The cells of a list. -/
def Lies.vs (xs : List α) : List Value := xs.flatMap L.cl
theorem Lies.vs_nil : L.vs [] = [] := rfl
theorem Lies.vs_cons (x : α) (xs : List α) : L.vs (x :: xs) = L.cl x ++ L.vs xs := by simp [Lies.vs]
theorem Lies.vs_app (a b : List α) : L.vs (a ++ b) = L.vs a ++ L.vs b := by simp [Lies.vs]
theorem Lies.vs_sing (x : α) : L.vs [x] = L.cl x := by simp [Lies.vs]
theorem Lies.vs_len : ∀ xs : List α, (L.vs xs).length = xs.length * L.c
  | [] => by simp [Lies.vs]
  | x :: xs => by rw [L.vs_cons, List.length_append, Lies.vs_len xs, L.len, List.length_cons, Nat.succ_mul]; omega
theorem Lies.vs_one (xs : List α) : ∀ u ∈ L.vs xs, u.oneCell' = true := by
  intro u hu
  obtain ⟨x, _, hx⟩ := List.mem_flatMap.1 hu
  exact L.one x u hx
theorem Lies.vs_get : ∀ {xs : List α} {i : Nat} {x : α} {j : Nat} {u : Value}, xs[i]? = some x → (L.cl x)[j]? = some u → (L.vs xs)[i * L.c + j]? = some u
  | [], i, x, j, u, he, _ => by simp at he
  | y :: xs, 0, x, j, u, he, hu => by
    simp only [List.getElem?_cons_zero, Option.some.injEq] at he
    subst he
    have hj : j < (L.cl y).length := (List.getElem?_eq_some_iff.1 hu).1
    rw [L.vs_cons, Nat.zero_mul, Nat.zero_add, List.getElem?_append_left hj]
    exact hu
  | y :: xs, i + 1, x, j, u, he, hu => by
    rw [List.getElem?_cons_succ] at he
    have ih := Lies.vs_get he hu
    rw [L.vs_cons, Nat.succ_mul, List.getElem?_append_right (by rw [L.len]; omega), L.len, show i * L.c + L.c + j - L.c = i * L.c + j by omega]
    exact ih
theorem Lies.vs_take (xs : List α) (n : Nat) : (L.vs xs).take (n * L.c) = L.vs (xs.take n) := by
  induction xs generalizing n with
  | nil => simp [Lies.vs]
  | cons x xs ih =>
    cases n with
    | zero => simp [Lies.vs]
    | succ n =>
      rw [List.take_succ_cons, L.vs_cons, L.vs_cons, ← ih n, Nat.succ_mul, Nat.add_comm, List.take_append]
      rw [L.len, List.take_of_length_le (by rw [L.len]; omega), show L.c + n * L.c - L.c = n * L.c by omega]
theorem Lies.vs_drop (xs : List α) (n : Nat) : (L.vs xs).drop (n * L.c) = L.vs (xs.drop n) := by
  induction xs generalizing n with
  | nil => simp [Lies.vs]
  | cons x xs ih =>
    cases n with
    | zero => simp
    | succ n =>
      rw [List.drop_succ_cons, L.vs_cons, ← ih n, Nat.succ_mul, Nat.add_comm, List.drop_append]
      rw [L.len, List.drop_of_length_le (by rw [L.len]; omega), show L.c + n * L.c - L.c = n * L.c by omega, List.nil_append]

/-- A slice of whatever memory: its elements. -/
def Lies.Slice (w : World) (v : Value) (xs : List α) : Prop :=
  ∃ A cap, v = .slice A xs.length cap ∧ xs.length ≤ cap ∧ cap ≤ maxLen ∧ (A = none → cap = 0) ∧ (0 < xs.length → ∃ b off, A = some ⟨b, off, none⟩ ∧ b < w.heap.size ∧ w.rangeAt b off (L.vs xs))
/-- A slice of one's own memory, from block B on: all of its room may be written. -/
def Lies.Mine (w : World) (B : Nat) (v : Value) (xs : List α) : Prop :=
  (v = .slice none 0 0 ∧ xs = []) ∨ ∃ g off cap cur, v = .slice (some ⟨g, off, none⟩) xs.length cap ∧ B ≤ g ∧ w.heap[g]? = some (.cells cur L.e (0, 0)) ∧ xs.length ≤ cap ∧ cap ≤ maxLen ∧ off + cap * L.c ≤ cur.size ∧ (cur.toList.drop off).take (xs.length * L.c) = L.vs xs
variable {L}
variable {w w' : World} {B B' : Nat} {v : Value} {xs : List α}

theorem smem_lt {w : World} {g : Nat} {o : Obj} (h : w.heap[g]? = some o) : g < w.heap.size := (Array.getElem?_eq_some_iff.1 h).1
theorem Lies.Slice.nil (w : World) : L.Slice w (.slice none 0 0) [] := ⟨none, 0, rfl, Nat.le_refl _, Nat.zero_le _, fun _ => rfl, fun h => absurd h (Nat.lt_irrefl 0)⟩
theorem Lies.Mine.nil (w : World) (B : Nat) : L.Mine w B (.slice none 0 0) [] := .inl ⟨rfl, rfl⟩
theorem Lies.Slice.len (h : L.Slice w v xs) : xs.length ≤ maxLen := by obtain ⟨A, cap, _, h1, h2, _⟩ := h; omega
theorem Lies.Slice.below (h : L.Slice w v xs) (hb : Below w.heap.size w w') : L.Slice w' v xs := by
  obtain ⟨A, cap, h1, h2, h3, h4, h5⟩ := h
  refine ⟨A, cap, h1, h2, h3, h4, fun h0 => ?_⟩
  obtain ⟨b, off, hA, hl, hr⟩ := h5 h0
  exact ⟨b, off, hA, Nat.lt_of_lt_of_le hl hb.size, fun j u hu => (hb.cell (p := ⟨b, off + j, none⟩) hl).trans (hr j u hu)⟩
/-- What lies below block C stays while only blocks from C on are written. -/
theorem Lies.Slice.under {C : Nat} (h : L.Slice w v xs) (hb : Below C w w') (hv : ∀ k, v.ownBlock = some k → k < C) : L.Slice w' v xs := by
  obtain ⟨A, cap, rfl, h2, h3, h4, h5⟩ := h
  refine ⟨A, cap, rfl, h2, h3, h4, fun h0 => ?_⟩
  obtain ⟨b, off, hA, hl, hr⟩ := h5 h0
  subst hA
  have hC : b < C := hv b rfl
  exact ⟨b, off, rfl, Nat.lt_of_lt_of_le hl hb.size, fun j u hu => (hb.cell (p := ⟨b, off + j, none⟩) hC).trans (hr j u hu)⟩
theorem Lies.Mine.lt (h : L.Mine w B v xs) : ∀ k, v.ownBlock = some k → B ≤ k ∧ k < w.heap.size := by
  intro k hk
  rcases h with ⟨rfl, _⟩ | ⟨g, off, cap, cur, rfl, hg, hh, _⟩
  · cases hk
  · simp only [Value.ownBlock, Option.some.injEq] at hk
    subst hk
    exact ⟨hg, smem_lt hh⟩
theorem Lies.Mine.keep (h : L.Mine w B v xs) (hb : ∀ k, v.ownBlock = some k → w'.heap[k]? = w.heap[k]?) : L.Mine w' B v xs := by
  rcases h with h | ⟨g, off, cap, cur, rfl, hg, hh, h1⟩
  · exact .inl h
  · exact .inr ⟨g, off, cap, cur, rfl, hg, (hb g rfl).trans hh, h1⟩
theorem Lies.Mine.below (h : L.Mine w B v xs) (hb : Below w.heap.size w w') : L.Mine w' B v xs := h.keep fun k hk => hb.block k (h.lt k hk).2
theorem Lies.Mine.grown {row : Option Nat} (h : L.Mine w B v xs) (hg : w.grownBy w' row) (hne : ∀ k, v.ownBlock = some k → some k ≠ row) : L.Mine w' B v xs := h.keep fun k hk => hg.block k (h.lt k hk).2 (hne k hk)
theorem Lies.Mine.mono (h : L.Mine w B v xs) (hb : B' ≤ B) : L.Mine w B' v xs := by
  rcases h with h | ⟨g, off, cap, cur, hv, hg, h1⟩
  · exact .inl h
  · exact .inr ⟨g, off, cap, cur, hv, Nat.le_trans hb hg, h1⟩
theorem Lies.Mine.slice (h : L.Mine w B v xs) : L.Slice w v xs := by
  rcases h with ⟨rfl, rfl⟩ | ⟨g, off, cap, cur, rfl, hg, hh, h1, h2, h3, h4⟩
  · exact Lies.Slice.nil w
  · refine ⟨_, cap, rfl, h1, h2, (fun e => by cases e), fun h0 => ⟨g, off, rfl, smem_lt hh, fun j u hu => ?_⟩⟩
    have hj : j < xs.length * L.c := by rw [← L.vs_len]; exact (List.getElem?_eq_some_iff.1 hu).1
    rw [cell_of_row w g (off + j) cur _ _ hh, ← Array.getElem?_toList]
    rw [← h4, List.getElem?_take, if_pos hj, List.getElem?_drop] at hu
    exact hu
theorem Lies.Mine.shape (h : L.Mine w B v xs) : ∃ A c, v = .slice A xs.length c ∧ xs.length ≤ c ∧ c ≤ maxLen ∧ (A = none → c = 0) := by
  obtain ⟨A, c, h1, h2, h3, h4, _⟩ := h.slice
  exact ⟨A, c, h1, h2, h3, h4⟩
/-- An element: where it lies. -/
theorem Lies.Slice.at {A : Option Addr} {n cap i : Nat} {x : α} (h : L.Slice w (.slice A n cap) xs) (hi : xs[i]? = some x) : ∃ b off, A = some ⟨b, off, none⟩ ∧ b < w.heap.size ∧ w.rangeAt b (off + i * L.c) (L.cl x) := by
  obtain ⟨A', cap', hv, h1, h2, h3, h4⟩ := h
  have hl : i < xs.length := (List.getElem?_eq_some_iff.1 hi).1
  obtain ⟨b, off, hA, hb, hr⟩ := h4 (by omega)
  injection hv with e1 e2 e3
  refine ⟨b, off, e1.trans hA, hb, fun j u hu => ?_⟩
  rw [Nat.add_assoc]
  exact hr _ u (L.vs_get hi hu)
/-- A slice of a slice. -/
theorem Lies.Slice.sub {A : Option Addr} {n cap : Nat} (h : L.Slice w (.slice A n cap) xs) (l k : Nat) (hl : l ≤ k) (hk : k ≤ xs.length) : L.Slice w (sliced A l k cap L.c) ((xs.take k).drop l) := by
  obtain ⟨A', cap', hv, h1, h2, h3, h4⟩ := h
  injection hv with e1 e2 e3
  subst e1 e3
  have hlen : ((xs.take k).drop l).length = k - l := by rw [List.length_drop, List.length_take]; omega
  refine ⟨if cap = l then A else A.map (·.add (l * L.c)), cap - l, by rw [hlen]; rfl, by rw [hlen]; omega, by omega, fun hn => ?_, fun h0 => ?_⟩
  · split at hn
    · have := h3 hn; omega
    · have := h3 (by cases A with | none => rfl | some a => cases hn); omega
  · rw [hlen] at h0
    obtain ⟨b, off, hA, hb, hr⟩ := h4 (by omega)
    subst hA
    rw [if_neg (by omega)]
    refine ⟨b, off + l * L.c, by simp [Addr.add_lit], hb, fun j u hu => ?_⟩
    rw [← L.vs_drop, ← L.vs_take, List.getElem?_drop, List.getElem?_take] at hu
    split at hu
    · rw [Nat.add_assoc]; exact hr _ u hu
    · cases hu
theorem Lies.Mine.sub {A : Option Addr} {n cap : Nat} (h : L.Mine w B (.slice A n cap) xs) (l k : Nat) (hl : l ≤ k) (hk : k ≤ xs.length) : L.Mine w B (sliced A l k cap L.c) ((xs.take k).drop l) := by
  have hlen : ((xs.take k).drop l).length = k - l := by rw [List.length_drop, List.length_take]; omega
  rcases h with ⟨hv, rfl⟩ | ⟨g, off, cap', cur, hv, hg, hh, h1, h2, h3, h4⟩
  · injection hv with e1 e2 e3
    subst e1 e3
    obtain rfl : k = 0 := by simpa using hk
    obtain rfl : l = 0 := by omega
    exact .inl ⟨rfl, by simp⟩
  · injection hv with e1 e2 e3
    subst e1 e3
    by_cases hc : cap = l
    · refine .inr ⟨g, off, cap - l, cur, by rw [hlen]; simp [sliced, hc], hg, hh, by rw [hlen]; omega, by omega, by rw [hc]; simp; omega, ?_⟩
      have h0 : (xs.take k).drop l = [] := by rw [← List.length_eq_zero_iff, hlen]; omega
      rw [h0]; simp [Lies.vs]
    · refine .inr ⟨g, off + l * L.c, cap - l, cur, by rw [hlen]; simp [sliced, hc, Addr.add_lit], hg, hh, by rw [hlen]; omega, by omega, ?_, ?_⟩
      · rw [Nat.add_assoc, ← Nat.add_mul, show l + (cap - l) = cap by omega]; exact h3
      · rw [hlen, ← L.vs_drop, ← L.vs_take, ← h4, List.take_take, Nat.min_eq_left (Nat.mul_le_mul_right _ hk), List.drop_take, List.drop_drop, Nat.sub_mul]
/-- Rows of different types lie in different blocks. -/
theorem Lies.Mine.apart {β : Type} {L' : Lies β} {v' : Value} {ys : List β} (h : L.Mine w B v xs) (h' : L'.Mine w B' v' ys) (ne : L.e ≠ L'.e) : ∀ k, v.ownBlock = some k → some k ≠ v'.ownBlock := by
  intro k hk he
  rcases h with ⟨rfl, _⟩ | ⟨g, off, cap, cur, rfl, _, hh, _⟩
  · cases hk
  rcases h' with ⟨rfl, _⟩ | ⟨g', off', cap', cur', rfl, _, hh', _⟩
  · cases he
  simp only [Value.ownBlock, Option.some.injEq] at hk he
  subst hk
  subst he
  rw [hh] at hh'
  injection hh' with hh'
  injection hh' with _ hh'
  exact ne hh'
end
end Go.Proofs.Ytimlomflgnnmnaa
