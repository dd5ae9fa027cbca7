/-
  Dags that may be: each event behind its parents; depths. Plain facts.
-/
import Derived.Test.YtjiecjpepiknmaaGreatDagSame
namespace Go.Proofs.YtjiecjpepiknmaaGreat
set_option maxRecDepth 20000
set_option linter.unusedVariables false
set_option linter.unusedSimpArgs false

theorem snoc_ind {P : List Ev → Prop} (h0 : P []) (hs : ∀ l e, P l → P (l ++ [e])) (l : List Ev) : P l := by
  rw [← List.reverse_reverse l]
  induction l.reverse with
  | nil => exact h0
  | cons x r ih => rw [List.reverse_cons]; exact hs _ _ ih
/-- Each event was taken when it came. -/
def Valid (room : ByteArray) (l : List Ev) : Prop := ∀ (i : Nat) e, l[i]? = some e → errA room (l.take i) e = 0
theorem valid_nil (room : ByteArray) : Valid room [] := fun i e h => by simp at h
theorem valid_snoc {room : ByteArray} {l : List Ev} {e : Ev} (h : Valid room l) (he : errA room l e = 0) : Valid room (l ++ [e]) := by
  intro i x hx
  by_cases hi : i < l.length
  · rw [List.getElem?_append_left hi] at hx
    rw [List.take_append_of_le_length (by omega)]
    exact h i x hx
  · have hl := (List.getElem?_eq_some_iff.1 hx).1
    simp only [List.length_append, List.length_cons, List.length_nil] at hl
    obtain rfl : i = l.length := by omega
    simp only [List.getElem?_concat_length, Option.some.injEq] at hx
    subst hx
    rw [List.take_left]
    exact he
theorem valid_add {room : ByteArray} {l : List Ev} {e : Ev} (h : Valid room l) : Valid room (addA room l e) := by
  unfold addA
  split
  · rename_i he
    exact valid_snoc h he
  · exact h
theorem valid_take {room : ByteArray} {l : List Ev} (h : Valid room l) (n : Nat) : Valid room (l.take n) := by
  intro i e he
  rw [List.getElem?_take] at he
  split at he
  · rename_i hi
    rw [List.take_take, Nat.min_eq_left (by omega)]
    exact h i e he
  · cases he
/-- What is taken is right. -/
theorem err_zero {room : ByteArray} {l : List Ev} {e : Ev} (h : errA room l e = 0) : mayE e = true ∧ e.room = room ∧ hasE l e.id = false ∧ (∀ p ∈ e.parents, hasE l p = true) ∧ (e.thread = ⟨#[]⟩ ∨ ∃ t ∈ l, t.id = e.thread ∧ t.thread = ⟨#[]⟩ ∧ t.does = 0) := by
  unfold errA at h
  split at h
  · exact absurd h (by decide)
  rename_i h1
  split at h
  · exact absurd h (by decide)
  rename_i h2
  split at h
  · exact absurd h (by decide)
  rename_i h3
  simp only [Bool.not_eq_false, Bool.and_eq_true, decide_eq_true_eq] at h1
  simp only [Bool.not_eq_true] at h2
  simp only [Bool.not_eq_false, List.all_eq_true] at h3
  refine ⟨h1.1, h1.2, h2, h3, ?_⟩
  split at h
  · rename_i ht; exact .inl ht
  · cases hi : idx l e.thread with
    | none => rw [hi] at h; simp at h
    | some k =>
      rw [hi] at h
      simp only at h
      obtain ⟨x, hx, he, _⟩ := idx_some hi
      rw [hx] at h
      simp only at h
      split at h
      · rename_i hh
        exact .inr ⟨x, List.mem_of_getElem? hx, he, hh.1, hh.2⟩
      · exact absurd h (by decide)
theorem idx_take {l : List Ev} {k : ByteArray} {n : Nat} (h : hasE (l.take n) k = true) : idx l k = idx (l.take n) k ∧ ∃ i, idx (l.take n) k = some i ∧ i < n := by
  unfold hasE at h
  obtain ⟨i, hi⟩ := Option.isSome_iff_exists.1 h
  obtain ⟨x, hx, he, hn⟩ := idx_some hi
  rw [List.getElem?_take] at hx
  split at hx
  · rename_i hin
    rw [hi]
    refine ⟨idx_hit hx he (fun j y hj hy => hn j y hj (by rw [List.getElem?_take, if_pos (by omega)]; exact hy)), i, rfl, hin⟩
  · cases hx

/-- An event's depth, those of all that came ahead being ds. -/
def depE (pre : List Ev) (ds : List Nat) (e : Ev) : Nat := e.parents.foldl (fun m p => max m (ds.getD ((idx pre p).getD 0) 0 + 1)) 0
def depsA (pre : List Ev) (ds : List Nat) : List Ev → List Nat
  | [] => ds
  | e :: r => depsA (pre ++ [e]) (ds ++ [depE pre ds e]) r
def deps (l : List Ev) : List Nat := depsA [] [] l
theorem depsA_snoc (e : Ev) : ∀ (l pre : List Ev) (ds : List Nat), depsA pre ds (l ++ [e]) = depsA pre ds l ++ [depE (pre ++ l) (depsA pre ds l) e]
  | [], pre, ds => by simp [depsA]
  | x :: r, pre, ds => by
    rw [List.cons_append, depsA, depsA_snoc e r, depsA, List.append_assoc, List.singleton_append]
theorem deps_snoc (l : List Ev) (e : Ev) : deps (l ++ [e]) = deps l ++ [depE l (deps l) e] := by
  unfold deps
  rw [depsA_snoc, List.nil_append]
theorem depsA_len : ∀ (l pre : List Ev) (ds : List Nat), (depsA pre ds l).length = ds.length + l.length
  | [], pre, ds => rfl
  | x :: r, pre, ds => by rw [depsA, depsA_len r]; simp; omega
theorem deps_len (l : List Ev) : (deps l).length = l.length := by
  unfold deps
  rw [depsA_len]
  simp
theorem deps_take (l : List Ev) (n : Nat) : deps (l.take n) = (deps l).take n := by
  refine snoc_ind (P := fun l => deps (l.take n) = (deps l).take n) (by simp [deps, depsA]) (fun l e ih => ?_) l
  · by_cases h : n ≤ l.length
    · rw [List.take_append_of_le_length h, deps_snoc, List.take_append_of_le_length (by rw [deps_len]; exact h)]
      exact ih
    · rw [List.take_of_length_le (by simp; omega), List.take_of_length_le (by rw [deps_len]; simp; omega)]
def depthL (l : List Ev) (k : ByteArray) : Nat := match idx l k with | some i => (deps l).getD i 0 | none => 0
/-- So far. -/
def depTo (l : List Ev) (i : Nat) (e : Ev) (j : Nat) : Nat := (e.parents.take j).foldl (fun m p => max m ((deps (l.take i)).getD ((idx l p).getD 0) 0 + 1)) 0
theorem depTo_succ {l : List Ev} {i j : Nat} {e : Ev} (h : j < e.parents.length) : depTo l i e (j + 1) = max (depTo l i e j) ((deps (l.take i)).getD ((idx l (e.parents.getD j ⟨#[]⟩)).getD 0) 0 + 1) := by
  have hg : e.parents.getD j ⟨#[]⟩ = e.parents[j] := by rw [List.getD_eq_getElem?_getD, List.getElem?_eq_getElem h]; rfl
  unfold depTo
  rw [List.take_add_one, List.getElem?_eq_getElem h, List.foldl_append, hg]
  rfl
theorem depTo_all {room : ByteArray} {l : List Ev} {i : Nat} {e : Ev} (hv : Valid room l) (he : l[i]? = some e) : depTo l i e e.parents.length = (deps l).getD i 0 := by
  have hi := (List.getElem?_eq_some_iff.1 he).1
  have h0 := hv i e he
  obtain ⟨_, _, _, hp, _⟩ := err_zero h0
  have h1 : (deps (l.take (i + 1))) = deps (l.take i) ++ [depE (l.take i) (deps (l.take i)) e] := by
    rw [List.take_add_one, he]
    exact deps_snoc _ _
  have h2 : (deps l).getD i 0 = (deps (l.take (i + 1))).getD i 0 := by
    rw [deps_take, List.getD_eq_getElem?_getD, List.getD_eq_getElem?_getD, List.getElem?_take, if_pos (by omega)]
  have h3 : (deps (l.take i)).length = i := by rw [deps_len, List.length_take]; omega
  rw [h2, h1, List.getD_eq_getElem?_getD, List.getElem?_append_right (by omega), h3, Nat.sub_self]
  simp only [List.getElem?_cons_zero, Option.getD_some]
  unfold depTo depE
  rw [List.take_length]
  have key : ∀ (ps : List ByteArray) (m : Nat), (∀ p ∈ ps, hasE (l.take i) p = true) → ps.foldl (fun m p => max m ((deps (l.take i)).getD ((idx l p).getD 0) 0 + 1)) m = ps.foldl (fun m p => max m ((deps (l.take i)).getD ((idx (l.take i) p).getD 0) 0 + 1)) m := by
    intro ps
    induction ps with
    | nil => intro m _; rfl
    | cons p r ih =>
      intro m hq
      rw [List.foldl_cons, List.foldl_cons, (idx_take (hq p List.mem_cons_self)).1]
      exact ih _ (fun q hq' => hq q (List.mem_cons_of_mem _ hq'))
  exact key _ _ hp
/-- Depths are small. -/
theorem deps_le (l : List Ev) : ∀ d ∈ deps l, d ≤ l.length := by
  refine snoc_ind (P := fun l => ∀ d ∈ deps l, d ≤ l.length) (fun d hd => by simp [deps, depsA] at hd) (fun l e ih => ?_) l
  · intro d hd
    rw [deps_snoc] at hd
    rcases List.mem_append.1 hd with h | h
    · have := ih d h
      simp; omega
    · rw [List.mem_singleton.1 h]
      have key : ∀ (ps : List ByteArray) (m : Nat), m ≤ l.length + 1 → ps.foldl (fun m p => max m ((deps l).getD ((idx l p).getD 0) 0 + 1)) m ≤ l.length + 1 := by
        intro ps
        induction ps with
        | nil => intro m hm; exact hm
        | cons p r ih2 =>
          intro m hm
          rw [List.foldl_cons]
          refine ih2 _ ?_
          have : (deps l).getD ((idx l p).getD 0) 0 ≤ l.length := by
            rw [List.getD_eq_getElem?_getD]
            cases hg : (deps l)[(idx l p).getD 0]? with
            | none => simp
            | some d => exact ih d (List.mem_of_getElem? hg)
          omega
      simpa [depE] using key e.parents 0 (by omega)
end Go.Proofs.YtjiecjpepiknmaaGreat
