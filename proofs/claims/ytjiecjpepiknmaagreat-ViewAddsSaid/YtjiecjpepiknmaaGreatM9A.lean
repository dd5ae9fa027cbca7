/-
  Members, plain and in the document.
-/
import Derived.Test.YtjiecjpepiknmaaGreatDagPerm
import Derived.Test.YtjiecjpepiknmaaGreatDagHeads
import Derived.Test.YtjiecjpepiknmaaGreatDgA
import Derived.Test.YtjiecjpepiknmaaGreatDgM
import Derived.Sort.KeysCollected
import Derived.Maps.Views
import Derived.Test.YtjiecjpepiknmaaGreatDgC
namespace Go.Proofs.YtjiecjpepiknmaaGreat
set_option maxRecDepth 20000
set_option linter.unusedVariables false
set_option linter.unusedSimpArgs false

/-- Is it a step of the user's? -/
def stepB (u : ByteArray) (e : Ev) : Bool := decide (e.user = u) && !decide (e.does = 0)
def lastIn (s : List Ev) (u : ByteArray) : Option Ev := (s.filter (stepB u)).getLast?
theorem lastIn_nil (u : ByteArray) : lastIn [] u = none := rfl
theorem lastIn_snoc (s : List Ev) (e : Ev) (u : ByteArray) : lastIn (s ++ [e]) u = if stepB u e then some e else lastIn s u := by
  unfold lastIn
  rw [List.filter_append]
  cases h : stepB u e
  · simp [List.filter_cons, h]
  · simp [List.filter_cons, h]
theorem lastIn_mem {s : List Ev} {u : ByteArray} {e : Ev} (h : lastIn s u = some e) : e ∈ s ∧ e.user = u ∧ e.does ≠ 0 := by
  unfold lastIn at h
  have h1 := List.mem_of_getLast? h
  rw [List.mem_filter] at h1
  unfold stepB at h1
  simp only [Bool.and_eq_true, decide_eq_true_eq, Bool.not_eq_true', decide_eq_false_iff_not] at h1
  exact ⟨h1.1, h1.2.1, h1.2.2⟩
/-- A user's last step in a dag. -/
def lastL (l : List Ev) (u : ByteArray) : Option Ev := lastIn (allL l) u
def joinL (l : List Ev) (u : ByteArray) : Bool := match lastL l u with
  | some e => decide (e.does = 1)
  | none => false
/-- The last one of all. -/
def IsLast (l : List Ev) (u : ByteArray) (o : Option Ev) : Prop := match o with
  | none => ∀ f ∈ l, stepB u f = false
  | some e => e ∈ l ∧ stepB u e = true ∧ ∀ f ∈ l, stepB u f = true → f = e ∨ beforeP (posL l f.id) (posL l e.id) = true
theorem isLast_unique {l : List Ev} {u : ByteArray} {o o' : Option Ev} (h : IsLast l u o) (h' : IsLast l u o') : o = o' := by
  cases o with
  | none => cases o' with
    | none => rfl
    | some e' =>
      have h1 := h e' h'.1
      have h2 := h'.2.1
      rw [h1] at h2
      cases h2
  | some e => cases o' with
    | none =>
      have h1 := h' e h.1
      have h2 := h.2.1
      rw [h1] at h2
      cases h2
    | some e' =>
      rcases h.2.2 e' h'.1 h'.2.1 with h1 | h1
      · rw [h1]
      · rcases h'.2.2 e h.1 h.2.1 with h2 | h2
        · rw [h2]
        · have := pos_trans h1 h2
          rw [pos_irrefl] at this
          cases this
theorem isLast_sorted {l s : List Ev} (hs : Sorted l s) (hm : ∀ x, x ∈ s ↔ x ∈ l) (u : ByteArray) : IsLast l u (lastIn s u) := by
  have key : ∀ (t : List Ev), Sorted l t → IsLast t u (lastIn t u) → True := fun _ _ _ => trivial
  unfold lastIn
  cases h : (s.filter (stepB u)).getLast? with
  | none =>
    intro f hf
    rw [List.getLast?_eq_none_iff, List.filter_eq_nil_iff] at h
    simpa using h f ((hm f).2 hf)
  | some e =>
    have h1 := List.mem_of_getLast? h
    have h2 := List.mem_filter.1 h1
    refine ⟨(hm e).1 h2.1, h2.2, fun f hf hfs => ?_⟩
    have h3 : f ∈ s.filter (stepB u) := List.mem_filter.2 ⟨(hm f).2 hf, hfs⟩
    obtain ⟨pre, hp⟩ := List.getLast?_eq_some_iff.1 h
    have h4 : (s.filter (stepB u)).Pairwise (fun x y => beforeP (posL l x.id) (posL l y.id) = true) := List.Pairwise.filter _ hs
    rw [hp] at h3 h4
    rcases List.mem_append.1 h3 with h5 | h5
    · exact .inr ((List.pairwise_append.1 h4).2.2 f h5 e (by simp))
    · exact .inl (List.mem_singleton.1 h5)
theorem lastL_is {room : ByteArray} {l : List Ev} (hv : Valid room l) (u : ByteArray) : IsLast l u (lastL l u) := isLast_sorted (allL_row hv).1 (allL_row hv).2 u
theorem lastL_same {room room' : ByteArray} {l l' : List Ev} (hv : Valid room l) (hv' : Valid room' l') (hm : ∀ e, e ∈ l ↔ e ∈ l') (u : ByteArray) : lastL l u = lastL l' u := by
  unfold lastL
  rw [allL_same hv hv' hm]
theorem joinL_same {room room' : ByteArray} {l l' : List Ev} (hv : Valid room l) (hv' : Valid room' l') (hm : ∀ e, e ∈ l ↔ e ∈ l') (u : ByteArray) : joinL l u = joinL l' u := by
  unfold joinL
  rw [lastL_same hv hv' hm]
theorem lastL_mem {room : ByteArray} {l : List Ev} (hv : Valid room l) {u : ByteArray} {e : Ev} (h : lastL l u = some e) : e ∈ l ∧ e.user = u ∧ e.does ≠ 0 := by
  have h1 := lastIn_mem h
  exact ⟨((allL_row hv).2 e).1 h1.1, h1.2⟩
/-- The document's: gone through in their row as they came, the greatest so far. -/
def refStep (l : List Ev) (u : ByteArray) (o : Option Nat) (i : Nat) (e : Ev) : Option Nat :=
  if stepB u e = false then o else match o with
    | none => some i
    | some k => match l[k]? with
      | some f => if beforeP (posL l f.id) (posL l e.id) then some i else some k
      | none => some k
def refTo (l : List Ev) (u : ByteArray) : Nat → Option Nat
  | 0 => none
  | n + 1 => match l[n]? with
    | some e => refStep l u (refTo l u n) n e
    | none => refTo l u n
theorem refTo_lt {l : List Ev} {u : ByteArray} : ∀ {n k : Nat}, refTo l u n = some k → k < n ∧ k < l.length
  | 0, k, h => by cases h
  | n + 1, k, h => by
    unfold refTo at h
    cases he : l[n]? with
    | none =>
      rw [he] at h
      have := refTo_lt h
      omega
    | some e =>
      have hl := (List.getElem?_eq_some_iff.1 he).1
      rw [he] at h
      simp only [refStep] at h
      split at h
      · have := refTo_lt h
        omega
      · cases hr : refTo l u n with
        | none =>
          rw [hr] at h
          simp only [Option.some.injEq] at h
          omega
        | some j =>
          have hj := refTo_lt hr
          rw [hr] at h
          simp only at h
          split at h
          · split at h
            · injection h with h; omega
            · injection h with h; omega
          · injection h with h; omega
theorem refTo_is {room : ByteArray} {l : List Ev} (hv : Valid room l) (u : ByteArray) : ∀ n, n ≤ l.length →
    match refTo l u n with
    | none => ∀ f ∈ l.take n, stepB u f = false
    | some k => ∃ e, l[k]? = some e ∧ stepB u e = true ∧ ∀ f ∈ l.take n, stepB u f = true → f = e ∨ beforeP (posL l f.id) (posL l e.id) = true
  | 0, _ => by simp [refTo]
  | n + 1, hn => by
    have ih := refTo_is hv u n (by omega)
    have he : l[n]? = some l[n] := List.getElem?_eq_getElem (by omega)
    generalize l[n] = e at he
    unfold refTo
    rw [he]
    simp only [refStep]
    have hmem : ∀ f, f ∈ l.take (n + 1) ↔ f ∈ l.take n ∨ f = e := fun f => by
      rw [List.take_add_one, he, List.mem_append]
      simp
    cases hs : stepB u e
    · simp only [if_true]
      cases hr : refTo l u n with
      | none =>
        rw [hr] at ih
        simp only at ih ⊢
        intro f hf
        rcases (hmem f).1 hf with h | h
        · exact ih f h
        · rw [h]; exact hs
      | some k =>
        rw [hr] at ih
        simp only at ih ⊢
        obtain ⟨x, hx, hxs, hx2⟩ := ih
        refine ⟨x, hx, hxs, fun f hf hfs => ?_⟩
        rcases (hmem f).1 hf with h | h
        · exact hx2 f h hfs
        · rw [h, hs] at hfs; cases hfs
    · simp only [Bool.true_eq_false, if_false]
      cases hr : refTo l u n with
      | none =>
        rw [hr] at ih
        simp only at ih ⊢
        refine ⟨e, he, hs, fun f hf hfs => ?_⟩
        rcases (hmem f).1 hf with h | h
        · rw [ih f h] at hfs; cases hfs
        · exact .inl h
      | some k =>
        rw [hr] at ih
        simp only at ih ⊢
        obtain ⟨x, hx, hxs, hx2⟩ := ih
        rw [hx]
        simp only
        have hkn := (refTo_lt hr).1
        cases hb : beforeP (posL l x.id) (posL l e.id)
        · simp only [Bool.false_eq_true, if_false]
          refine ⟨x, hx, hxs, fun f hf hfs => ?_⟩
          rcases (hmem f).1 hf with h | h
          · exact hx2 f h hfs
          · subst h
            rcases pos_total (a := posL l x.id) (b := posL l f.id) (fun e2 => by
              have hid : x.id = f.id := congrArg Po.id e2
              have hxf := valid_ids hv (List.mem_of_getElem? hx) (List.mem_of_getElem? he) hid
              subst hxf
              have h1 := valid_idx hv hx
              have h2 := valid_idx hv he
              rw [h1] at h2
              injection h2 with h2
              omega) with h1 | h1
            · rw [hb] at h1; cases h1
            · exact .inr h1
        · simp only [if_true]
          refine ⟨e, he, hs, fun f hf hfs => ?_⟩
          rcases (hmem f).1 hf with h | h
          · rcases hx2 f h hfs with h2 | h2
            · rw [h2]; exact .inr hb
            · exact .inr (pos_trans h2 hb)
          · exact .inl h
theorem refTo_all {room : ByteArray} {l : List Ev} (hv : Valid room l) (u : ByteArray) : (match refTo l u l.length with | some k => l[k]? | none => none) = lastL l u := by
  refine isLast_unique (l := l) (u := u) ?_ (lastL_is hv u)
  have h := refTo_is hv u l.length (Nat.le_refl _)
  rw [List.take_length] at h
  cases hr : refTo l u l.length with
  | none => rw [hr] at h; exact h
  | some k =>
    rw [hr] at h
    obtain ⟨e, he, h1, h2⟩ := h
    simp only
    rw [he]
    exact ⟨List.mem_of_getElem? he, h1, h2⟩

/-- Rising. -/
def Up (l : List ByteArray) : Prop := l.Pairwise (fun a b => a.toList < b.toList)
theorem up_unique : ∀ {a b : List ByteArray}, Up a → Up b → (∀ x, x ∈ a ↔ x ∈ b) → a = b
  | [], [], _, _, _ => rfl
  | [], y :: r, _, _, h => by have := (h y).2 List.mem_cons_self; cases this
  | x :: r, [], _, _, h => by have := (h x).1 List.mem_cons_self; cases this
  | x :: r, y :: r', h1, h2, h => by
    have a1 := List.pairwise_cons.1 h1
    have a2 := List.pairwise_cons.1 h2
    have hno : ∀ {u v : ByteArray}, u.toList < v.toList → v.toList < u.toList → False := fun hu hv => List.lt_irrefl _ (List.lt_trans hu hv)
    have e : x = y := by
      rcases List.mem_cons.1 ((h x).1 List.mem_cons_self) with e | hx
      · exact e
      · rcases List.mem_cons.1 ((h y).2 List.mem_cons_self) with e | hy
        · exact e.symm
        · exact (hno (a1.1 y hy) (a2.1 x hx)).elim
    subst e
    congr 1
    refine up_unique a1.2 a2.2 (fun z => ?_)
    constructor
    · intro hz
      rcases List.mem_cons.1 ((h z).1 (List.mem_cons_of_mem _ hz)) with rfl | hz'
      · exact (hno (a1.1 z hz) (a1.1 z hz)).elim
      · exact hz'
    · intro hz
      rcases List.mem_cons.1 ((h z).2 (List.mem_cons_of_mem _ hz)) with rfl | hz'
      · exact (hno (a2.1 z hz) (a2.1 z hz)).elim
      · exact hz'
/-- A text is put where it belongs: s ≤ x is asked as not x < s. -/
def leS (s x : ByteArray) : Bool := !Op.bytesLess x.toList s.toList
theorem leS_iff {s x : ByteArray} : leS s x = true ↔ ¬ x.toList < s.toList := by
  unfold leS
  rw [Bool.not_eq_true', Proofs.bytesLess_eq]
  simp
def putL (s : ByteArray) : List ByteArray → List ByteArray
  | [] => [s]
  | x :: r => bif leS s x then s :: (x :: r).filter (fun y => !decide (y = s)) else x :: putL s r
theorem putL_mem (s z : ByteArray) : ∀ l : List ByteArray, z ∈ putL s l ↔ z = s ∨ z ∈ l
  | [] => by simp [putL]
  | x :: r => by
    unfold putL
    cases leS s x
    · simp only [cond_false, List.mem_cons, putL_mem s z r]
      constructor
      · rintro (h | h | h)
        · exact .inr (.inl h)
        · exact .inl h
        · exact .inr (.inr h)
      · rintro (h | h | h)
        · exact .inr (.inl h)
        · exact .inl h
        · exact .inr (.inr h)
    · simp only [cond_true, List.mem_cons, List.mem_filter, Bool.not_eq_true', decide_eq_false_iff_not]
      constructor
      · rintro (h | ⟨h, _⟩)
        · exact .inl h
        · exact .inr h
      · rintro (h | h)
        · exact .inl h
        · by_cases hz : z = s
          · exact .inl hz
          · exact .inr ⟨h, hz⟩
theorem putL_up (s : ByteArray) : ∀ l : List ByteArray, Up l → Up (putL s l)
  | [], _ => List.pairwise_singleton _ _
  | x :: r, h => by
    have h1 := List.pairwise_cons.1 h
    unfold putL
    cases hb : leS s x
    · rw [cond_false]
      have hx : x.toList < s.toList := by
        by_cases hh : x.toList < s.toList
        · exact hh
        · rw [leS_iff.2 hh] at hb; cases hb
      refine List.pairwise_cons.2 ⟨fun y hy => ?_, putL_up s r h1.2⟩
      rcases (putL_mem s y r).1 hy with rfl | hy
      · exact hx
      · exact h1.1 y hy
    · rw [cond_true]
      have hx := leS_iff.1 hb
      refine List.pairwise_cons.2 ⟨fun y hy => ?_, List.Pairwise.filter _ h⟩
      rw [List.mem_filter, Bool.not_eq_true', decide_eq_false_iff_not] at hy
      have hlt : ∀ z : ByteArray, ¬ z.toList < s.toList → z ≠ s → s.toList < z.toList := fun z hz hne => by
        by_cases h9 : s.toList < z.toList
        · exact h9
        · exact absurd (key_ext (List.le_antisymm (List.not_lt.1 h9) (List.not_lt.1 hz))) hne
      rcases List.mem_cons.1 hy.1 with rfl | hy1
      · exact hlt _ hx hy.2
      · refine hlt y (fun hh => hx (List.lt_trans (h1.1 y hy1) hh)) hy.2
/-- The document's Put, step by step. -/
def putStep (s : ByteArray) (p : Bool × List ByteArray) (x : ByteArray) : Bool × List ByteArray :=
  let q : Bool × List ByteArray := if (!p.1 && leS s x) = true then (true, p.2 ++ [s]) else p
  (q.1, if x = s then q.2 else q.2 ++ [x])
def putTo (s : ByteArray) (l : List ByteArray) (n : Nat) : Bool × List ByteArray := (l.take n).foldl (putStep s) (false, [])
theorem putTo_succ {s : ByteArray} {l : List ByteArray} {n : Nat} {x : ByteArray} (h : l[n]? = some x) : putTo s l (n + 1) = putStep s (putTo s l n) x := by
  unfold putTo
  rw [List.take_add_one, h, List.foldl_append]
  rfl
theorem putStep_done (s : ByteArray) : ∀ (l pre : List ByteArray), l.foldl (putStep s) (true, pre) = (true, pre ++ l.filter (fun y => !decide (y = s)))
  | [], pre => by simp
  | x :: r, pre => by
    rw [List.foldl_cons]
    have h1 : putStep s (true, pre) x = (true, if x = s then pre else pre ++ [x]) := by
      unfold putStep
      simp
    rw [h1, putStep_done s r]
    by_cases hx : x = s
    · simp [hx, List.filter_cons]
    · simp [hx, List.filter_cons]
theorem putStep_all (s : ByteArray) : ∀ (l pre : List ByteArray), (let p := l.foldl (putStep s) (false, pre); if p.1 = true then p.2 else p.2 ++ [s]) = pre ++ putL s l
  | [], pre => by simp [putL]
  | x :: r, pre => by
    rw [List.foldl_cons]
    unfold putL
    cases hb : leS s x
    · have hx : x ≠ s := fun e => by
        subst e
        have := leS_iff.2 (List.lt_irrefl x.toList)
        rw [hb] at this; cases this
      have h1 : putStep s (false, pre) x = (false, pre ++ [x]) := by
        unfold putStep
        simp [hb, hx]
      rw [h1, cond_false]
      have := putStep_all s r (pre ++ [x])
      simp only [List.append_assoc, List.singleton_append] at this
      exact this
    · have h1 : putStep s (false, pre) x = (true, if x = s then pre ++ [s] else pre ++ [s] ++ [x]) := by
        unfold putStep
        simp [hb]
      rw [h1, cond_true, putStep_done]
      by_cases hx : x = s
      · simp [hx, List.filter_cons]
      · simp [hx, List.filter_cons]
theorem putTo_all (s : ByteArray) (l : List ByteArray) : (if (putTo s l l.length).1 = true then (putTo s l l.length).2 else (putTo s l l.length).2 ++ [s]) = putL s l := by
  have h := putStep_all s l []
  unfold putTo
  rw [List.take_length]
  simpa using h
theorem putTo_len (s : ByteArray) (l : List ByteArray) (n : Nat) : (putTo s l n).2.length ≤ 2 * n := by
  induction n with
  | zero => simp [putTo]
  | succ n ih =>
    cases h : l[n]? with
    | none =>
      have h2 : putTo s l (n + 1) = putTo s l n := by
        unfold putTo
        rw [List.take_add_one, h]
        simp
      rw [h2]; omega
    | some x =>
      rw [putTo_succ h]
      unfold putStep
      simp only
      split <;> split <;> (try simp only [List.length_append, List.length_cons, List.length_nil]) <;> omega
theorem putTo_mem {s : ByteArray} {l : List ByteArray} : ∀ (n : Nat) (z : ByteArray), z ∈ (putTo s l n).2 → z = s ∨ z ∈ l
  | 0, z, h => by simp [putTo] at h
  | n + 1, z, h => by
    cases hx : l[n]? with
    | none =>
      have h2 : putTo s l (n + 1) = putTo s l n := by
        unfold putTo
        rw [List.take_add_one, hx]
        simp
      rw [h2] at h
      exact putTo_mem n z h
    | some x =>
      rw [putTo_succ hx] at h
      unfold putStep at h
      simp only at h
      have hxl := List.mem_of_getElem? hx
      have ih := putTo_mem (s := s) (l := l) n z
      split at h <;> split at h
      · simp only [List.mem_append, List.mem_singleton] at h
        rcases h with h | h
        · exact ih h
        · exact .inl h
      · exact ih h
      · simp only [List.mem_append, List.mem_singleton] at h
        rcases h with (h | h) | h
        · exact ih h
        · exact .inl h
        · rw [h]; exact .inr hxl
      · simp only [List.mem_append, List.mem_singleton] at h
        rcases h with h | h
        · exact ih h
        · rw [h]; exact .inr hxl
theorem putL_len (s : ByteArray) : ∀ l : List ByteArray, (putL s l).length ≤ l.length + 1
  | [] => by simp [putL]
  | x :: r => by
    unfold putL
    cases leS s x
    · simp only [cond_false, List.length_cons]
      have := putL_len s r
      omega
    · simp only [cond_true, List.length_cons]
      have := List.length_filter_le (fun y => !decide (y = s)) (x :: r)
      simp only [List.length_cons] at this
      omega
/-- All who are joined. -/
def usersTo (l : List Ev) (n : Nat) : List ByteArray := (l.take n).foldl (fun out e => if joinL l e.user = true then putL e.user out else out) []
def usersL (l : List Ev) : List ByteArray := usersTo l l.length
theorem usersTo_succ {l : List Ev} {n : Nat} {e : Ev} (h : l[n]? = some e) : usersTo l (n + 1) = if joinL l e.user = true then putL e.user (usersTo l n) else usersTo l n := by
  unfold usersTo
  rw [List.take_add_one, h, List.foldl_append]
  rfl
theorem usersTo_is (l : List Ev) : ∀ n, n ≤ l.length → Up (usersTo l n) ∧ (usersTo l n).length ≤ n ∧ ∀ z, z ∈ usersTo l n ↔ ∃ e ∈ l.take n, e.user = z ∧ joinL l z = true
  | 0, _ => ⟨List.Pairwise.nil, by simp [usersTo], fun z => by simp [usersTo]⟩
  | n + 1, hn => by
    obtain ⟨h1, h2, h3⟩ := usersTo_is l n (by omega)
    have he : l[n]? = some l[n] := List.getElem?_eq_getElem (by omega)
    generalize l[n] = e at he
    have hmem : ∀ f, f ∈ l.take (n + 1) ↔ f ∈ l.take n ∨ f = e := fun f => by
      rw [List.take_add_one, he, List.mem_append]
      simp
    rw [usersTo_succ he]
    by_cases hj : joinL l e.user = true
    · rw [if_pos hj]
      refine ⟨putL_up _ _ h1, Nat.le_trans (putL_len _ _) (by omega), fun z => ?_⟩
      rw [putL_mem, h3]
      constructor
      · rintro (rfl | ⟨f, hf, hfz⟩)
        · exact ⟨e, (hmem e).2 (.inr rfl), rfl, hj⟩
        · exact ⟨f, (hmem f).2 (.inl hf), hfz⟩
      · rintro ⟨f, hf, hfu, hfz⟩
        rcases (hmem f).1 hf with h | rfl
        · exact .inr ⟨f, h, hfu, hfz⟩
        · exact .inl hfu.symm
    · rw [if_neg hj]
      refine ⟨h1, by omega, fun z => ?_⟩
      rw [h3]
      constructor
      · rintro ⟨f, hf, hfz⟩
        exact ⟨f, (hmem f).2 (.inl hf), hfz⟩
      · rintro ⟨f, hf, hfu, hfz⟩
        rcases (hmem f).1 hf with h | rfl
        · exact ⟨f, h, hfu, hfz⟩
        · rw [hfu] at hj; exact absurd hfz hj
theorem usersL_up (l : List Ev) : Up (usersL l) := (usersTo_is l _ (Nat.le_refl _)).1
theorem usersL_len (l : List Ev) : (usersL l).length ≤ l.length := (usersTo_is l _ (Nat.le_refl _)).2.1
theorem usersL_mem {room : ByteArray} {l : List Ev} (hv : Valid room l) (z : ByteArray) : z ∈ usersL l ↔ joinL l z = true := by
  rw [usersL, (usersTo_is l _ (Nat.le_refl _)).2.2, List.take_length]
  constructor
  · rintro ⟨_, _, _, h⟩; exact h
  · intro h
    have h' := h
    unfold joinL at h
    cases hh : lastL l z with
    | none => rw [hh] at h; cases h
    | some e =>
      have := lastL_mem hv hh
      exact ⟨e, this.1, this.2.1, h'⟩
theorem usersL_same {room room' : ByteArray} {l l' : List Ev} (hv : Valid room l) (hv' : Valid room' l') (hm : ∀ e, e ∈ l ↔ e ∈ l') : usersL l = usersL l' :=
  up_unique (usersL_up l) (usersL_up l') (fun z => by rw [usersL_mem hv, usersL_mem hv', joinL_same hv hv' hm])
/-- The homes of these. -/
def homesTo (us : List ByteArray) (n : Nat) : List ByteArray := (us.take n).foldl (fun out u => if homeS u = ⟨#[]⟩ then out else putL (homeS u) out) []
def homesL (us : List ByteArray) : List ByteArray := homesTo us us.length
theorem homesTo_succ {us : List ByteArray} {n : Nat} {u : ByteArray} (h : us[n]? = some u) : homesTo us (n + 1) = if homeS u = ⟨#[]⟩ then homesTo us n else putL (homeS u) (homesTo us n) := by
  unfold homesTo
  rw [List.take_add_one, h, List.foldl_append]
  rfl
theorem homesTo_is (us : List ByteArray) : ∀ n, n ≤ us.length → Up (homesTo us n) ∧ (homesTo us n).length ≤ n ∧ ∀ z, z ∈ homesTo us n ↔ ∃ u ∈ us.take n, homeS u = z ∧ z ≠ ⟨#[]⟩
  | 0, _ => ⟨List.Pairwise.nil, by simp [homesTo], fun z => by simp [homesTo]⟩
  | n + 1, hn => by
    obtain ⟨h1, h2, h3⟩ := homesTo_is us n (by omega)
    have he : us[n]? = some us[n] := List.getElem?_eq_getElem (by omega)
    generalize us[n] = u at he
    have hmem : ∀ f, f ∈ us.take (n + 1) ↔ f ∈ us.take n ∨ f = u := fun f => by
      rw [List.take_add_one, he, List.mem_append]
      simp
    rw [homesTo_succ he]
    by_cases hj : homeS u = ⟨#[]⟩
    · rw [if_pos hj]
      refine ⟨h1, by omega, fun z => ?_⟩
      rw [h3]
      constructor
      · rintro ⟨f, hf, hfz⟩
        exact ⟨f, (hmem f).2 (.inl hf), hfz⟩
      · rintro ⟨f, hf, hfu, hfz⟩
        rcases (hmem f).1 hf with h | rfl
        · exact ⟨f, h, hfu, hfz⟩
        · rw [hj] at hfu; exact absurd hfu.symm hfz
    · rw [if_neg hj]
      refine ⟨putL_up _ _ h1, Nat.le_trans (putL_len _ _) (by omega), fun z => ?_⟩
      rw [putL_mem, h3]
      constructor
      · rintro (rfl | ⟨f, hf, hfz⟩)
        · exact ⟨u, (hmem u).2 (.inr rfl), rfl, hj⟩
        · exact ⟨f, (hmem f).2 (.inl hf), hfz⟩
      · rintro ⟨f, hf, hfu, hfz⟩
        rcases (hmem f).1 hf with h | rfl
        · exact .inr ⟨f, h, hfu, hfz⟩
        · exact .inl hfu.symm
theorem homesL_up (us : List ByteArray) : Up (homesL us) := (homesTo_is us _ (Nat.le_refl _)).1
theorem homesL_len (us : List ByteArray) : (homesL us).length ≤ us.length := (homesTo_is us _ (Nat.le_refl _)).2.1
theorem homesL_mem (us : List ByteArray) (z : ByteArray) : z ∈ homesL us ↔ ∃ u ∈ us, homeS u = z ∧ z ≠ ⟨#[]⟩ := by
  rw [homesL, (homesTo_is us _ (Nat.le_refl _)).2.2, List.take_length]
def serversL (l : List Ev) : List ByteArray := homesL (usersL l)
end Go.Proofs.YtjiecjpepiknmaaGreat

namespace Go.Proofs.YtjiecjpepiknmaaGreat
set_option maxRecDepth 20000
open Go.RowKit
set_option linter.unusedVariables false
set_option linter.unusedSimpArgs false

theorem lit_text (w : World) (s : ByteArray) : LT.Slice (w.alloc (.cells #[.string s] 9)) (.slice (some ⟨w.heap.size, 0, none⟩) 1 1) [s] := lit_slice (L := LT) w s w.heap.size rfl #[.string s] rfl

def zeroEv : EvV := ⟨⟨⟨#[]⟩, ⟨#[]⟩, [], ⟨#[]⟩, ⟨#[]⟩, 0⟩, none, 0⟩
theorem zeroEv_val : zeroEv.val = .agg #[.string ⟨#[]⟩, .string ⟨#[]⟩, .slice none 0 0, .string ⟨#[]⟩, .string ⟨#[]⟩, .int .i64 0] := rfl
theorem zeroEv_at (w : World) : zeroEv.at w := ⟨.nil _, by unfold Ev.ok zeroEv; simp; decide⟩

set_option maxHeartbeats 3200000 in
theorem refPut_any (v : Value) (l : List ByteArray) (s : ByteArray) (w : World) (h : LT.Slice w v l) (hl : l.length ≤ 1000) :
    Calls Tryz.prog 67 #[v, .string s] w fun e w' => ∃ v', e = .returned v' ∧ LT.Mine w' w.heap.size v' (putL s l) ∧ Below w.heap.size w w' := by
  obtain ⟨A, cap, rfl, h1, h2, -⟩ := id h
  unfold maxLen at h2
  have HL := Lib.hid h
  clear h
  go_enter Tryz.func67, Tryz.ntmps67
  go_wp2_with fail
  go_loopw [5, 6, 7] (fun u d i wr => ∃ (a : Nat) (b : Bool) (ts : List ByteArray) (Ao : Option Addr) (co : Nat), u = .slice Ao ts.length co ∧ d = .bool b ∧ i = .int .i64 (a : Int) ∧ a ≤ l.length ∧ ts.length ≤ 2 * a ∧ Hid (HdS w wr u ts) ∧ Hid (putTo s l a = (b, ts))) (fun _ _ i _ => l.length - (intOf i).toNat)
  case atStart => exact ⟨0, false, [], none, 0, rfl, rfl, rfl, Nat.zero_le _, Nat.le_refl _, Lib.hid ⟨Below.refl _ _, .inl ⟨rfl, rfl⟩⟩, Lib.hid rfl⟩
  case round =>
    obtain ⟨a, b, ts, Ao, co, rfl, rfl, rfl, ha, hta, HO, HT⟩ := hrel
    by_cases hay : a < l.length
    · have q1 : decide ((a : Int) < (l.length : Int)) = true := decide_eq_true (by omega)
      have hy : l[a]? = some l[a] := List.getElem?_eq_getElem hay
      generalize l[a] = y at hy
      have HTS := Lib.hid (putTo_succ (s := s) hy)
      rw [HT.out] at HTS
      obtain ⟨bo, oo, rfl, hbo, hco⟩ := text_at HL.out hy
      have hiy := index_any (P := Tryz.prog) knT (by decide) (b := bo) (off := oo) (cap := cap) hay
      simp only [LT] at hiy
      rw [Nat.mul_one] at hiy
      have HC : Hid (∀ W, Below w.heap.size w W → W.cell? ⟨bo, oo + a, none⟩ = some (.string y)) := Lib.hid (fun W hb => (hb.cell (p := ⟨bo, oo + a, none⟩) hbo).trans hco)
      have e4 := HC.out _ HO.out.below
      clear hy hco
      generalize hys : (y.toList == s.toList) = ys
      have hyd := hys
      rw [keyB] at hyd
      have HYD := Lib.hid hyd
      clear hyd
      cases b with
      | true =>
        cases ys with
        | true =>
          have HF : Hid (putTo s l (a + 1) = (true, ts)) := Lib.hid (by rw [HTS.out]; unfold putStep; simp [of_decide_eq_true HYD.out])
          go_wp2_with fail
          refine ⟨⟨a + 1, true, ts, Ao, co, rfl, rfl, by go_num, by omega, by omega, HO, HF⟩, ?_⟩
          simp [intOf]; omega
        | false =>
          have HF : Hid (putTo s l (a + 1) = (true, ts ++ [y])) := Lib.hid (by rw [HTS.out]; unfold putStep; simp [of_decide_eq_false HYD.out])
          have hlit1 := Lib.hid (lit_text wr y)
          have hb1 := below_new wr (.cells #[.string y] 9)
          have HA1 := Lib.hid (HO.out.on hb1)
          have hs1 : w.heap.size ≤ (wr.alloc (.cells #[.string y] 9)).heap.size := HA1.out.below.size
          clear hb1
          go_wp2_with (at_builtin; refine wpList_puts rfl knT (.tmp 34) (.tmp 39) 31 rfl (v := .slice Ao (ts.length) co) rfl HA1.out.row hs1 (.slice (some ⟨wr.heap.size, 0, none⟩) 1 1) [y] 1 rfl rfl (hlit1.out.srcN knT rfl) (by omega) ?_; intro A1 c1 w1 m1 g1 o1; have H1 : Hid (HdS w w1 (.slice A1 (ts.length + 1) c1) (ts ++ [y])) := Lib.hid ⟨HA1.out.below.grown g1 hs1 (fun k hk => (HA1.out.row.lt k hk).1), m1⟩; clear m1 g1 o1)
          refine ⟨⟨a + 1, true, ts ++ [y], A1, c1, by rw [List.length_append]; rfl, rfl, by go_num, by omega, by rw [List.length_append]; simp only [List.length_cons, List.length_nil]; omega, H1, HF⟩, ?_⟩
          simp [intOf]; omega
      | false =>
        generalize hle : leS s y = le
        cases le with
        | false =>
          have q5 : (Op.bytesLess s.toList y.toList || s.toList == y.toList) = false := by rw [leq_less]; exact hle
          have hny : y ≠ s := fun e => by
            subst e
            have := leS_iff.2 (List.lt_irrefl y.toList)
            rw [hle] at this
            cases this
          obtain rfl : ys = false := by rw [← HYD.out]; exact decide_eq_false hny
          have HF : Hid (putTo s l (a + 1) = (false, ts ++ [y])) := Lib.hid (by rw [HTS.out]; unfold putStep; simp [hle, hny])
          clear hny hle
          have hlit1 := Lib.hid (lit_text wr y)
          have hb1 := below_new wr (.cells #[.string y] 9)
          have HA1 := Lib.hid (HO.out.on hb1)
          have hs1 : w.heap.size ≤ (wr.alloc (.cells #[.string y] 9)).heap.size := HA1.out.below.size
          clear hb1
          go_wp2_with (at_builtin; refine wpList_puts rfl knT (.tmp 34) (.tmp 39) 31 rfl (v := .slice Ao (ts.length) co) rfl HA1.out.row hs1 (.slice (some ⟨wr.heap.size, 0, none⟩) 1 1) [y] 1 rfl rfl (hlit1.out.srcN knT rfl) (by omega) ?_; intro A1 c1 w1 m1 g1 o1; have H1 : Hid (HdS w w1 (.slice A1 (ts.length + 1) c1) (ts ++ [y])) := Lib.hid ⟨HA1.out.below.grown g1 hs1 (fun k hk => (HA1.out.row.lt k hk).1), m1⟩; clear m1 g1 o1)
          refine ⟨⟨a + 1, false, ts ++ [y], A1, c1, by rw [List.length_append]; rfl, rfl, by go_num, by omega, by rw [List.length_append]; simp only [List.length_cons, List.length_nil]; omega, H1, HF⟩, ?_⟩
          simp [intOf]; omega
        | true =>
          have q5 : (Op.bytesLess s.toList y.toList || s.toList == y.toList) = true := by rw [leq_less]; exact hle
          have hlit2 := Lib.hid (lit_text wr s)
          have hb2 := below_new wr (.cells #[.string s] 9)
          have HA2 := Lib.hid (HO.out.on hb2)
          have hs2 : w.heap.size ≤ (wr.alloc (.cells #[.string s] 9)).heap.size := HA2.out.below.size
          clear hb2
          go_upto_region 9 with (at_builtin; refine wpList_puts rfl knT (.tmp 24) (.tmp 26) 31 rfl (v := .slice Ao (ts.length) co) rfl HA2.out.row hs2 (.slice (some ⟨wr.heap.size, 0, none⟩) 1 1) [s] 1 rfl rfl (hlit2.out.srcN knT rfl) (by omega) ?_; intro A2 c2 w2 m2 g2 o2; have H2 : Hid (HdS w w2 (.slice A2 (ts.length + 1) c2) (ts ++ [s])) := Lib.hid ⟨HA2.out.below.grown g2 hs2 (fun k hk => (HA2.out.row.lt k hk).1), m2⟩; clear m2 g2 o2)
          have L3 : Hid ((ts ++ [s]).length = ts.length + 1) := Lib.hid (by rw [List.length_append]; rfl)
          have e4' := HC.out _ H2.out.below
          clear e4 HA2 hs2 hlit2
          cases ys with
          | true =>
            have HF : Hid (putTo s l (a + 1) = (true, ts ++ [s])) := Lib.hid (by have hq := of_decide_eq_true HYD.out; rw [HTS.out]; unfold putStep; rw [hle]; simp [hq])
            clear hle
            go_wp2_with fail
            refine ⟨⟨a + 1, true, ts ++ [s], A2, c2, by rw [L3.out], rfl, by go_num, by omega, by rw [L3.out]; omega, H2, HF⟩, ?_⟩
            simp [intOf]; omega
          | false =>
            have HF : Hid (putTo s l (a + 1) = (true, ts ++ [s] ++ [y])) := Lib.hid (by rw [HTS.out]; unfold putStep; simp [of_decide_eq_false HYD.out, hle])
            clear hle
            have hlit3 := Lib.hid (lit_text w2 y)
            have hb3 := below_new w2 (.cells #[.string y] 9)
            have HA3 := Lib.hid (H2.out.on hb3)
            have hs3 : w.heap.size ≤ (w2.alloc (.cells #[.string y] 9)).heap.size := HA3.out.below.size
            clear hb3
            go_wp2_with (at_builtin; refine wpList_puts rfl knT (.tmp 34) (.tmp 39) 31 rfl (v := .slice A2 (ts.length + 1) c2) rfl HA3.out.row hs3 (.slice (some ⟨w2.heap.size, 0, none⟩) 1 1) [y] 1 rfl rfl (hlit3.out.srcN knT rfl) (by rw [L3.out]; omega) ?_; rw [L3.out]; intro A3 c3 w3 m3 g3 o3; have H3 : Hid (HdS w w3 (.slice A3 (ts.length + 1 + 1) c3) (ts ++ [s] ++ [y])) := Lib.hid ⟨HA3.out.below.grown g3 hs3 (fun k hk => (HA3.out.row.lt k hk).1), m3⟩; clear m3 g3 o3)
            refine ⟨⟨a + 1, true, ts ++ [s] ++ [y], A3, c3, by rw [List.length_append, L3.out]; rfl, rfl, by go_num, by omega, by rw [List.length_append, L3.out]; simp only [List.length_cons, List.length_nil]; omega, H3, HF⟩, ?_⟩
            simp [intOf]; omega
    · have q1 : decide ((a : Int) < (l.length : Int)) = false := decide_eq_false (by omega)
      obtain rfl : a = l.length := by omega
      have HF := Lib.hid (putTo_all s l)
      rw [HT.out] at HF
      cases b with
      | true =>
        have HF2 : Hid (putL s l = ts) := Lib.hid (by have := HF.out; simpa using this.symm)
        go_wp2_with fail
        go_ret
        exact ⟨_, rfl, by rw [HF2.out]; exact HO.out.row, HO.out.below⟩
      | false =>
        have HF2 : Hid (putL s l = ts ++ [s]) := Lib.hid (by have := HF.out; simpa using this.symm)
        have hlit4 := Lib.hid (lit_text wr s)
        have hb4 := below_new wr (.cells #[.string s] 9)
        have HA4 := Lib.hid (HO.out.on hb4)
        have hs4 : w.heap.size ≤ (wr.alloc (.cells #[.string s] 9)).heap.size := HA4.out.below.size
        clear hb4
        go_wp2_with (at_builtin; refine wpList_puts rfl knT (.tmp 43) (.tmp 45) 31 rfl (v := .slice Ao (ts.length) co) rfl HA4.out.row hs4 (.slice (some ⟨wr.heap.size, 0, none⟩) 1 1) [s] 1 rfl rfl (hlit4.out.srcN knT rfl) (by omega) ?_; intro A4 c4 w4 m4 g4 o4; have H4 : Hid (HdS w w4 (.slice A4 (ts.length + 1) c4) (ts ++ [s])) := Lib.hid ⟨HA4.out.below.grown g4 hs4 (fun k hk => (HA4.out.row.lt k hk).1), m4⟩; clear m4 g4 o4)
        go_ret
        exact ⟨_, rfl, by rw [HF2.out]; exact H4.out.row, H4.out.below⟩

def hasTo (l : List ByteArray) (s : ByteArray) (n : Nat) : Bool := (l.take n).any (fun x => decide (x = s))
theorem hasTo_succ {l : List ByteArray} {s x : ByteArray} {n : Nat} (h : l[n]? = some x) : hasTo l s (n + 1) = (hasTo l s n || decide (x = s)) := by
  unfold hasTo
  rw [List.take_add_one, h, List.any_append]
  simp
def hasL (l : List ByteArray) (s : ByteArray) : Bool := l.any (fun x => decide (x = s))
theorem hasL_iff {l : List ByteArray} {s : ByteArray} : hasL l s = true ↔ s ∈ l := by
  unfold hasL
  rw [List.any_eq_true]
  constructor
  · rintro ⟨x, hx, h⟩
    rw [of_decide_eq_true h] at hx
    exact hx
  · intro h
    exact ⟨s, h, decide_eq_true rfl⟩
theorem hasTo_all (l : List ByteArray) (s : ByteArray) : hasTo l s l.length = hasL l s := by
  unfold hasTo hasL
  rw [List.take_length]
theorem hasTo_yes {l : List ByteArray} {s : ByteArray} {n : Nat} {x : ByteArray} (h : l[n]? = some x) (he : x = s) : hasL l s = true := hasL_iff.2 (he ▸ List.mem_of_getElem? h)

set_option maxHeartbeats 1600000 in
theorem refHas_any (v : Value) (l : List ByteArray) (s : ByteArray) (w : World) (h : LT.Slice w v l) :
    Calls Tryz.prog 36 #[v, .string s] w fun e w' => e = .returned (.bool (hasL l s)) ∧ w' = w := by
  obtain ⟨A, cap, rfl, h1, h2, -⟩ := id h
  unfold maxLen at h2
  have HL := Lib.hid h
  clear h
  go_enter Tryz.func36, Tryz.ntmps36
  go_wp2_with fail
  go_loopw [5] (fun i wr => ∃ a : Nat, i = .int .i64 (a : Int) ∧ a ≤ l.length ∧ wr = w ∧ Hid (hasTo l s a = false)) (fun i _ => l.length - (intOf i).toNat)
  case atStart => exact ⟨0, rfl, Nat.zero_le _, rfl, Lib.hid rfl⟩
  case round =>
    obtain ⟨a, rfl, ha, rfl, HT⟩ := hrel
    by_cases hay : a < l.length
    · have q1 : decide ((a : Int) < (l.length : Int)) = true := decide_eq_true (by omega)
      have hy : l[a]? = some l[a] := List.getElem?_eq_getElem hay
      generalize l[a] = y at hy
      have HTS := Lib.hid (hasTo_succ (s := s) hy)
      rw [HT.out, Bool.false_or] at HTS
      have HY := Lib.hid hy
      obtain ⟨bo, oo, rfl, hbo, e4⟩ := text_at HL.out hy
      have hiy := index_any (P := Tryz.prog) knT (by decide) (b := bo) (off := oo) (cap := cap) hay
      simp only [LT] at hiy
      rw [Nat.mul_one] at hiy
      clear hy
      generalize hys : (y.toList == s.toList) = ys
      have hyd := hys
      rw [keyB] at hyd
      have HYD := Lib.hid hyd
      clear hyd
      cases ys with
      | true =>
        have HF := Lib.hid (hasTo_yes HY.out (of_decide_eq_true HYD.out))
        go_wp2_with fail
        go_ret
        exact ⟨by rw [HF.out]; first | rfl | trivial, by first | rfl | trivial⟩
      | false =>
        go_wp2_with fail
        refine ⟨⟨a + 1, by go_num, by omega, by first | rfl | trivial, Lib.hid (by rw [HTS.out]; exact HYD.out)⟩, ?_⟩
        simp [intOf]; omega
    · have q1 : decide ((a : Int) < (l.length : Int)) = false := decide_eq_false (by omega)
      obtain rfl : a = l.length := by omega
      have HF := Lib.hid (hasTo_all l s)
      rw [HT.out] at HF
      go_wp2_with fail
      go_ret
      exact ⟨by rw [← HF.out]; first | rfl | trivial, by first | rfl | trivial⟩
end Go.Proofs.YtjiecjpepiknmaaGreat

namespace Go.Proofs.YtjiecjpepiknmaaGreat
set_option maxRecDepth 20000
open Go.RowKit Go.Maps Go.ChangeMaps
set_option linter.unusedVariables false
set_option linter.unusedSimpArgs false

theorem key_inv' {key : Value} {kk : Lit} (h : keyOf Tryz.prog 9 key = some kk) : ∃ s : ByteArray, key = .string s ∧ kk = .string s.data.toList ∧ s.size ≤ maxLen := WideMaps.string_of_keyOf Tryz.underlying9 h
theorem row_texts {w : World} {B : Nat} {v : Value} {ss : List (List UInt8)} (h : w.ownsRow B 9 1 v ss.length (ss.map encStr)) : LT.Mine w B v (ss.map (fun s => (⟨s.toArray⟩ : ByteArray))) := by
  have key : ∀ ts : List (List UInt8), LT.vs (ts.map (fun s => (⟨s.toArray⟩ : ByteArray))) = ts.map encStr := by
    intro ts
    induction ts with
    | nil => rfl
    | cons s r ih =>
      rw [List.map_cons, Lies.vs_cons, ih]
      rfl
  have hvs := key ss
  obtain ⟨h0, ⟨rfl, hn⟩ | ⟨g, cap, cur, rfl, h1, h2, h3, h4, h5, h6⟩⟩ := h
  · exact .inl ⟨rfl, by rw [List.eq_nil_of_length_eq_zero hn]; rfl⟩
  · refine .inr ⟨g, 0, cap, cur, by rw [List.length_map], h1, h2, by rw [List.length_map]; exact h3, h4, ?_, ?_⟩
    · show 0 + cap * 1 ≤ cur.size
      omega
    · rw [hvs, List.length_map, List.drop_zero]
      exact h6
theorem keys_row {D : Dv} {w w' : World} {mb n B : Nat} {v : Value} {ss : List (List UInt8)} (ho : OwnN w mb n D) (hp : ss.Perm (strKeys D)) (hr : w'.ownsRow B 9 1 v ss.length ((ss.mergeSort (fun x y => decide (x ≤ y))).map encStr)) :
    ∃ us, LT.Mine w' B v us ∧ Up us ∧ ∀ z, z ∈ us ↔ Maps.has D (kl z) = true := by
  obtain ⟨es, rfl, hap, hkey⟩ := ho.entries keyed
  obtain ⟨es2, he2, hks⟩ := World.ownsMap.keysOf ho
  injection he2 with he2
  subst he2
  have hstr : ∀ p ∈ es, ∃ x, p.1 = .string x := fun p hp => by
    obtain ⟨v, hv⟩ := hks p hp
    obtain ⟨s, _, h2, _⟩ := key_inv' hv
    exact ⟨_, h2⟩
  have hnd : ss.Nodup := by
    refine hp.nodup_iff.2 ?_
    show (es.map fun p => Go.strOf p.1).Nodup
    refine List.pairwise_map.2 (hap.imp_of_mem fun {p q} hp' hq' hne e => hne ?_)
    obtain ⟨a, ha⟩ := hstr p hp'
    obtain ⟨b, hb⟩ := hstr q hq'
    rw [ha, hb] at e ⊢
    exact congrArg _ e
  have hmem : ∀ x, x ∈ ss ↔ Maps.has (.map es) (.string x) = true := fun x => by
    rw [hp.mem_iff, Maps.has_eq, List.any_eq_true]
    show x ∈ es.map (fun p => Go.strOf p.1) ↔ _
    rw [List.mem_map]
    constructor
    · rintro ⟨p, hp', rfl⟩
      obtain ⟨a, ha⟩ := hstr p hp'
      refine ⟨p, hp', ?_⟩
      rw [ha]
      exact WideAt.sameKey_self (by simp [WideAt.IsKeyLit])
    · rintro ⟨p, hp', hk⟩
      obtain ⟨a, ha⟩ := hstr p hp'
      refine ⟨p, hp', ?_⟩
      rw [ha] at hk ⊢
      simp only [Lit.sameKey, beq_iff_eq] at hk
      exact hk
  have hlen : (ss.mergeSort (fun x y => decide (x ≤ y))).length = ss.length := List.length_mergeSort ss
  rw [← hlen] at hr
  have hperm := List.mergeSort_perm ss (fun x y => decide (x ≤ y))
  have tr : ∀ a b c : List UInt8, decide (a ≤ b) = true → decide (b ≤ c) = true → decide (a ≤ c) = true := fun a b c h1 h2 => by simp only [decide_eq_true_eq] at *; exact List.le_trans h1 h2
  have tot : ∀ a b : List UInt8, (decide (a ≤ b) || decide (b ≤ a)) = true := fun a b => by simp only [Bool.or_eq_true, decide_eq_true_eq]; exact List.le_total a b
  have hsort := List.pairwise_mergeSort tr tot ss
  generalize ss.mergeSort (fun x y => decide (x ≤ y)) = ts at hr hperm hsort hlen
  refine ⟨_, row_texts hr, ?_, fun z => ?_⟩
  · have h1 : ts.Pairwise (fun a b => a < b) := by
      have h2 : ts.Nodup := hperm.nodup_iff.2 hnd
      have h3 := List.Pairwise.and hsort h2
      refine h3.imp (fun {a b} hab => ?_)
      have hle := of_decide_eq_true hab.1
      by_cases hlt : a < b
      · exact hlt
      · exact absurd (List.le_antisymm hle (List.not_lt.1 hlt)) hab.2
    unfold Up
    rw [List.pairwise_map]
    refine h1.imp (fun {a b} hab => ?_)
    rw [ByteArray.toList_eq, ByteArray.toList_eq]
    exact hab
  · rw [List.mem_map]
    have hz : kl z = .string z.data.toList := rfl
    rw [hz, ← hmem, ← hperm.mem_iff]
    constructor
    · rintro ⟨a, ha, rfl⟩
      exact ha
    · intro h
      exact ⟨_, h, by cases z; simp⟩
end Go.Proofs.YtjiecjpepiknmaaGreat

namespace Go.Proofs.YtjiecjpepiknmaaGreat
set_option maxRecDepth 20000
open Go.RowKit
set_option linter.unusedVariables false
set_option linter.unusedSimpArgs false

/-- An event, or the zero one. -/
def LastV (o : Option Ev) (xs : List EvV) (y : EvV) : Prop := (o = none ∧ y = zeroEv) ∨ (o = some y.ev ∧ y ∈ xs)
def kI : Option Nat → Int
  | some k => (k : Int)
  | none => -1

set_option maxHeartbeats 3200000 in
theorem refLast_any (room user : ByteArray) (v : Value) (xs : List EvV) (w : World) (h : EvsS w v xs) (hv : Valid room (evs xs)) (hl : xs.length ≤ 1000) :
    Calls Tryz.prog 98 #[.agg #[.string room, v], .string user] w fun e w' => ∃ y : EvV, e = .returned (.tuple #[y.val, .bool (lastL (evs xs) user).isSome]) ∧ LastV (lastL (evs xs) user) xs y ∧ Gr w w' := by
  obtain ⟨A, cap, rfl, h1, h2, h3, _⟩ := id h.1
  unfold maxLen at h2
  have s1 : ∀ (u : World) (o : Obj), (u.alloc o).heap.size = u.heap.size + 1 := fun u o => by simp
  have hb1 := below_new w (.cells #[.string room, .slice A xs.length cap] 36)
  have hb2 := below_new (w.alloc (.cells #[.string room, .slice A xs.length cap] 36)) (.cells #[.string ⟨#[]⟩, .string ⟨#[]⟩, .slice none 0 0, .string ⟨#[]⟩, .string ⟨#[]⟩, .int .i64 0] 33)
  have hx1 := heap_alloc_new w (.cells #[.string room, .slice A xs.length cap] 36)
  have hx2 := heap_alloc_new (w.alloc (.cells #[.string room, .slice A xs.length cap] 36)) (.cells #[.string ⟨#[]⟩, .string ⟨#[]⟩, .slice none 0 0, .string ⟨#[]⟩, .string ⟨#[]⟩, .int .i64 0] 33)
  rw [s1] at hx2
  have HBX := Lib.hid ((hb2.block w.heap.size (smem_lt hx1)).trans hx1)
  have HRX := Lib.hid hx2
  have HBL := Lib.hid (((Gr.refl w).alloc (.cells #[.string room, .slice A xs.length cap] 36)).alloc (.cells #[.string ⟨#[]⟩, .string ⟨#[]⟩, .slice none 0 0, .string ⟨#[]⟩, .string ⟨#[]⟩, .int .i64 0] 33))
  have HE := Lib.hid h
  have HV := Lib.hid hv
  have mixed : Tryz.prog.follows .mixedOrders = true := by kernel_rfl
  clear h h3 hv s1 hb1 hb2 hx1 hx2
  go_enter Tryz.func98, Tryz.ntmps98
  go_upto_region 1 with (fail)
  generalize World.alloc _ _ = w1 at HBX HRX HBL ⊢
  have hB4 : w.heap.size ≤ w.heap.size + 1 := Nat.le_succ _
  generalize w.heap.size + 1 = B4 at HRX hB4 ⊢
  generalize hB2 : w.heap.size = B2 at HBX ⊢
  go_wp2_with fail
  go_loopw [6, 7] (fun u i wr => ∃ (a : Nat) (o : Option Nat), u = .int .i64 (kI o) ∧ i = .int .i64 (a : Int) ∧ a ≤ xs.length ∧ Hid (Gr w1 wr) ∧ Hid (refTo (evs xs) user a = o)) (fun _ i _ => xs.length - (intOf i).toNat)
  case atStart => exact ⟨0, none, rfl, rfl, Nat.zero_le _, Lib.hid (Gr.refl _), Lib.hid rfl⟩
  case round =>
    obtain ⟨a, o, rfl, rfl, ha, HO, HT⟩ := hrel
    have HX := Lib.hid ((HO.out.below.block B2 (smem_lt HBX.out)).trans HBX.out)
    have d1 : wr.cell? ⟨B2, 1, none⟩ = some (.slice A xs.length cap) := cell_at HX.out 1
    have d0 : wr.cell? ⟨B2, 0, none⟩ = some (.string room) := cell_at HX.out 0
    have HRR := Lib.hid ((HO.out.below.block B4 (smem_lt HRX.out)).trans HRX.out)
    have HLG := Lib.hid (HBL.out.trans HO.out)
    have HLW := Lib.hid HLG.out.below
    by_cases hax : a < xs.length
    · have q1 : decide ((a : Int) < (xs.length : Int)) = true := decide_eq_true (by omega)
      have hx : xs[a]? = some xs[a] := List.getElem?_eq_getElem hax
      generalize xs[a] = x at hx
      have HTS : Hid (refTo (evs xs) user (a + 1) = refStep (evs xs) user o a x.ev) := Lib.hid (by
        have h := evs_get hx
        rw [refTo, h]
        simp only
        rw [HT.out])
      obtain ⟨b, off, rfl, hb, hr⟩ := ev_at HE.out hx
      have HRG := Lib.hid hr
      have hix := index_any (P := Tryz.prog) knV (by decide) (b := b) (off := off) (cap := cap) hax
      simp only [LV] at hix
      have x4 : wr.cell? ⟨b, off + a * 6 + 4, none⟩ = some (.string x.ev.user) := (HLW.out.cell (p := ⟨b, off + a * 6 + 4, none⟩) hb).trans (HRG.out 4 _ rfl)
      have x5 : wr.cell? ⟨b, off + a * 6 + 5, none⟩ = some (.int .i64 x.ev.does) := (HLW.out.cell (p := ⟨b, off + a * 6 + 5, none⟩) hb).trans (HRG.out 5 _ rfl)
      clear hx hr
      have hsb : stepB user x.ev = (decide (x.ev.user = user) && !decide (x.ev.does = 0)) := rfl
      have q2 : (x.ev.user.toList == user.toList) = decide (x.ev.user = user) := keyB _ _
      by_cases hu : x.ev.user = user
      · rw [decide_eq_true hu] at q2 hsb
        by_cases hd : x.ev.does = 0
        · have q3 : (x.ev.does == 0) = true := by rw [beq_iff_eq]; exact hd
          have HS : Hid (refTo (evs xs) user (a + 1) = o) := Lib.hid (by rw [HTS.out]; unfold refStep; rw [hsb, decide_eq_true hd]; rfl)
          clear hsb hu hd
          go_wp2_with fail
          refine ⟨⟨a + 1, o, rfl, by go_num, by omega, HO, HS⟩, ?_⟩
          simp [intOf]; omega
        · have q3 : (x.ev.does == 0) = false := by rw [beq_eq_false_iff_ne]; exact hd
          rw [decide_eq_false hd] at hsb
          have HSB := Lib.hid hsb
          clear hsb hu hd
          cases o with
          | none =>
            have q4 : decide (kI none < 0) = true := by decide
            have HS : Hid (refTo (evs xs) user (a + 1) = some a) := Lib.hid (by rw [HTS.out]; unfold refStep; rw [HSB.out]; rfl)
            go_wp2_with fail
            refine ⟨⟨a + 1, some a, rfl, by go_num, by omega, HO, HS⟩, ?_⟩
            simp [intOf]; omega
          | some k =>
            have hk := refTo_lt HT.out
            rw [evs_len] at hk
            have q4 : decide (kI (some k) < 0) = false := decide_eq_false (show ¬ ((k : Int) < 0) by omega)
            have hy : xs[k]? = some xs[k] := List.getElem?_eq_getElem hk.2
            generalize xs[k] = y at hy
            have HSS : Hid (refTo (evs xs) user (a + 1) = if beforeP (posL (evs xs) y.ev.id) (posL (evs xs) x.ev.id) then some a else some k) := Lib.hid (by
              rw [HTS.out]
              unfold refStep
              rw [HSB.out, if_neg (by decide)]
              simp only
              rw [evs_get hy])
            obtain ⟨b', off', hA', hb', hry⟩ := ev_at HE.out hy
            injection hA' with hA'
            injection hA' with hA1 hA2
            subst hA1
            subst hA2
            have hiy := index_any (P := Tryz.prog) knV (by decide) (b := b) (off := off) (cap := cap) hk.2
            simp only [LV] at hiy
            have yw : wr.cell? ⟨b, off + k * 6, none⟩ = some (.string y.ev.id) := (HLW.out.cell (p := ⟨b, off + k * 6, none⟩) hb).trans (hry 0 _ rfl)
            have xw : wr.cell? ⟨b, off + a * 6, none⟩ = some (.string x.ev.id) := (HLW.out.cell (p := ⟨b, off + a * 6, none⟩) hb).trans (HRG.out 0 _ rfl)
            have hbw : b < wr.heap.size := Nat.lt_of_lt_of_le hb HLW.out.size
            have y0 := fun q os => cell_grown (w := wr) (a := ⟨b, off + k * 6, none⟩) hbw yw q os
            have x0 := fun q os => cell_grown (w := wr) (a := ⟨b, off + a * 6, none⟩) hbw xw q os
            have b0 := fun q os => cell_grown (w := wr) (a := ⟨B2, 0, none⟩) (smem_lt HX.out) d0 q os
            have b1 := fun q os => cell_grown (w := wr) (a := ⟨B2, 1, none⟩) (smem_lt HX.out) d1 q os
            have hpos := fun key q os => refPosition_any room key (.slice (some ⟨b, off, none⟩) xs.length cap) xs (Sort.grow (wr.drewN q) os) ((HE.out.below HLW.out).below (Gr.below ⟨q, os, rfl⟩)) HV.out hl
            have hbef := fun q os => refBefore_any (posL (evs xs) y.ev.id) (posL (evs xs) x.ev.id) (Sort.grow (wr.drewN q) os)
            have hk0 : kI (some k) = (k : Int) := rfl
            rw [hk0] at q4 ⊢
            clear hy hry yw xw hk0
            go_upto_region 8 with (fail)
            go_quiet_grown (first | (go_at_call 58; exact Calls.grown_of (hpos _ _ _)) | (go_at_call 57; exact Calls.grown_of (hbef _ _)))
            have HO4 := Lib.hid (HO.out.trans (⟨(GrownBy.mk nq osq).n, (GrownBy.mk nq osq).os, rfl⟩ : Gr wr (Sort.grow (wr.drewN nq) osq)))
            clear y0 x0 b0 b1 hpos hbef hiy HO d0 d1
            generalize Sort.grow _ _ = w4 at HO4 ⊢
            generalize hbb : beforeP (posL (evs xs) y.ev.id) (posL (evs xs) x.ev.id) = bb at HSS
            cases bb with
            | true =>
              go_wp2_with fail
              refine ⟨⟨a + 1, some a, rfl, by go_num, by omega, HO4, Lib.hid (by rw [HSS.out]; rfl)⟩, ?_⟩
              simp [intOf]; omega
            | false =>
              go_wp2_with fail
              refine ⟨⟨a + 1, some k, rfl, by go_num, by omega, HO4, Lib.hid (by rw [HSS.out]; rfl)⟩, ?_⟩
              simp [intOf]; omega
      · rw [decide_eq_false hu] at q2 hsb
        have HS : Hid (refTo (evs xs) user (a + 1) = o) := Lib.hid (by rw [HTS.out]; unfold refStep; rw [hsb]; rfl)
        clear hsb hu
        go_wp2_with fail
        refine ⟨⟨a + 1, o, rfl, by go_num, by omega, HO, HS⟩, ?_⟩
        simp [intOf]; omega
    · have q1 : decide ((a : Int) < (xs.length : Int)) = false := decide_eq_false (by omega)
      obtain rfl : a = xs.length := by omega
      have HF := Lib.hid (refTo_all HV.out user)
      rw [evs_len, HT.out] at HF
      cases o with
      | none =>
        have q4 : decide (kI none < 0) = true := by decide
        have HF2 : Hid (lastL (evs xs) user = none) := Lib.hid HF.out.symm
        have r0 : wr.cell? ⟨B4, 0, none⟩ = some (.string ⟨#[]⟩) := cell_at HRR.out 0
        have r1 : wr.cell? ⟨B4, 1, none⟩ = some (.string ⟨#[]⟩) := cell_at HRR.out 1
        have r2 : wr.cell? ⟨B4, 2, none⟩ = some (.slice none 0 0) := cell_at HRR.out 2
        have r3 : wr.cell? ⟨B4, 3, none⟩ = some (.string ⟨#[]⟩) := cell_at HRR.out 3
        have r4 : wr.cell? ⟨B4, 4, none⟩ = some (.string ⟨#[]⟩) := cell_at HRR.out 4
        have r5 : wr.cell? ⟨B4, 5, none⟩ = some (.int .i64 0) := cell_at HRR.out 5
        have z0 : wr.frozen? ⟨B4, 0, none⟩ = false := free_at HRR.out 0
        have z1 : wr.frozen? ⟨B4, 1, none⟩ = false := free_at HRR.out 1
        have z2 : wr.frozen? ⟨B4, 2, none⟩ = false := free_at HRR.out 2
        have z3 : wr.frozen? ⟨B4, 3, none⟩ = false := free_at HRR.out 3
        have z4 : wr.frozen? ⟨B4, 4, none⟩ = false := free_at HRR.out 4
        have z5 : wr.frozen? ⟨B4, 5, none⟩ = false := free_at HRR.out 5
        have HAN := Lib.hid (ev_stored HRR.out (.string ⟨#[]⟩) (.string ⟨#[]⟩) (.slice none 0 0) (.string ⟨#[]⟩) (.string ⟨#[]⟩) (.int .i64 0) rfl _ rfl)
        have HG9 := Lib.hid ((((((HLG.out.setCell (b := B4) hB4 0 (.string ⟨#[]⟩)).setCell (b := B4) hB4 1 (.string ⟨#[]⟩)).setCell (b := B4) hB4 2 (.slice none 0 0)).setCell (b := B4) hB4 3 (.string ⟨#[]⟩)).setCell (b := B4) hB4 4 (.string ⟨#[]⟩)).setCell (b := B4) hB4 5 (.int .i64 0))
        simp only [World.setCells] at HAN
        go_wp2_with fail
        clear r0 r1 r2 r3 r4 r5 z0 z1 z2 z3 z4 z5 d0 d1
        generalize World.setCell _ _ _ = w9 at HAN HG9 ⊢
        obtain ⟨k0, k1, k2, k3, k4, k5, k6⟩ := HAN.out
        refine bodyPost_ret (v := .tuple #[.agg #[.string ⟨#[]⟩, .string ⟨#[]⟩, .slice none 0 0, .string ⟨#[]⟩, .string ⟨#[]⟩, .int .i64 0], .bool false]) ?_ rfl ?_
        · simp [results, Tryz.results98, go_sem, k0, k1, k2, k3, k4, k5]
        · refine ⟨zeroEv, ?_, ?_, HG9.out⟩
          · rw [HF2.out]; rfl
          · rw [HF2.out]; exact .inl ⟨rfl, rfl⟩
      | some k =>
        have hk := refTo_lt HT.out
        rw [evs_len] at hk
        have q4 : decide (kI (some k) < 0) = false := decide_eq_false (show ¬ ((k : Int) < 0) by omega)
        have hk0 : kI (some k) = (k : Int) := rfl
        rw [hk0] at q4 ⊢
        have hy : xs[k]? = some xs[k] := List.getElem?_eq_getElem hk.2
        generalize xs[k] = y at hy
        have HF2 : Hid (lastL (evs xs) user = some y.ev) := Lib.hid (by rw [← HF.out]; exact evs_get hy)
        have HYM := Lib.hid (List.mem_of_getElem? hy)
        obtain ⟨b, off, rfl, hb, hry⟩ := ev_at HE.out hy
        have hiy := index_any (P := Tryz.prog) knV (by decide) (b := b) (off := off) (cap := cap) hk.2
        simp only [LV] at hiy
        obtain ⟨e0, e1, e2, e3, e4, e5⟩ := ev_cells (w := wr) (fun j u hu => (HLW.out.cell (p := ⟨b, off + k * 6 + j, none⟩) hb).trans (hry j u hu))
        unfold EvV.pv at e2
        clear hy hry hk0
        have r0 : wr.cell? ⟨B4, 0, none⟩ = some (.string ⟨#[]⟩) := cell_at HRR.out 0
        have r1 : wr.cell? ⟨B4, 1, none⟩ = some (.string ⟨#[]⟩) := cell_at HRR.out 1
        have r2 : wr.cell? ⟨B4, 2, none⟩ = some (.slice none 0 0) := cell_at HRR.out 2
        have r3 : wr.cell? ⟨B4, 3, none⟩ = some (.string ⟨#[]⟩) := cell_at HRR.out 3
        have r4 : wr.cell? ⟨B4, 4, none⟩ = some (.string ⟨#[]⟩) := cell_at HRR.out 4
        have r5 : wr.cell? ⟨B4, 5, none⟩ = some (.int .i64 0) := cell_at HRR.out 5
        have z0 : wr.frozen? ⟨B4, 0, none⟩ = false := free_at HRR.out 0
        have z1 : wr.frozen? ⟨B4, 1, none⟩ = false := free_at HRR.out 1
        have z2 : wr.frozen? ⟨B4, 2, none⟩ = false := free_at HRR.out 2
        have z3 : wr.frozen? ⟨B4, 3, none⟩ = false := free_at HRR.out 3
        have z4 : wr.frozen? ⟨B4, 4, none⟩ = false := free_at HRR.out 4
        have z5 : wr.frozen? ⟨B4, 5, none⟩ = false := free_at HRR.out 5
        have HAN := Lib.hid (ev_stored HRR.out (.string y.ev.id) (.string y.ev.room) (.slice y.A y.ev.parents.length y.cap) (.string y.ev.thread) (.string y.ev.user) (.int .i64 y.ev.does) rfl _ rfl)
        have HG9 := Lib.hid ((((((HLG.out.setCell (b := B4) hB4 0 (.string y.ev.id)).setCell (b := B4) hB4 1 (.string y.ev.room)).setCell (b := B4) hB4 2 (.slice y.A y.ev.parents.length y.cap)).setCell (b := B4) hB4 3 (.string y.ev.thread)).setCell (b := B4) hB4 4 (.string y.ev.user)).setCell (b := B4) hB4 5 (.int .i64 y.ev.does))
        simp only [World.setCells] at HAN
        go_wp2_with fail
        clear r0 r1 r2 r3 r4 r5 z0 z1 z2 z3 z4 z5 d0 d1 e0 e1 e2 e3 e4 e5
        generalize World.setCell _ _ _ = w9 at HAN HG9 ⊢
        obtain ⟨k0, k1, k2, k3, k4, k5, k6⟩ := HAN.out
        refine bodyPost_ret (v := .tuple #[.agg #[.string y.ev.id, .string y.ev.room, .slice y.A y.ev.parents.length y.cap, .string y.ev.thread, .string y.ev.user, .int .i64 y.ev.does], .bool true]) ?_ rfl ?_
        · simp [results, Tryz.results98, go_sem, k0, k1, k2, k3, k4, k5]
        · refine ⟨y, ?_, ?_, HG9.out⟩
          · rw [HF2.out]; rfl
          · rw [HF2.out]; exact .inr ⟨rfl, HYM.out⟩

def joinO (o : Option Ev) : Bool := match o with
  | some e => decide (e.does = 1)
  | none => false
theorem joinL_of (l : List Ev) (u : ByteArray) : joinL l u = joinO (lastL l u) := rfl
theorem joinO_none : joinO none = false := rfl
theorem joinO_some (e : Ev) : joinO (some e) = decide (e.does = 1) := rfl

set_option maxHeartbeats 1600000 in
theorem refJoined_any (room user : ByteArray) (v : Value) (xs : List EvV) (w : World) (h : EvsS w v xs) (hv : Valid room (evs xs)) (hl : xs.length ≤ 1000) :
    Calls Tryz.prog 66 #[.agg #[.string room, v], .string user] w fun e w' => e = .returned (.bool (joinL (evs xs) user)) ∧ Gr w w' := by
  have HBX := Lib.hid (heap_alloc_new w (.cells #[.string room, v] 36))
  have HBL := Lib.hid ((Gr.refl w).alloc (.cells #[.string room, v] 36))
  have HL := Lib.hid (fun W hW => refLast_any room user v xs W (h.below hW) hv hl)
  obtain ⟨A, cap, rfl, -⟩ := id h.1
  rw [joinL_of]
  generalize lastL (evs xs) user = o at HL ⊢
  clear h hv
  go_enter Tryz.func66, Tryz.ntmps66
  go_upto_region 1 with (fail)
  have HLW := Lib.hid (HL.out _ HBL.out.below)
  generalize w.alloc _ = w1 at HBX HBL HLW ⊢
  generalize w.heap.size = B2 at HBX ⊢
  have c0 : w1.cell? ⟨B2, 0, none⟩ = some (.string room) := cell_at HBX.out 0
  have c1 : w1.cell? ⟨B2, 1, none⟩ = some (.slice A xs.length cap) := cell_at HBX.out 1
  go_wp2_with fail
  go_at_call 98
  refine HLW.out.mono ?_
  rintro e w2 ⟨y, rfl, hy, hg⟩
  have HX3 := Lib.hid (heap_alloc_new w2 (.cells y.cells.toArray 33))
  have HG3 := Lib.hid ((HBL.out.trans hg).alloc (.cells y.cells.toArray 33))
  have HY := Lib.hid hy
  clear hg hy HL HLW c0 c1 HBX HBL
  unfold EvV.cells EvV.pv at HX3 HG3
  unfold EvV.val EvV.pv
  cases o with
  | none =>
    simp only [Option.isSome_none]
    go_wp2_with fail
    go_ret
    exact ⟨rfl, HG3.out⟩
  | some e =>
    simp only [Option.isSome_some]
    obtain rfl : e = y.ev := by
      rcases HY.out with ⟨h1, -⟩ | ⟨h1, -⟩
      · cases h1
      · injection h1
    have q1 : (y.ev.does == 1) = decide (y.ev.does = 1) := rfl
    go_wp2_with fail
    go_ret
    exact ⟨rfl, HG3.out⟩

set_option maxHeartbeats 3200000 in
theorem refUsers_any (room : ByteArray) (v : Value) (xs : List EvV) (w : World) (h : EvsS w v xs) (hv : Valid room (evs xs)) (hl : xs.length ≤ 1000) :
    Calls Tryz.prog 28 #[.agg #[.string room, v]] w fun e w' => ∃ v', e = .returned v' ∧ LT.Mine w' w.heap.size v' (usersL (evs xs)) ∧ Below w.heap.size w w' := by
  obtain ⟨A, cap, rfl, h1, h2, h3, _⟩ := id h.1
  unfold maxLen at h2
  have HBX := Lib.hid (heap_alloc_new w (.cells #[.string room, .slice A xs.length cap] 36))
  have HBL := Lib.hid (below_new w (.cells #[.string room, .slice A xs.length cap] 36))
  have HE := Lib.hid h
  have HV := Lib.hid hv
  have mixed : Tryz.prog.follows .mixedOrders = true := by kernel_rfl
  clear h h3 hv
  go_enter Tryz.func28, Tryz.ntmps28
  go_upto_region 1 with (fail)
  generalize w.alloc _ = w1 at HBX HBL ⊢
  generalize hB2 : w.heap.size = B2 at HBX ⊢
  go_wp2_with fail
  go_loopw [3, 4] (fun u i wr => ∃ (a : Nat) (ts : List ByteArray) (Ao : Option Addr) (co : Nat), u = .slice Ao ts.length co ∧ i = .int .i64 (a : Int) ∧ a ≤ xs.length ∧ Hid (HdS w1 wr u ts) ∧ Hid (ts = usersTo (evs xs) a)) (fun _ i _ => xs.length - (intOf i).toNat)
  case atStart => exact ⟨0, [], none, 0, rfl, rfl, Nat.zero_le _, Lib.hid ⟨Below.refl _ _, .inl ⟨rfl, rfl⟩⟩, Lib.hid rfl⟩
  case round =>
    obtain ⟨a, ts, Ao, co, rfl, rfl, ha, HO, HT⟩ := hrel
    have HX := Lib.hid ((HO.out.below.block B2 (smem_lt HBX.out)).trans HBX.out)
    have d0 : wr.cell? ⟨B2, 0, none⟩ = some (.string room) := cell_at HX.out 0
    have d1 : wr.cell? ⟨B2, 1, none⟩ = some (.slice A xs.length cap) := cell_at HX.out 1
    have HLW := Lib.hid (HBL.out.trans (HO.out.below.mono HBL.out.size))
    by_cases hax : a < xs.length
    · have q1 : decide ((a : Int) < (xs.length : Int)) = true := decide_eq_true (by omega)
      have hx : xs[a]? = some xs[a] := List.getElem?_eq_getElem hax
      generalize xs[a] = x at hx
      have HTS := Lib.hid (usersTo_succ (evs_get hx))
      have HTL : Hid (ts.length ≤ 1000) := Lib.hid (by
        rw [HT.out]
        have h8 := (usersTo_is (evs xs) a (by rw [evs_len]; exact ha)).2.1
        omega)
      rw [← HT.out] at HTS
      have HXA := Lib.hid (HE.out.2 x (List.mem_of_getElem? hx))
      obtain ⟨b, off, rfl, hb, hr⟩ := ev_at HE.out hx
      have hix := index_any (P := Tryz.prog) knV (by decide) (b := b) (off := off) (cap := cap) hax
      simp only [LV] at hix
      have hbw : b < wr.heap.size := Nat.lt_of_lt_of_le hb HLW.out.size
      have HXC : Hid (∀ W, Below w.heap.size w W → W.cell? ⟨b, off + a * 6 + 4, none⟩ = some (.string x.ev.user)) := Lib.hid (fun W hW => (hW.cell (p := ⟨b, off + a * 6 + 4, none⟩) hb).trans (hr 4 _ rfl))
      have x0 := fun q os => cell_grown (w := wr) (a := ⟨b, off + a * 6 + 4, none⟩) hbw (HXC.out _ HLW.out) q os
      have b0 := fun q os => cell_grown (w := wr) (a := ⟨B2, 0, none⟩) (smem_lt HX.out) d0 q os
      have b1 := fun q os => cell_grown (w := wr) (a := ⟨B2, 1, none⟩) (smem_lt HX.out) d1 q os
      have hjo := fun q os => refJoined_any room x.ev.user (.slice (some ⟨b, off, none⟩) xs.length cap) xs (Sort.grow (wr.drewN q) os) ((HE.out.below HLW.out).below (Gr.below ⟨q, os, rfl⟩)) HV.out hl
      clear hx hr
      go_wp2_with fail
      go_upto_region 5 with (fail)
      go_quiet_grown (first | (go_at_call 66; exact Calls.grown_of (hjo _ _)))
      have hg4 : Below wr.heap.size wr (Sort.grow (wr.drewN (GrownBy.mk nq osq).n) (GrownBy.mk nq osq).os) := Gr.below ⟨(GrownBy.mk nq osq).n, (GrownBy.mk nq osq).os, rfl⟩
      have HO4 := Lib.hid (HO.out.on hg4)
      have HX4 := Lib.hid ((hg4.block B2 (smem_lt HX.out)).trans HX.out)
      clear x0 b0 b1 hjo HO d0 d1 hg4 HX HLW
      replace HO4 : Hid (HdS w1 (Sort.grow (wr.drewN nq) osq) (.slice Ao ts.length co) ts) := HO4
      replace HX4 : Hid ((Sort.grow (wr.drewN nq) osq).heap[B2]? = some (.cells #[.string room, .slice (some ⟨b, off, none⟩) xs.length cap] 36 (0, 0))) := HX4
      generalize Sort.grow _ _ = w4 at HO4 HX4 ⊢
      have HLW := Lib.hid (HBL.out.trans (HO4.out.below.mono HBL.out.size))
      generalize joinL (evs xs) x.ev.user = jb at HTS ⊢
      cases jb with
      | false =>
        go_wp2_with fail
        refine ⟨⟨a + 1, ts, Ao, co, rfl, by go_num, by omega, HO4, Lib.hid (by rw [HTS.out]; rfl)⟩, ?_⟩
        simp [intOf]; omega
      | true =>
        have d1 : w4.cell? ⟨B2, 1, none⟩ = some (.slice (some ⟨b, off, none⟩) xs.length cap) := cell_at HX4.out 1
        have x4 := HXC.out _ HLW.out
        have HP := Lib.hid (refPut_any (.slice Ao ts.length co) ts x.ev.user w4 HO4.out.row.slice HTL.out)
        go_wp2_with fail
        go_at_call 67
        refine HP.out.mono ?_
        rintro e w5 ⟨v5, rfl, m5, b5⟩
        obtain ⟨A5, c5, rfl, -⟩ := id m5.shape
        have HO5 : Hid (HdS w1 w5 (.slice A5 (putL x.ev.user ts).length c5) (putL x.ev.user ts)) := Lib.hid ⟨HO4.out.below.trans (b5.mono HO4.out.below.size), m5.mono HO4.out.below.size⟩
        clear m5 b5 HP d1 x4 HO4
        go_wp2_with fail
        refine ⟨⟨a + 1, putL x.ev.user ts, A5, c5, rfl, by go_num, by omega, HO5, Lib.hid (by rw [HTS.out]; rfl)⟩, ?_⟩
        simp [intOf]; omega
    · have q1 : decide ((a : Int) < (xs.length : Int)) = false := decide_eq_false (by omega)
      obtain rfl : a = xs.length := by omega
      have HF : Hid (ts = usersL (evs xs)) := Lib.hid (by rw [HT.out, usersL, evs_len])
      go_wp2_with fail
      go_ret
      exact ⟨_, rfl, by rw [← HF.out]; exact HO.out.row.mono (by first | exact HBL.out.size | (rw [← hB2]; exact HBL.out.size)), by first | exact HLW.out | (rw [← hB2]; exact HLW.out)⟩

set_option maxHeartbeats 1600000 in
theorem refHomes_any (v : Value) (us : List ByteArray) (w : World) (h : LT.Slice w v us) (hl : us.length ≤ 1000) (hs : ∀ u ∈ us, u.size ≤ maxLen) :
    Calls Tryz.prog 69 #[v] w fun e w' => ∃ v', e = .returned v' ∧ LT.Mine w' w.heap.size v' (homesL us) ∧ Below w.heap.size w w' := by
  obtain ⟨A, cap, rfl, h1, h2, -⟩ := id h
  unfold maxLen at h2
  have HL := Lib.hid h
  have HS := Lib.hid hs
  clear h hs
  go_enter Tryz.func69, Tryz.ntmps69
  go_wp2_with fail
  go_loopw [3, 4] (fun u i wr => ∃ (a : Nat) (ts : List ByteArray) (Ao : Option Addr) (co : Nat), u = .slice Ao ts.length co ∧ i = .int .i64 (a : Int) ∧ a ≤ us.length ∧ Hid (HdS w wr u ts) ∧ Hid (ts = homesTo us a)) (fun _ i _ => us.length - (intOf i).toNat)
  case atStart => exact ⟨0, [], none, 0, rfl, rfl, Nat.zero_le _, Lib.hid ⟨Below.refl _ _, .inl ⟨rfl, rfl⟩⟩, Lib.hid rfl⟩
  case round =>
    obtain ⟨a, ts, Ao, co, rfl, rfl, ha, HO, HT⟩ := hrel
    by_cases hax : a < us.length
    · have q1 : decide ((a : Int) < (us.length : Int)) = true := decide_eq_true (by omega)
      have hx : us[a]? = some us[a] := List.getElem?_eq_getElem hax
      generalize us[a] = x at hx
      have HTS := Lib.hid (homesTo_succ hx)
      have HTL : Hid (ts.length ≤ 1000) := Lib.hid (by
        rw [HT.out]
        have h8 := (homesTo_is us a ha).2.1
        omega)
      rw [← HT.out] at HTS
      have hxs := HS.out x (List.mem_of_getElem? hx)
      obtain ⟨bo, oo, rfl, hbo, hco⟩ := text_at HL.out hx
      have hiy := index_any (P := Tryz.prog) knT (by decide) (b := bo) (off := oo) (cap := cap) hax
      simp only [LT] at hiy
      rw [Nat.mul_one] at hiy
      have e4 : wr.cell? ⟨bo, oo + a, none⟩ = some (.string x) := (HO.out.below.cell (p := ⟨bo, oo + a, none⟩) hbo).trans hco
      have HH := Lib.hid (refHome_any x wr hxs)
      clear hx hco
      generalize homeS x = hm at HTS HH
      go_wp2_with fail
      go_at_call 99
      refine HH.out.mono ?_
      rintro e w4 ⟨rfl, rfl⟩
      by_cases hz : hm = ⟨#[]⟩
      · subst hz
        have HF : Hid (homesTo us (a + 1) = ts) := Lib.hid (by rw [HTS.out]; rfl)
        go_wp2_with fail
        refine ⟨⟨a + 1, ts, Ao, co, rfl, by go_num, by omega, HO, Lib.hid HF.out.symm⟩, ?_⟩
        simp [intOf]; omega
      · have q2 : hm.toList.isEmpty = false := by
          rw [Bool.eq_false_iff]
          intro h9
          exact hz (key_ext (by rw [List.isEmpty_iff.1 h9, ByteArray.toList_eq]))
        have HF : Hid (homesTo us (a + 1) = putL hm ts) := Lib.hid (by rw [HTS.out, if_neg hz])
        have HP := Lib.hid (refPut_any (.slice Ao ts.length co) ts hm wr HO.out.row.slice HTL.out)
        go_wp2_with fail
        go_at_call 67
        refine HP.out.mono ?_
        rintro e w5 ⟨v5, rfl, m5, b5⟩
        obtain ⟨A5, c5, rfl, -⟩ := id m5.shape
        have HO5 : Hid (HdS w w5 (.slice A5 (putL hm ts).length c5) (putL hm ts)) := Lib.hid ⟨HO.out.below.trans (b5.mono HO.out.below.size), m5.mono HO.out.below.size⟩
        clear m5 b5 HP e4 HO
        go_wp2_with fail
        refine ⟨⟨a + 1, putL hm ts, A5, c5, rfl, by go_num, by omega, HO5, Lib.hid HF.out.symm⟩, ?_⟩
        simp [intOf]; omega
    · have q1 : decide ((a : Int) < (us.length : Int)) = false := decide_eq_false (by omega)
      obtain rfl : a = us.length := by omega
      go_wp2_with fail
      go_ret
      exact ⟨_, rfl, by rw [homesL, ← HT.out]; exact HO.out.row, HO.out.below⟩
theorem user_small {room : ByteArray} {l : List Ev} (hv : Valid room l) {e : Ev} (he : e ∈ l) : e.user.size ≤ 40 := by
  obtain ⟨i, hi⟩ := List.getElem?_of_mem he
  exact (may_short (err_zero (hv i e hi)).1).2.2.2.1
theorem users_small {room : ByteArray} {l : List Ev} (hv : Valid room l) : ∀ u ∈ usersL l, u.size ≤ 40 := by
  intro u hu
  rw [usersL, (usersTo_is l _ (Nat.le_refl _)).2.2, List.take_length] at hu
  obtain ⟨e, he, rfl, -⟩ := hu
  exact user_small hv he

set_option maxHeartbeats 1600000 in
theorem refServers_any (room : ByteArray) (v : Value) (xs : List EvV) (w : World) (h : EvsS w v xs) (hv : Valid room (evs xs)) (hl : xs.length ≤ 1000) :
    Calls Tryz.prog 30 #[.agg #[.string room, v]] w fun e w' => ∃ v', e = .returned v' ∧ LT.Mine w' w.heap.size v' (serversL (evs xs)) ∧ Below w.heap.size w w' := by
  obtain ⟨A, cap, rfl, -⟩ := id h.1
  have HBX := Lib.hid (heap_alloc_new w (.cells #[.string room, .slice A xs.length cap] 36))
  have HBL := Lib.hid (below_new w (.cells #[.string room, .slice A xs.length cap] 36))
  have HE := Lib.hid h
  have HV := Lib.hid hv
  have HUS : Hid (∀ u ∈ usersL (evs xs), u.size ≤ maxLen) := Lib.hid (fun u hu => Nat.le_trans (users_small hv u hu) (by unfold maxLen; omega))
  have HUL : Hid ((usersL (evs xs)).length ≤ 1000) := Lib.hid (by have := usersL_len (evs xs); rw [evs_len] at this; omega)
  clear h hv
  go_enter Tryz.func30, Tryz.ntmps30
  go_upto_region 1 with (fail)
  have HU := Lib.hid (refUsers_any room _ xs _ (HE.out.below HBL.out) HV.out hl)
  generalize w.alloc _ = w1 at HBX HBL HU ⊢
  generalize hB2 : w.heap.size = B2 at HBX ⊢
  have c0 : w1.cell? ⟨B2, 0, none⟩ = some (.string room) := cell_at HBX.out 0
  have c1 : w1.cell? ⟨B2, 1, none⟩ = some (.slice A xs.length cap) := cell_at HBX.out 1
  go_wp2_with fail
  go_at_call 28
  refine HU.out.mono ?_
  rintro e w2 ⟨v2, rfl, m2, b2⟩
  have HH := Lib.hid (refHomes_any v2 _ w2 m2.slice HUL.out HUS.out)
  have HB2 := Lib.hid (HBL.out.trans (b2.mono HBL.out.size))
  obtain ⟨A2, c2, rfl, -⟩ := id m2.shape
  clear m2 b2 c0 c1 HU
  go_wp2_with fail
  go_at_call 69
  refine HH.out.mono ?_
  rintro e w3 ⟨v3, rfl, m3, b3⟩
  have HM := Lib.hid m3
  have HB3 := Lib.hid (HB2.out.trans (b3.mono HB2.out.size))
  obtain ⟨A3, c3, rfl, -⟩ := id m3.shape
  clear m3 b3 HH
  go_wp2_with fail
  go_ret
  exact ⟨_, rfl, HM.out.mono (by first | exact HB2.out.size | (rw [← hB2]; exact HB2.out.size)), by first | exact HB3.out | (rw [← hB2]; exact HB3.out)⟩
end Go.Proofs.YtjiecjpepiknmaaGreat
