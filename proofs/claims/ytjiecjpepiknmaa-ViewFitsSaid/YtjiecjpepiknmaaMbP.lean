/-
  Who is in a room: plain facts.
-/
import Derived.Test.YtjiecjpepiknmaaDagPerm
namespace Go.Proofs.Ytjiecjpepiknmaa
set_option maxRecDepth 20000
set_option linter.unusedVariables false
set_option linter.unusedSimpArgs false

/-- Is it a step of the user's? -/
def stepB (u : ByteArray) (e : Ev) : Bool := decide (e.user = u) && !decide (e.does = 0)
def lastIn (s : List Ev) (u : ByteArray) : Option Ev := (s.filter (stepB u)).getLast?
theorem lastIn_nil (u : ByteArray) : lastIn [] u = none := rfl
theorem lastIn_snoc (s : List Ev) (e : Ev) (u : ByteArray) : lastIn (s ++ [e]) u = if stepB u e then some e else lastIn s u := by
  unfold lastIn
  rw [List.filter_append]
  cases h : stepB u e
  · simp [List.filter_cons, h]
  · simp [List.filter_cons, h]
theorem lastIn_mem {s : List Ev} {u : ByteArray} {e : Ev} (h : lastIn s u = some e) : e ∈ s ∧ e.user = u ∧ e.does ≠ 0 := by
  unfold lastIn at h
  have h1 := List.mem_of_getLast? h
  rw [List.mem_filter] at h1
  unfold stepB at h1
  simp only [Bool.and_eq_true, decide_eq_true_eq, Bool.not_eq_true', decide_eq_false_iff_not] at h1
  exact ⟨h1.1, h1.2.1, h1.2.2⟩
/-- A user's last step in a dag. -/
def lastL (l : List Ev) (u : ByteArray) : Option Ev := lastIn (allL l) u
def joinL (l : List Ev) (u : ByteArray) : Bool := match lastL l u with
  | some e => decide (e.does = 1)
  | none => false
/-- The last one of all. -/
def IsLast (l : List Ev) (u : ByteArray) (o : Option Ev) : Prop := match o with
  | none => ∀ f ∈ l, stepB u f = false
  | some e => e ∈ l ∧ stepB u e = true ∧ ∀ f ∈ l, stepB u f = true → f = e ∨ beforeP (posL l f.id) (posL l e.id) = true
theorem isLast_unique {l : List Ev} {u : ByteArray} {o o' : Option Ev} (h : IsLast l u o) (h' : IsLast l u o') : o = o' := by
  cases o with
  | none => cases o' with
    | none => rfl
    | some e' =>
      have h1 := h e' h'.1
      have h2 := h'.2.1
      rw [h1] at h2
      cases h2
  | some e => cases o' with
    | none =>
      have h1 := h' e h.1
      have h2 := h.2.1
      rw [h1] at h2
      cases h2
    | some e' =>
      rcases h.2.2 e' h'.1 h'.2.1 with h1 | h1
      · rw [h1]
      · rcases h'.2.2 e h.1 h.2.1 with h2 | h2
        · rw [h2]
        · have := pos_trans h1 h2
          rw [pos_irrefl] at this
          cases this
theorem isLast_sorted {l s : List Ev} (hs : Sorted l s) (hm : ∀ x, x ∈ s ↔ x ∈ l) (u : ByteArray) : IsLast l u (lastIn s u) := by
  have key : ∀ (t : List Ev), Sorted l t → IsLast t u (lastIn t u) → True := fun _ _ _ => trivial
  unfold lastIn
  cases h : (s.filter (stepB u)).getLast? with
  | none =>
    intro f hf
    rw [List.getLast?_eq_none_iff, List.filter_eq_nil_iff] at h
    simpa using h f ((hm f).2 hf)
  | some e =>
    have h1 := List.mem_of_getLast? h
    have h2 := List.mem_filter.1 h1
    refine ⟨(hm e).1 h2.1, h2.2, fun f hf hfs => ?_⟩
    have h3 : f ∈ s.filter (stepB u) := List.mem_filter.2 ⟨(hm f).2 hf, hfs⟩
    obtain ⟨pre, hp⟩ := List.getLast?_eq_some_iff.1 h
    have h4 : (s.filter (stepB u)).Pairwise (fun x y => beforeP (posL l x.id) (posL l y.id) = true) := List.Pairwise.filter _ hs
    rw [hp] at h3 h4
    rcases List.mem_append.1 h3 with h5 | h5
    · exact .inr ((List.pairwise_append.1 h4).2.2 f h5 e (by simp))
    · exact .inl (List.mem_singleton.1 h5)
theorem lastL_is {room : ByteArray} {l : List Ev} (hv : Valid room l) (u : ByteArray) : IsLast l u (lastL l u) := isLast_sorted (allL_row hv).1 (allL_row hv).2 u
theorem lastL_same {room room' : ByteArray} {l l' : List Ev} (hv : Valid room l) (hv' : Valid room' l') (hm : ∀ e, e ∈ l ↔ e ∈ l') (u : ByteArray) : lastL l u = lastL l' u := by
  unfold lastL
  rw [allL_same hv hv' hm]
theorem joinL_same {room room' : ByteArray} {l l' : List Ev} (hv : Valid room l) (hv' : Valid room' l') (hm : ∀ e, e ∈ l ↔ e ∈ l') (u : ByteArray) : joinL l u = joinL l' u := by
  unfold joinL
  rw [lastL_same hv hv' hm]
theorem lastL_mem {room : ByteArray} {l : List Ev} (hv : Valid room l) {u : ByteArray} {e : Ev} (h : lastL l u = some e) : e ∈ l ∧ e.user = u ∧ e.does ≠ 0 := by
  have h1 := lastIn_mem h
  exact ⟨((allL_row hv).2 e).1 h1.1, h1.2⟩
/-- The document's: gone through in their row as they came, the greatest so far. -/
def refStep (l : List Ev) (u : ByteArray) (o : Option Nat) (i : Nat) (e : Ev) : Option Nat :=
  if stepB u e = false then o else match o with
    | none => some i
    | some k => match l[k]? with
      | some f => if beforeP (posL l f.id) (posL l e.id) then some i else some k
      | none => some k
def refTo (l : List Ev) (u : ByteArray) : Nat → Option Nat
  | 0 => none
  | n + 1 => match l[n]? with
    | some e => refStep l u (refTo l u n) n e
    | none => refTo l u n
theorem refTo_lt {l : List Ev} {u : ByteArray} : ∀ {n k : Nat}, refTo l u n = some k → k < n ∧ k < l.length
  | 0, k, h => by cases h
  | n + 1, k, h => by
    unfold refTo at h
    cases he : l[n]? with
    | none =>
      rw [he] at h
      have := refTo_lt h
      omega
    | some e =>
      have hl := (List.getElem?_eq_some_iff.1 he).1
      rw [he] at h
      simp only [refStep] at h
      split at h
      · have := refTo_lt h
        omega
      · cases hr : refTo l u n with
        | none =>
          rw [hr] at h
          simp only [Option.some.injEq] at h
          omega
        | some j =>
          have hj := refTo_lt hr
          rw [hr] at h
          simp only at h
          split at h
          · split at h
            · injection h with h; omega
            · injection h with h; omega
          · injection h with h; omega
theorem refTo_is {room : ByteArray} {l : List Ev} (hv : Valid room l) (u : ByteArray) : ∀ n, n ≤ l.length →
    match refTo l u n with
    | none => ∀ f ∈ l.take n, stepB u f = false
    | some k => ∃ e, l[k]? = some e ∧ stepB u e = true ∧ ∀ f ∈ l.take n, stepB u f = true → f = e ∨ beforeP (posL l f.id) (posL l e.id) = true
  | 0, _ => by simp [refTo]
  | n + 1, hn => by
    have ih := refTo_is hv u n (by omega)
    have he : l[n]? = some l[n] := List.getElem?_eq_getElem (by omega)
    generalize l[n] = e at he
    unfold refTo
    rw [he]
    simp only [refStep]
    have hmem : ∀ f, f ∈ l.take (n + 1) ↔ f ∈ l.take n ∨ f = e := fun f => by
      rw [List.take_add_one, he, List.mem_append]
      simp
    cases hs : stepB u e
    · simp only [if_true]
      cases hr : refTo l u n with
      | none =>
        rw [hr] at ih
        simp only at ih ⊢
        intro f hf
        rcases (hmem f).1 hf with h | h
        · exact ih f h
        · rw [h]; exact hs
      | some k =>
        rw [hr] at ih
        simp only at ih ⊢
        obtain ⟨x, hx, hxs, hx2⟩ := ih
        refine ⟨x, hx, hxs, fun f hf hfs => ?_⟩
        rcases (hmem f).1 hf with h | h
        · exact hx2 f h hfs
        · rw [h, hs] at hfs; cases hfs
    · simp only [Bool.true_eq_false, if_false]
      cases hr : refTo l u n with
      | none =>
        rw [hr] at ih
        simp only at ih ⊢
        refine ⟨e, he, hs, fun f hf hfs => ?_⟩
        rcases (hmem f).1 hf with h | h
        · rw [ih f h] at hfs; cases hfs
        · exact .inl h
      | some k =>
        rw [hr] at ih
        simp only at ih ⊢
        obtain ⟨x, hx, hxs, hx2⟩ := ih
        rw [hx]
        simp only
        have hkn := (refTo_lt hr).1
        cases hb : beforeP (posL l x.id) (posL l e.id)
        · simp only [Bool.false_eq_true, if_false]
          refine ⟨x, hx, hxs, fun f hf hfs => ?_⟩
          rcases (hmem f).1 hf with h | h
          · exact hx2 f h hfs
          · subst h
            rcases pos_total (a := posL l x.id) (b := posL l f.id) (fun e2 => by
              have hid : x.id = f.id := congrArg Po.id e2
              have hxf := valid_ids hv (List.mem_of_getElem? hx) (List.mem_of_getElem? he) hid
              subst hxf
              have h1 := valid_idx hv hx
              have h2 := valid_idx hv he
              rw [h1] at h2
              injection h2 with h2
              omega) with h1 | h1
            · rw [hb] at h1; cases h1
            · exact .inr h1
        · simp only [if_true]
          refine ⟨e, he, hs, fun f hf hfs => ?_⟩
          rcases (hmem f).1 hf with h | h
          · rcases hx2 f h hfs with h2 | h2
            · rw [h2]; exact .inr hb
            · exact .inr (pos_trans h2 hb)
          · exact .inl h
theorem refTo_all {room : ByteArray} {l : List Ev} (hv : Valid room l) (u : ByteArray) : (match refTo l u l.length with | some k => l[k]? | none => none) = lastL l u := by
  refine isLast_unique (l := l) (u := u) ?_ (lastL_is hv u)
  have h := refTo_is hv u l.length (Nat.le_refl _)
  rw [List.take_length] at h
  cases hr : refTo l u l.length with
  | none => rw [hr] at h; exact h
  | some k =>
    rw [hr] at h
    obtain ⟨e, he, h1, h2⟩ := h
    simp only
    rw [he]
    exact ⟨List.mem_of_getElem? he, h1, h2⟩

/-- Rising. -/
def Up (l : List ByteArray) : Prop := l.Pairwise (fun a b => a.toList < b.toList)
theorem up_unique : ∀ {a b : List ByteArray}, Up a → Up b → (∀ x, x ∈ a ↔ x ∈ b) → a = b
  | [], [], _, _, _ => rfl
  | [], y :: r, _, _, h => by have := (h y).2 List.mem_cons_self; cases this
  | x :: r, [], _, _, h => by have := (h x).1 List.mem_cons_self; cases this
  | x :: r, y :: r', h1, h2, h => by
    have a1 := List.pairwise_cons.1 h1
    have a2 := List.pairwise_cons.1 h2
    have hno : ∀ {u v : ByteArray}, u.toList < v.toList → v.toList < u.toList → False := fun hu hv => List.lt_irrefl _ (List.lt_trans hu hv)
    have e : x = y := by
      rcases List.mem_cons.1 ((h x).1 List.mem_cons_self) with e | hx
      · exact e
      · rcases List.mem_cons.1 ((h y).2 List.mem_cons_self) with e | hy
        · exact e.symm
        · exact (hno (a1.1 y hy) (a2.1 x hx)).elim
    subst e
    congr 1
    refine up_unique a1.2 a2.2 (fun z => ?_)
    constructor
    · intro hz
      rcases List.mem_cons.1 ((h z).1 (List.mem_cons_of_mem _ hz)) with rfl | hz'
      · exact (hno (a1.1 z hz) (a1.1 z hz)).elim
      · exact hz'
    · intro hz
      rcases List.mem_cons.1 ((h z).2 (List.mem_cons_of_mem _ hz)) with rfl | hz'
      · exact (hno (a2.1 z hz) (a2.1 z hz)).elim
      · exact hz'
/-- A text is put where it belongs: s ≤ x is asked as not x < s. -/
def leS (s x : ByteArray) : Bool := !Op.bytesLess x.toList s.toList
theorem leS_iff {s x : ByteArray} : leS s x = true ↔ ¬ x.toList < s.toList := by
  unfold leS
  rw [Bool.not_eq_true', Proofs.bytesLess_eq]
  simp
def putL (s : ByteArray) : List ByteArray → List ByteArray
  | [] => [s]
  | x :: r => bif leS s x then s :: (x :: r).filter (fun y => !decide (y = s)) else x :: putL s r
theorem putL_mem (s z : ByteArray) : ∀ l : List ByteArray, z ∈ putL s l ↔ z = s ∨ z ∈ l
  | [] => by simp [putL]
  | x :: r => by
    unfold putL
    cases leS s x
    · simp only [cond_false, List.mem_cons, putL_mem s z r]
      constructor
      · rintro (h | h | h)
        · exact .inr (.inl h)
        · exact .inl h
        · exact .inr (.inr h)
      · rintro (h | h | h)
        · exact .inr (.inl h)
        · exact .inl h
        · exact .inr (.inr h)
    · simp only [cond_true, List.mem_cons, List.mem_filter, Bool.not_eq_true', decide_eq_false_iff_not]
      constructor
      · rintro (h | ⟨h, _⟩)
        · exact .inl h
        · exact .inr h
      · rintro (h | h)
        · exact .inl h
        · by_cases hz : z = s
          · exact .inl hz
          · exact .inr ⟨h, hz⟩
theorem putL_up (s : ByteArray) : ∀ l : List ByteArray, Up l → Up (putL s l)
  | [], _ => List.pairwise_singleton _ _
  | x :: r, h => by
    have h1 := List.pairwise_cons.1 h
    unfold putL
    cases hb : leS s x
    · rw [cond_false]
      have hx : x.toList < s.toList := by
        by_cases hh : x.toList < s.toList
        · exact hh
        · rw [leS_iff.2 hh] at hb; cases hb
      refine List.pairwise_cons.2 ⟨fun y hy => ?_, putL_up s r h1.2⟩
      rcases (putL_mem s y r).1 hy with rfl | hy
      · exact hx
      · exact h1.1 y hy
    · rw [cond_true]
      have hx := leS_iff.1 hb
      refine List.pairwise_cons.2 ⟨fun y hy => ?_, List.Pairwise.filter _ h⟩
      rw [List.mem_filter, Bool.not_eq_true', decide_eq_false_iff_not] at hy
      have hlt : ∀ z : ByteArray, ¬ z.toList < s.toList → z ≠ s → s.toList < z.toList := fun z hz hne => by
        by_cases h9 : s.toList < z.toList
        · exact h9
        · exact absurd (key_ext (List.le_antisymm (List.not_lt.1 h9) (List.not_lt.1 hz))) hne
      rcases List.mem_cons.1 hy.1 with rfl | hy1
      · exact hlt _ hx hy.2
      · refine hlt y (fun hh => hx (List.lt_trans (h1.1 y hy1) hh)) hy.2
/-- The document's Put, step by step. -/
def putStep (s : ByteArray) (p : Bool × List ByteArray) (x : ByteArray) : Bool × List ByteArray :=
  let q : Bool × List ByteArray := if (!p.1 && leS s x) = true then (true, p.2 ++ [s]) else p
  (q.1, if x = s then q.2 else q.2 ++ [x])
def putTo (s : ByteArray) (l : List ByteArray) (n : Nat) : Bool × List ByteArray := (l.take n).foldl (putStep s) (false, [])
theorem putTo_succ {s : ByteArray} {l : List ByteArray} {n : Nat} {x : ByteArray} (h : l[n]? = some x) : putTo s l (n + 1) = putStep s (putTo s l n) x := by
  unfold putTo
  rw [List.take_add_one, h, List.foldl_append]
  rfl
theorem putStep_done (s : ByteArray) : ∀ (l pre : List ByteArray), l.foldl (putStep s) (true, pre) = (true, pre ++ l.filter (fun y => !decide (y = s)))
  | [], pre => by simp
  | x :: r, pre => by
    rw [List.foldl_cons]
    have h1 : putStep s (true, pre) x = (true, if x = s then pre else pre ++ [x]) := by
      unfold putStep
      simp
    rw [h1, putStep_done s r]
    by_cases hx : x = s
    · simp [hx, List.filter_cons]
    · simp [hx, List.filter_cons]
theorem putStep_all (s : ByteArray) : ∀ (l pre : List ByteArray), (let p := l.foldl (putStep s) (false, pre); if p.1 = true then p.2 else p.2 ++ [s]) = pre ++ putL s l
  | [], pre => by simp [putL]
  | x :: r, pre => by
    rw [List.foldl_cons]
    unfold putL
    cases hb : leS s x
    · have hx : x ≠ s := fun e => by
        subst e
        have := leS_iff.2 (List.lt_irrefl x.toList)
        rw [hb] at this; cases this
      have h1 : putStep s (false, pre) x = (false, pre ++ [x]) := by
        unfold putStep
        simp [hb, hx]
      rw [h1, cond_false]
      have := putStep_all s r (pre ++ [x])
      simp only [List.append_assoc, List.singleton_append] at this
      exact this
    · have h1 : putStep s (false, pre) x = (true, if x = s then pre ++ [s] else pre ++ [s] ++ [x]) := by
        unfold putStep
        simp [hb]
      rw [h1, cond_true, putStep_done]
      by_cases hx : x = s
      · simp [hx, List.filter_cons]
      · simp [hx, List.filter_cons]
theorem putTo_all (s : ByteArray) (l : List ByteArray) : (if (putTo s l l.length).1 = true then (putTo s l l.length).2 else (putTo s l l.length).2 ++ [s]) = putL s l := by
  have h := putStep_all s l []
  unfold putTo
  rw [List.take_length]
  simpa using h
theorem putTo_len (s : ByteArray) (l : List ByteArray) (n : Nat) : (putTo s l n).2.length ≤ 2 * n := by
  induction n with
  | zero => simp [putTo]
  | succ n ih =>
    cases h : l[n]? with
    | none =>
      have h2 : putTo s l (n + 1) = putTo s l n := by
        unfold putTo
        rw [List.take_add_one, h]
        simp
      rw [h2]; omega
    | some x =>
      rw [putTo_succ h]
      unfold putStep
      simp only
      split <;> split <;> (try simp only [List.length_append, List.length_cons, List.length_nil]) <;> omega
theorem putTo_mem {s : ByteArray} {l : List ByteArray} : ∀ (n : Nat) (z : ByteArray), z ∈ (putTo s l n).2 → z = s ∨ z ∈ l
  | 0, z, h => by simp [putTo] at h
  | n + 1, z, h => by
    cases hx : l[n]? with
    | none =>
      have h2 : putTo s l (n + 1) = putTo s l n := by
        unfold putTo
        rw [List.take_add_one, hx]
        simp
      rw [h2] at h
      exact putTo_mem n z h
    | some x =>
      rw [putTo_succ hx] at h
      unfold putStep at h
      simp only at h
      have hxl := List.mem_of_getElem? hx
      have ih := putTo_mem (s := s) (l := l) n z
      split at h <;> split at h
      · simp only [List.mem_append, List.mem_singleton] at h
        rcases h with h | h
        · exact ih h
        · exact .inl h
      · exact ih h
      · simp only [List.mem_append, List.mem_singleton] at h
        rcases h with (h | h) | h
        · exact ih h
        · exact .inl h
        · rw [h]; exact .inr hxl
      · simp only [List.mem_append, List.mem_singleton] at h
        rcases h with h | h
        · exact ih h
        · rw [h]; exact .inr hxl
theorem putL_len (s : ByteArray) : ∀ l : List ByteArray, (putL s l).length ≤ l.length + 1
  | [] => by simp [putL]
  | x :: r => by
    unfold putL
    cases leS s x
    · simp only [cond_false, List.length_cons]
      have := putL_len s r
      omega
    · simp only [cond_true, List.length_cons]
      have := List.length_filter_le (fun y => !decide (y = s)) (x :: r)
      simp only [List.length_cons] at this
      omega
/-- All who are joined. -/
def usersTo (l : List Ev) (n : Nat) : List ByteArray := (l.take n).foldl (fun out e => if joinL l e.user = true then putL e.user out else out) []
def usersL (l : List Ev) : List ByteArray := usersTo l l.length
theorem usersTo_succ {l : List Ev} {n : Nat} {e : Ev} (h : l[n]? = some e) : usersTo l (n + 1) = if joinL l e.user = true then putL e.user (usersTo l n) else usersTo l n := by
  unfold usersTo
  rw [List.take_add_one, h, List.foldl_append]
  rfl
theorem usersTo_is (l : List Ev) : ∀ n, n ≤ l.length → Up (usersTo l n) ∧ (usersTo l n).length ≤ n ∧ ∀ z, z ∈ usersTo l n ↔ ∃ e ∈ l.take n, e.user = z ∧ joinL l z = true
  | 0, _ => ⟨List.Pairwise.nil, by simp [usersTo], fun z => by simp [usersTo]⟩
  | n + 1, hn => by
    obtain ⟨h1, h2, h3⟩ := usersTo_is l n (by omega)
    have he : l[n]? = some l[n] := List.getElem?_eq_getElem (by omega)
    generalize l[n] = e at he
    have hmem : ∀ f, f ∈ l.take (n + 1) ↔ f ∈ l.take n ∨ f = e := fun f => by
      rw [List.take_add_one, he, List.mem_append]
      simp
    rw [usersTo_succ he]
    by_cases hj : joinL l e.user = true
    · rw [if_pos hj]
      refine ⟨putL_up _ _ h1, Nat.le_trans (putL_len _ _) (by omega), fun z => ?_⟩
      rw [putL_mem, h3]
      constructor
      · rintro (rfl | ⟨f, hf, hfz⟩)
        · exact ⟨e, (hmem e).2 (.inr rfl), rfl, hj⟩
        · exact ⟨f, (hmem f).2 (.inl hf), hfz⟩
      · rintro ⟨f, hf, hfu, hfz⟩
        rcases (hmem f).1 hf with h | rfl
        · exact .inr ⟨f, h, hfu, hfz⟩
        · exact .inl hfu.symm
    · rw [if_neg hj]
      refine ⟨h1, by omega, fun z => ?_⟩
      rw [h3]
      constructor
      · rintro ⟨f, hf, hfz⟩
        exact ⟨f, (hmem f).2 (.inl hf), hfz⟩
      · rintro ⟨f, hf, hfu, hfz⟩
        rcases (hmem f).1 hf with h | rfl
        · exact ⟨f, h, hfu, hfz⟩
        · rw [hfu] at hj; exact absurd hfz hj
theorem usersL_up (l : List Ev) : Up (usersL l) := (usersTo_is l _ (Nat.le_refl _)).1
theorem usersL_len (l : List Ev) : (usersL l).length ≤ l.length := (usersTo_is l _ (Nat.le_refl _)).2.1
theorem usersL_mem {room : ByteArray} {l : List Ev} (hv : Valid room l) (z : ByteArray) : z ∈ usersL l ↔ joinL l z = true := by
  rw [usersL, (usersTo_is l _ (Nat.le_refl _)).2.2, List.take_length]
  constructor
  · rintro ⟨_, _, _, h⟩; exact h
  · intro h
    have h' := h
    unfold joinL at h
    cases hh : lastL l z with
    | none => rw [hh] at h; cases h
    | some e =>
      have := lastL_mem hv hh
      exact ⟨e, this.1, this.2.1, h'⟩
theorem usersL_same {room room' : ByteArray} {l l' : List Ev} (hv : Valid room l) (hv' : Valid room' l') (hm : ∀ e, e ∈ l ↔ e ∈ l') : usersL l = usersL l' :=
  up_unique (usersL_up l) (usersL_up l') (fun z => by rw [usersL_mem hv, usersL_mem hv', joinL_same hv hv' hm])
/-- The homes of these. -/
def homesTo (us : List ByteArray) (n : Nat) : List ByteArray := (us.take n).foldl (fun out u => if homeS u = ⟨#[]⟩ then out else putL (homeS u) out) []
def homesL (us : List ByteArray) : List ByteArray := homesTo us us.length
theorem homesTo_succ {us : List ByteArray} {n : Nat} {u : ByteArray} (h : us[n]? = some u) : homesTo us (n + 1) = if homeS u = ⟨#[]⟩ then homesTo us n else putL (homeS u) (homesTo us n) := by
  unfold homesTo
  rw [List.take_add_one, h, List.foldl_append]
  rfl
theorem homesTo_is (us : List ByteArray) : ∀ n, n ≤ us.length → Up (homesTo us n) ∧ (homesTo us n).length ≤ n ∧ ∀ z, z ∈ homesTo us n ↔ ∃ u ∈ us.take n, homeS u = z ∧ z ≠ ⟨#[]⟩
  | 0, _ => ⟨List.Pairwise.nil, by simp [homesTo], fun z => by simp [homesTo]⟩
  | n + 1, hn => by
    obtain ⟨h1, h2, h3⟩ := homesTo_is us n (by omega)
    have he : us[n]? = some us[n] := List.getElem?_eq_getElem (by omega)
    generalize us[n] = u at he
    have hmem : ∀ f, f ∈ us.take (n + 1) ↔ f ∈ us.take n ∨ f = u := fun f => by
      rw [List.take_add_one, he, List.mem_append]
      simp
    rw [homesTo_succ he]
    by_cases hj : homeS u = ⟨#[]⟩
    · rw [if_pos hj]
      refine ⟨h1, by omega, fun z => ?_⟩
      rw [h3]
      constructor
      · rintro ⟨f, hf, hfz⟩
        exact ⟨f, (hmem f).2 (.inl hf), hfz⟩
      · rintro ⟨f, hf, hfu, hfz⟩
        rcases (hmem f).1 hf with h | rfl
        · exact ⟨f, h, hfu, hfz⟩
        · rw [hj] at hfu; exact absurd hfu.symm hfz
    · rw [if_neg hj]
      refine ⟨putL_up _ _ h1, Nat.le_trans (putL_len _ _) (by omega), fun z => ?_⟩
      rw [putL_mem, h3]
      constructor
      · rintro (rfl | ⟨f, hf, hfz⟩)
        · exact ⟨u, (hmem u).2 (.inr rfl), rfl, hj⟩
        · exact ⟨f, (hmem f).2 (.inl hf), hfz⟩
      · rintro ⟨f, hf, hfu, hfz⟩
        rcases (hmem f).1 hf with h | rfl
        · exact .inr ⟨f, h, hfu, hfz⟩
        · exact .inl hfu.symm
theorem homesL_up (us : List ByteArray) : Up (homesL us) := (homesTo_is us _ (Nat.le_refl _)).1
theorem homesL_len (us : List ByteArray) : (homesL us).length ≤ us.length := (homesTo_is us _ (Nat.le_refl _)).2.1
theorem homesL_mem (us : List ByteArray) (z : ByteArray) : z ∈ homesL us ↔ ∃ u ∈ us, homeS u = z ∧ z ≠ ⟨#[]⟩ := by
  rw [homesL, (homesTo_is us _ (Nat.le_refl _)).2.2, List.take_length]
def serversL (l : List Ev) : List ByteArray := homesL (usersL l)
end Go.Proofs.Ytjiecjpepiknmaa
