/-
  Dags of the same events: the same depths, the same row, the same heads, in whatever order they came. Plain facts.
-/
import Derived.Test.YtjiecjpepiknmaaGreatDagMk
namespace Go.Proofs.YtjiecjpepiknmaaGreat
set_option maxRecDepth 20000
set_option linter.unusedVariables false
set_option linter.unusedSimpArgs false

theorem pos_iff (a b : Po) : beforeP a b = true ↔ a.depth < b.depth ∨ (a.depth = b.depth ∧ a.id.toList < b.id.toList) := by
  simp [beforeP, Proofs.bytesLess_eq]
theorem pos_irrefl (a : Po) : beforeP a a = false := by
  rw [Bool.eq_false_iff]
  intro h
  rw [pos_iff] at h
  rcases h with h | ⟨_, h⟩
  · omega
  · exact List.lt_irrefl _ h
theorem pos_trans {a b c : Po} (h : beforeP a b = true) (k : beforeP b c = true) : beforeP a c = true := by
  rw [pos_iff] at *
  rcases h with h | ⟨h, h'⟩ <;> rcases k with k | ⟨k, k'⟩
  · exact .inl (by omega)
  · exact .inl (by omega)
  · exact .inl (by omega)
  · exact .inr ⟨by omega, List.lt_trans h' k'⟩
theorem pos_total {a b : Po} (h : a ≠ b) : beforeP a b = true ∨ beforeP b a = true := by
  rw [pos_iff, pos_iff]
  rcases Int.lt_trichotomy a.depth b.depth with ht | ht | ht
  · exact .inl (.inl ht)
  · by_cases hk : a.id.toList < b.id.toList
    · exact .inl (.inr ⟨ht, hk⟩)
    · by_cases hk' : b.id.toList < a.id.toList
      · exact .inr (.inr ⟨ht.symm, hk'⟩)
      · exfalso
        apply h
        obtain ⟨x, y⟩ := a
        obtain ⟨z, u⟩ := b
        simp only at ht hk hk'
        have : y = u := key_ext (List.le_antisymm (List.not_lt.1 hk') (List.not_lt.1 hk))
        rw [ht, this]
  · exact .inr (.inl ht)

/-- Where an event stands in a dag that may be. -/
theorem valid_idx {room : ByteArray} {l : List Ev} {i : Nat} {e : Ev} (hv : Valid room l) (he : l[i]? = some e) : idx l e.id = some i := by
  refine idx_hit he rfl (fun j y hj hy hh => ?_)
  have h0 := (err_zero (hv i e he)).2.2.1
  have : hasE (l.take i) e.id = true := has_iff.2 ⟨y, List.mem_of_getElem? (i := j) (by rw [List.getElem?_take, if_pos hj]; exact hy), hh⟩
  rw [h0] at this
  cases this
theorem valid_ids {room : ByteArray} {l : List Ev} {a b : Ev} (hv : Valid room l) (ha : a ∈ l) (hb : b ∈ l) (h : a.id = b.id) : a = b := by
  obtain ⟨i, hi, ei⟩ := List.getElem_of_mem ha
  obtain ⟨j, hj, ej⟩ := List.getElem_of_mem hb
  have h1 := valid_idx hv (List.getElem?_eq_getElem hi)
  have h2 := valid_idx hv (List.getElem?_eq_getElem hj)
  rw [ei] at h1
  rw [ej, ← h, h1] at h2
  injection h2 with h2
  subst h2
  rw [← ei, ← ej]
/-- An event's depth is one above its parents'. -/
theorem depth_rec {room : ByteArray} {l : List Ev} {e : Ev} (hv : Valid room l) (he : e ∈ l) : depthL l e.id = e.parents.foldl (fun m p => max m (depthL l p + 1)) 0 := by
  obtain ⟨i, hi, ei⟩ := List.getElem_of_mem he
  have hie : l[i]? = some e := by rw [List.getElem?_eq_getElem hi, ei]
  have h1 : depthL l e.id = (deps l).getD i 0 := by unfold depthL; rw [valid_idx hv hie]
  rw [h1, ← depTo_all hv hie]
  unfold depTo
  rw [List.take_length]
  obtain ⟨_, _, _, hp, _⟩ := err_zero (hv i e hie)
  have key : ∀ (ps : List ByteArray) (m : Nat), (∀ p ∈ ps, hasE (l.take i) p = true) → ps.foldl (fun m p => max m ((deps (l.take i)).getD ((idx l p).getD 0) 0 + 1)) m = ps.foldl (fun m p => max m (depthL l p + 1)) m := by
    intro ps
    induction ps with
    | nil => intro m _; rfl
    | cons p r ih =>
      intro m hq
      rw [List.foldl_cons, List.foldl_cons]
      have hpp := hq p List.mem_cons_self
      obtain ⟨e1, t, e2, ht⟩ := idx_take hpp
      have h3 : (deps (l.take i)).getD ((idx l p).getD 0) 0 = depthL l p := by
        unfold depthL
        rw [e1, e2, deps_take]
        simp only [Option.getD_some]
        rw [List.getD_eq_getElem?_getD, List.getD_eq_getElem?_getD, List.getElem?_take, if_pos ht]
      rw [h3]
      exact ih _ (fun q hq' => hq q (List.mem_cons_of_mem _ hq'))
  exact key _ _ hp
theorem depth_same {room room' : ByteArray} {l l' : List Ev} (hv : Valid room l) (hv' : Valid room' l') (hm : ∀ e, e ∈ l ↔ e ∈ l') (k : ByteArray) : depthL l k = depthL l' k := by
  have key : ∀ (n i : Nat) (e : Ev), i < n → l[i]? = some e → depthL l e.id = depthL l' e.id := by
    intro n
    induction n with
    | zero => intro i e hi; omega
    | succ n ih =>
      intro i e hi he
      have hel := List.mem_of_getElem? he
      rw [depth_rec hv hel, depth_rec hv' ((hm e).1 hel)]
      obtain ⟨_, _, _, hp, _⟩ := err_zero (hv i e he)
      have fold : ∀ (ps : List ByteArray) (m : Nat), (∀ p ∈ ps, hasE (l.take i) p = true) → ps.foldl (fun m p => max m (depthL l p + 1)) m = ps.foldl (fun m p => max m (depthL l' p + 1)) m := by
        intro ps
        induction ps with
        | nil => intro m _; rfl
        | cons p r ih2 =>
          intro m hq
          rw [List.foldl_cons, List.foldl_cons]
          obtain ⟨e1, t, e2, ht⟩ := idx_take (hq p List.mem_cons_self)
          obtain ⟨x, hx, hxe, _⟩ := idx_some (e1.trans e2)
          have := ih t x (by omega) hx
          rw [hxe] at this
          rw [this]
          exact ih2 _ (fun q hq' => hq q (List.mem_cons_of_mem _ hq'))
      exact fold _ _ hp
  cases h : idx l k with
  | some i =>
    obtain ⟨x, hx, hxe, _⟩ := idx_some h
    rw [← hxe]
    exact key (i + 1) i x (by omega) hx
  | none =>
    have h' : idx l' k = none := idx_miss (fun j y hy he => by
      have hy2 := (hm y).2 (List.mem_of_getElem? hy)
      have : hasE l k = true := has_iff.2 ⟨y, hy2, he⟩
      unfold hasE at this
      rw [h] at this
      cases this)
    unfold depthL
    rw [h, h']
theorem pos_same {room room' : ByteArray} {l l' : List Ev} (hv : Valid room l) (hv' : Valid room' l') (hm : ∀ e, e ∈ l ↔ e ∈ l') (k : ByteArray) : posL l k = posL l' k := by
  unfold posL
  rw [depth_same hv hv' hm]

/-- In its row. -/
def Sorted (l out : List Ev) : Prop := out.Pairwise (fun x y => beforeP (posL l x.id) (posL l y.id) = true)
theorem mem_insP {l : List Ev} {x y : Ev} : ∀ {out : List Ev}, y ∈ insP l x out ↔ y = x ∨ y ∈ out
  | [] => by simp [insP]
  | z :: r => by
    unfold insP
    cases beforeP (posL l z.id) (posL l x.id)
    · simp
    · simp only [cond_true, List.mem_cons, mem_insP (out := r)]
      constructor
      · rintro (h | h | h)
        · exact .inr (.inl h)
        · exact .inl h
        · exact .inr (.inr h)
      · rintro (h | h | h)
        · exact .inr (.inl h)
        · exact .inl h
        · exact .inr (.inr h)
theorem insP_row {l : List Ev} {x : Ev} : ∀ {out : List Ev}, Sorted l out → (∀ y ∈ out, y.id ≠ x.id) → Sorted l (insP l x out)
  | [], _, _ => by simp [insP, Sorted]
  | z :: r, h, hk => by
    have hz := (List.pairwise_cons.1 h).1
    unfold insP
    cases hb : beforeP (posL l z.id) (posL l x.id)
    · rw [cond_false]
      have hx : beforeP (posL l x.id) (posL l z.id) = true := by
        rcases pos_total (a := posL l x.id) (b := posL l z.id) (fun e => hk z List.mem_cons_self (by have := congrArg Po.id e; exact this.symm)) with h1 | h1
        · exact h1
        · rw [hb] at h1; cases h1
      refine List.pairwise_cons.2 ⟨fun y hy => ?_, h⟩
      rcases List.mem_cons.1 hy with rfl | hy
      · exact hx
      · exact pos_trans hx (hz y hy)
    · rw [cond_true]
      refine List.pairwise_cons.2 ⟨fun y hy => ?_, insP_row (List.pairwise_cons.1 h).2 (fun y hy => hk y (List.mem_cons_of_mem _ hy))⟩
      rcases mem_insP.1 hy with rfl | hy
      · exact hb
      · exact hz y hy
theorem allL_row {room : ByteArray} {l : List Ev} (hv : Valid room l) : Sorted l (allL l) ∧ ∀ x, x ∈ allL l ↔ x ∈ l := by
  have key : ∀ n, n ≤ l.length → Sorted l (allTo l n) ∧ ∀ x, x ∈ allTo l n ↔ x ∈ l.take n := by
    intro n
    induction n with
    | zero => intro _; exact ⟨List.Pairwise.nil, fun x => by simp [allTo]⟩
    | succ n ih =>
      intro hn
      obtain ⟨h1, h2⟩ := ih (by omega)
      have he : l[n]? = some l[n] := List.getElem?_eq_getElem (by omega)
      rw [allTo_succ he]
      refine ⟨insP_row h1 (fun y hy hh => ?_), fun x => ?_⟩
      · have h0 := (err_zero (hv n _ he)).2.2.1
        have : hasE (l.take n) l[n].id = true := has_iff.2 ⟨y, (h2 y).1 hy, hh⟩
        rw [h0] at this
        cases this
      · rw [mem_insP, h2, List.take_add_one, he, List.mem_append]
        simp only [Option.toList_some, List.mem_singleton]
        exact Or.comm
  have := key l.length (Nat.le_refl _)
  rw [allTo_all, List.take_length] at this
  exact this
theorem sorted_unique {l : List Ev} : ∀ {a b : List Ev}, Sorted l a → Sorted l b → (∀ x, x ∈ a ↔ x ∈ b) → a = b
  | [], [], _, _, _ => rfl
  | [], y :: r, _, _, h => by have := (h y).2 List.mem_cons_self; cases this
  | x :: r, [], _, _, h => by have := (h x).1 List.mem_cons_self; cases this
  | x :: r, y :: r', h1, h2, h => by
    have a1 := List.pairwise_cons.1 h1
    have a2 := List.pairwise_cons.1 h2
    have hno : ∀ {u v : Ev}, beforeP (posL l u.id) (posL l v.id) = true → beforeP (posL l v.id) (posL l u.id) = true → False := fun hu hv => by
      have := pos_trans hu hv
      rw [pos_irrefl] at this
      cases this
    have e : x = y := by
      rcases List.mem_cons.1 ((h x).1 List.mem_cons_self) with e | hx
      · exact e
      · rcases List.mem_cons.1 ((h y).2 List.mem_cons_self) with e | hy
        · exact e.symm
        · exact (hno (a1.1 y hy) (a2.1 x hx)).elim
    subst e
    congr 1
    refine sorted_unique a1.2 a2.2 (fun z => ?_)
    constructor
    · intro hz
      rcases List.mem_cons.1 ((h z).1 (List.mem_cons_of_mem _ hz)) with rfl | hz'
      · exact (hno (a1.1 z hz) (a1.1 z hz)).elim
      · exact hz'
    · intro hz
      rcases List.mem_cons.1 ((h z).2 (List.mem_cons_of_mem _ hz)) with rfl | hz'
      · exact (hno (a2.1 z hz) (a2.1 z hz)).elim
      · exact hz'
/-- In whatever order events came: the same row. -/
theorem allL_same {room room' : ByteArray} {l l' : List Ev} (hv : Valid room l) (hv' : Valid room' l') (hm : ∀ e, e ∈ l ↔ e ∈ l') : allL l = allL l' := by
  obtain ⟨h1, h2⟩ := allL_row hv
  obtain ⟨h3, h4⟩ := allL_row hv'
  have h5 : Sorted l (allL l') := by
    unfold Sorted at *
    simp only [pos_same hv hv' hm]
    exact h3
  exact sorted_unique h1 h5 (fun x => by rw [h2, h4, hm])
theorem isHead_same {l l' : List Ev} (hm : ∀ e, e ∈ l ↔ e ∈ l') (k : ByteArray) : isHead l k = isHead l' k := by
  unfold isHead
  rw [Bool.eq_iff_iff, List.all_eq_true, List.all_eq_true]
  exact ⟨fun h e he => h e ((hm e).2 he), fun h e he => h e ((hm e).1 he)⟩
theorem headsL_same {room room' : ByteArray} {l l' : List Ev} (hv : Valid room l) (hv' : Valid room' l') (hm : ∀ e, e ∈ l ↔ e ∈ l') : headsL l = headsL l' := by
  unfold headsL
  rw [allL_same hv hv' hm]
  congr 1
  exact List.filter_congr (fun e _ => isHead_same hm e.id)
/-- Those of the same events are as many. -/
theorem len_same {room room' : ByteArray} {l l' : List Ev} (hv : Valid room l) (hv' : Valid room' l') (hm : ∀ e, e ∈ l ↔ e ∈ l') : l.length = l'.length := by
  rw [← allL_len l, ← allL_len l', allL_same hv hv' hm]
/-- A parent's depth is lesser. -/
theorem depth_less {room : ByteArray} {l : List Ev} {e : Ev} {p : ByteArray} (hv : Valid room l) (he : e ∈ l) (hp : p ∈ e.parents) : depthL l p < depthL l e.id := by
  rw [depth_rec hv he]
  have up : ∀ (ps : List ByteArray) (m : Nat), m ≤ ps.foldl (fun m p => max m (depthL l p + 1)) m := by
    intro ps
    induction ps with
    | nil => intro m; exact Nat.le_refl _
    | cons q r ih => intro m; rw [List.foldl_cons]; exact Nat.le_trans (Nat.le_max_left _ _) (ih _)
  have key : ∀ (ps : List ByteArray) (m : Nat), p ∈ ps → depthL l p < ps.foldl (fun m p => max m (depthL l p + 1)) m := by
    intro ps
    induction ps with
    | nil => intro m h; cases h
    | cons q r ih =>
      intro m h
      rw [List.foldl_cons]
      rcases List.mem_cons.1 h with rfl | h
      · have := up r (max m (depthL l p + 1))
        omega
      · exact ih _ h
  exact key _ _ hp
end Go.Proofs.YtjiecjpepiknmaaGreat
