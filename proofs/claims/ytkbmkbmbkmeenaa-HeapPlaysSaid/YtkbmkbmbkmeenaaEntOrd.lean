/-
  Entries in their row: an order; what is put and dropped stays in its row, each key once. Plain facts.
-/
import Derived.Test.YtkbmkbmbkmeenaaEnt
import Derived.Sort.Walk0
namespace Go.Proofs.Ytkbmkbmbkmeenaa
set_option linter.unusedVariables false
set_option linter.unusedSimpArgs false

theorem before_iff (x y : Ent) : beforeB x y = true ↔ x.tick < y.tick ∨ (x.tick = y.tick ∧ x.key.toList < y.key.toList) := by
  simp [beforeB, Proofs.bytesLess_eq]
theorem before_irrefl (x : Ent) : beforeB x x = false := by
  rw [Bool.eq_false_iff]
  intro h
  rw [before_iff] at h
  rcases h with h | ⟨_, h⟩
  · omega
  · exact List.lt_irrefl _ h
theorem before_trans {x y z : Ent} (h : beforeB x y = true) (k : beforeB y z = true) : beforeB x z = true := by
  rw [before_iff] at *
  rcases h with h | ⟨h, h'⟩ <;> rcases k with k | ⟨k, k'⟩
  · exact .inl (by omega)
  · exact .inl (by omega)
  · exact .inl (by omega)
  · exact .inr ⟨by omega, List.lt_trans h' k'⟩
theorem key_ext {a b : ByteArray} (h : a.toList = b.toList) : a = b := by
  rw [ByteArray.toList_eq, ByteArray.toList_eq] at h
  exact (byteArray_eq_iff a b).2 h
theorem before_total {x y : Ent} (h : x ≠ y) : beforeB x y = true ∨ beforeB y x = true := by
  rw [before_iff, before_iff]
  rcases Int.lt_trichotomy x.tick y.tick with ht | ht | ht
  · exact .inl (.inl ht)
  · by_cases hk : x.key.toList < y.key.toList
    · exact .inl (.inr ⟨ht, hk⟩)
    · by_cases hk' : y.key.toList < x.key.toList
      · exact .inr (.inr ⟨ht.symm, hk'⟩)
      · exfalso
        apply h
        obtain ⟨a, b⟩ := x
        obtain ⟨c, d⟩ := y
        simp only at ht hk hk'
        have : b = d := key_ext (List.le_antisymm (List.not_lt.1 hk') (List.not_lt.1 hk))
        rw [ht, this]
  · exact .inr (.inl ht)

/-- In its row, each key once. -/
def RowL (l : List Ent) : Prop := l.Pairwise (fun x y => beforeB x y = true) ∧ (l.map Ent.key).Nodup
theorem row_nil : RowL [] := ⟨List.Pairwise.nil, by simp⟩
theorem drop_sublist (k : ByteArray) : ∀ l : List Ent, (dropL k l).Sublist l
  | [] => List.Sublist.refl _
  | x :: r => by
    unfold dropL
    split
    · exact List.sublist_cons_self x r
    · exact (drop_sublist k r).cons_cons x
theorem row_sub {l l' : List Ent} (h : RowL l) (hs : l'.Sublist l) : RowL l' := ⟨h.1.sublist hs, h.2.sublist (hs.map _)⟩
theorem row_drop {k : ByteArray} {l : List Ent} (h : RowL l) : RowL (dropL k l) := row_sub h (drop_sublist k l)
theorem left_suffix (t : Int) : ∀ l : List Ent, (leftL t l).Sublist l
  | [] => List.Sublist.refl _
  | x :: r => by
    unfold leftL
    split
    · exact (left_suffix t r).trans (List.sublist_cons_self x r)
    · exact List.Sublist.refl _
theorem row_left {t : Int} {l : List Ent} (h : RowL l) : RowL (leftL t l) := row_sub h (left_suffix t l)
theorem mem_drop {k : ByteArray} : ∀ {l : List Ent}, (l.map Ent.key).Nodup → ∀ x, x ∈ dropL k l ↔ x ∈ l ∧ x.key ≠ k
  | [], _, x => by simp [dropL]
  | y :: r, h, x => by
    simp only [List.map_cons, List.nodup_cons, List.mem_map, not_exists, not_and] at h
    unfold dropL
    by_cases hy : y.key = k
    · rw [if_pos hy]
      constructor
      · intro hx
        exact ⟨List.mem_cons_of_mem _ hx, fun e => h.1 x hx (by rw [e, hy])⟩
      · rintro ⟨hx, hk⟩
        rcases List.mem_cons.1 hx with rfl | hx
        · exact absurd hy hk
        · exact hx
    · rw [if_neg hy, List.mem_cons, mem_drop h.2 x, List.mem_cons]
      constructor
      · rintro (rfl | ⟨h1, h2⟩)
        · exact ⟨.inl rfl, hy⟩
        · exact ⟨.inr h1, h2⟩
      · rintro ⟨rfl | h1, h2⟩
        · exact .inl rfl
        · exact .inr ⟨h1, h2⟩
theorem mem_ins {x y : Ent} : ∀ {l : List Ent}, y ∈ insL x l ↔ y = x ∨ y ∈ l
  | [] => by simp [insL]
  | z :: r => by
    unfold insL
    cases beforeB z x
    · simp
    · simp only [cond_true, List.mem_cons, mem_ins (l := r)]
      constructor
      · rintro (h | h | h)
        · exact .inr (.inl h)
        · exact .inl h
        · exact .inr (.inr h)
      · rintro (h | h | h)
        · exact .inr (.inl h)
        · exact .inl h
        · exact .inr (.inr h)
theorem ins_row {x : Ent} : ∀ {l : List Ent}, l.Pairwise (fun x y => beforeB x y = true) → (∀ y ∈ l, y.key ≠ x.key) → (insL x l).Pairwise (fun x y => beforeB x y = true)
  | [], _, _ => by simp [insL]
  | z :: r, h, hk => by
    have hz := (List.pairwise_cons.1 h).1
    unfold insL
    cases hb : beforeB z x
    · rw [cond_false]
      have hx : beforeB x z = true := by
        rcases before_total (x := x) (y := z) (fun e => hk z List.mem_cons_self (by rw [e])) with h1 | h1
        · exact h1
        · rw [hb] at h1; cases h1
      refine List.pairwise_cons.2 ⟨fun y hy => ?_, h⟩
      rcases List.mem_cons.1 hy with rfl | hy
      · exact hx
      · exact before_trans hx (hz y hy)
    · rw [cond_true]
      refine List.pairwise_cons.2 ⟨fun y hy => ?_, ins_row (List.pairwise_cons.1 h).2 (fun y hy => hk y (List.mem_cons_of_mem _ hy))⟩
      rcases mem_ins.1 hy with rfl | hy
      · exact hb
      · exact hz y hy
theorem ins_keys {x : Ent} : ∀ {l : List Ent}, (l.map Ent.key).Nodup → (∀ y ∈ l, y.key ≠ x.key) → ((insL x l).map Ent.key).Nodup
  | [], _, _ => by simp [insL]
  | z :: r, h, hk => by
    have h' := h
    simp only [List.map_cons, List.nodup_cons, List.mem_map, not_exists, not_and] at h
    unfold insL
    cases beforeB z x
    · rw [cond_false, List.map_cons, List.nodup_cons]
      refine ⟨fun hm => ?_, h'⟩
      obtain ⟨y, hy, he⟩ := List.mem_map.1 hm
      exact hk y hy he
    · rw [cond_true, List.map_cons, List.nodup_cons]
      refine ⟨fun hm => ?_, ins_keys h.2 (fun y hy => hk y (List.mem_cons_of_mem _ hy))⟩
      obtain ⟨y, hy, he⟩ := List.mem_map.1 hm
      rcases mem_ins.1 hy with rfl | hy
      · exact hk z List.mem_cons_self he.symm
      · exact h.1 y hy he
theorem row_put {x : Ent} {l : List Ent} (h : RowL l) : RowL (putL x l) := by
  have hd := row_drop (k := x.key) h
  have hk : ∀ y ∈ dropL x.key l, y.key ≠ x.key := fun y hy => ((mem_drop h.2 y).1 hy).2
  exact ⟨ins_row hd.1 hk, ins_keys hd.2 hk⟩
theorem mem_put {x y : Ent} {l : List Ent} (h : RowL l) : y ∈ putL x l ↔ y = x ∨ (y ∈ l ∧ y.key ≠ x.key) := by
  unfold putL
  rw [mem_ins, mem_drop h.2]
/-- The same entries, in their row, are the same list. -/
theorem row_unique : ∀ {l l' : List Ent}, l.Pairwise (fun x y => beforeB x y = true) → l'.Pairwise (fun x y => beforeB x y = true) → (∀ x, x ∈ l ↔ x ∈ l') → l = l'
  | [], [], _, _, _ => rfl
  | [], y :: r, _, _, h => by have := (h y).2 List.mem_cons_self; cases this
  | x :: r, [], _, _, h => by have := (h x).1 List.mem_cons_self; cases this
  | x :: r, y :: r', h1, h2, h => by
    have a1 := List.pairwise_cons.1 h1
    have a2 := List.pairwise_cons.1 h2
    have hno : ∀ {u v : Ent}, beforeB u v = true → beforeB v u = true → False := fun hu hv => by
      have := before_trans hu hv
      rw [before_irrefl] at this
      cases this
    have e : x = y := by
      rcases List.mem_cons.1 ((h x).1 List.mem_cons_self) with e | hx
      · exact e
      · rcases List.mem_cons.1 ((h y).2 List.mem_cons_self) with e | hy
        · exact e.symm
        · exact (hno (a1.1 y hy) (a2.1 x hx)).elim
    subst e
    congr 1
    refine row_unique a1.2 a2.2 (fun z => ?_)
    constructor
    · intro hz
      rcases List.mem_cons.1 ((h z).1 (List.mem_cons_of_mem _ hz)) with rfl | hz'
      · exact (hno (a1.1 z hz) (a1.1 z hz)).elim
      · exact hz'
    · intro hz
      rcases List.mem_cons.1 ((h z).2 (List.mem_cons_of_mem _ hz)) with rfl | hz'
      · exact (hno (a2.1 z hz) (a2.1 z hz)).elim
      · exact hz'
theorem has_iff {k : ByteArray} : ∀ {l : List Ent}, hasL k l = true ↔ ∃ x ∈ l, x.key = k
  | [] => by simp [hasL]
  | y :: r => by
    unfold hasL
    split
    · rename_i h
      exact ⟨fun _ => ⟨y, List.mem_cons_self, h⟩, fun _ => rfl⟩
    · rename_i h
      rw [has_iff (l := r)]
      constructor
      · rintro ⟨x, hx, hk⟩
        exact ⟨x, List.mem_cons_of_mem _ hx, hk⟩
      · rintro ⟨x, hx, hk⟩
        rcases List.mem_cons.1 hx with rfl | hx
        · exact absurd hk h
        · exact ⟨x, hx, hk⟩
theorem tick_of : ∀ {l : List Ent} {x : Ent}, (l.map Ent.key).Nodup → x ∈ l → tickL x.key l = x.tick
  | [], x, _, h => by cases h
  | y :: r, x, hn, h => by
    simp only [List.map_cons, List.nodup_cons, List.mem_map, not_exists, not_and] at hn
    unfold tickL
    rcases List.mem_cons.1 h with rfl | h
    · rw [if_pos rfl]
    · rw [if_neg (fun e => hn.1 x h e.symm), tick_of hn.2 h]
theorem tick_put {x : Ent} {l : List Ent} (h : RowL l) : tickL x.key (putL x l) = x.tick ∧ hasL x.key (putL x l) = true :=
  ⟨tick_of (row_put h).2 ((mem_put h).2 (.inl rfl)), has_iff.2 ⟨x, (mem_put h).2 (.inl rfl), rfl⟩⟩
/-- Entries of different keys may be put in either row. -/
theorem put_comm {x y : Ent} {l : List Ent} (h : RowL l) (hk : x.key ≠ y.key) : putL x (putL y l) = putL y (putL x l) := by
  refine row_unique (row_put (row_put h)).1 (row_put (row_put h)).1 fun z => ?_
  rw [mem_put (row_put h), mem_put h, mem_put (row_put h), mem_put h]
  constructor
  · rintro (rfl | ⟨rfl | ⟨h1, h2⟩, h3⟩)
    · exact .inr ⟨.inl rfl, hk⟩
    · exact .inl rfl
    · exact .inr ⟨.inr ⟨h1, h3⟩, h2⟩
  · rintro (rfl | ⟨rfl | ⟨h1, h2⟩, h3⟩)
    · exact .inr ⟨.inl rfl, fun e => hk e.symm⟩
    · exact .inl rfl
    · exact .inr ⟨.inr ⟨h1, h3⟩, h2⟩
end Go.Proofs.Ytkbmkbmbkmeenaa
