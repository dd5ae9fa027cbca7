/-
  A list of entries as a binary tree: below i stand 2i+1 and 2i+2. What it takes to bring one entry that may stand wrong to its place, up or down; the first one is the least. Plain facts.
-/
import Derived.Test.YtkbmkbmbkmeenaaEntOrd
namespace Go.Proofs.Ytkbmkbmbkmeenaa
set_option linter.unusedVariables false
set_option linter.unusedSimpArgs false

def nth (es : List Ent) (i : Nat) : Ent := (es[i]?).getD ⟨0, ⟨#[]⟩⟩
theorem nth_some {es : List Ent} {i : Nat} (h : i < es.length) : es[i]? = some (nth es i) := by
  unfold nth
  rw [List.getElem?_eq_getElem h]
  rfl
theorem nth_of {es : List Ent} {i : Nat} {x : Ent} (h : es[i]? = some x) : nth es i = x := by
  unfold nth
  rw [h]
  rfl
theorem nth_get {es : List Ent} {i : Nat} (h : i < es.length) : es[i] = nth es i := by
  have := nth_some h
  rw [List.getElem?_eq_getElem h] at this
  injection this
theorem nth_mem {es : List Ent} {i : Nat} (h : i < es.length) : nth es i ∈ es := List.mem_of_getElem? (nth_some h)
theorem mem_nth {es : List Ent} {x : Ent} (h : x ∈ es) : ∃ i, i < es.length ∧ nth es i = x := by
  obtain ⟨i, hi, he⟩ := List.getElem_of_mem h
  exact ⟨i, hi, by rw [← nth_get hi]; exact he⟩
theorem nth_set {es : List Ent} {i : Nat} (e : Ent) (j : Nat) (h : i < es.length) : nth (es.set i e) j = if j = i then e else nth es j := by
  unfold nth
  rw [List.getElem?_set]
  by_cases hj : i = j
  · subst hj
    rw [if_pos rfl, if_pos rfl, if_pos h]
    rfl
  · rw [if_neg hj, if_neg (fun e => hj e.symm)]
theorem nth_set_self {es : List Ent} {i : Nat} (h : i < es.length) : es.set i (nth es i) = es := by
  rw [← nth_get h]
  exact List.set_getElem_self h
theorem nth_left {a b : List Ent} {i : Nat} (h : i < a.length) : nth (a ++ b) i = nth a i := by
  unfold nth
  rw [List.getElem?_append_left h]
theorem nth_right (a : List Ent) (x : Ent) : nth (a ++ [x]) a.length = x := by
  unfold nth
  simp
theorem nth_take {a : List Ent} {i n : Nat} (h : i < n) : nth (a.take n) i = nth a i := by
  unfold nth
  rw [List.getElem?_take, if_pos h]

/-- x does not stand behind y. -/
def leE (x y : Ent) : Prop := beforeB y x = false
theorem le_refl (x : Ent) : leE x x := before_irrefl x
theorem le_of_before {x y : Ent} (h : beforeB x y = true) : leE x y := by
  unfold leE
  rw [Bool.eq_false_iff]
  intro h'
  have := before_trans h h'
  rw [before_irrefl] at this
  cases this
theorem le_trans {x y z : Ent} (h : leE x y) (k : leE y z) : leE x z := by
  unfold leE at *
  rw [Bool.eq_false_iff]
  intro h'
  by_cases e : x = y
  · subst e; rw [k] at h'; cases h'
  · rcases before_total e with h1 | h1
    · have := before_trans h' h1
      rw [k] at this; cases this
    · rw [h] at h1; cases h1
theorem le_anti {x y : Ent} (h : leE x y) (k : leE y x) : x = y := by
  by_cases e : x = y
  · exact e
  · rcases before_total e with h1 | h1
    · rw [k] at h1; cases h1
    · rw [h] at h1; cases h1

def EdgeE (es : List Ent) (c : Nat) : Prop := leE (nth es ((c - 1) / 2)) (nth es c)
def HeapE (es : List Ent) : Prop := ∀ c, 0 < c → c < es.length → EdgeE es c
/-- What stands below i does not stand ahead of what is above i. -/
def Over (es : List Ent) (i : Nat) : Prop := 0 < i → ∀ c, 0 < c → c < es.length → (c - 1) / 2 = i → leE (nth es ((i - 1) / 2)) (nth es c)
def Wrong (es : List Ent) (i : Nat) : Prop := (∀ c, 0 < c → c < es.length → c ≠ i → (c - 1) / 2 ≠ i → EdgeE es c) ∧ Over es i
def UpE (es : List Ent) (i : Nat) : Prop := (∀ c, 0 < c → c < es.length → c ≠ i → EdgeE es c) ∧ Over es i
def DownE (es : List Ent) (i : Nat) : Prop := (∀ c, 0 < c → c < es.length → (c - 1) / 2 ≠ i → EdgeE es c) ∧ Over es i

theorem HeapE.over {es : List Ent} (h : HeapE es) (i : Nat) (hi : i < es.length) : Over es i := fun h0 c h1 h2 h3 => by
  have a := h c h1 h2
  have b := h i h0 hi
  unfold EdgeE at a b
  rw [h3] at a
  exact le_trans b a
theorem HeapE.down {es : List Ent} (h : HeapE es) (i : Nat) (hi : i < es.length) : DownE es i := ⟨fun c h1 h2 _ => h c h1 h2, h.over i hi⟩
/-- One is another one. -/
theorem HeapE.wrong {es : List Ent} (h : HeapE es) {i : Nat} (hi : i < es.length) (x : Ent) : Wrong (es.set i x) i := by
  refine ⟨fun c h1 h2 h3 h4 => ?_, fun h0 c h1 h2 h3 => ?_⟩
  · rw [List.length_set] at h2
    unfold EdgeE
    rw [nth_set x _ hi, nth_set x _ hi, if_neg h3, if_neg h4]
    exact h c h1 h2
  · rw [List.length_set] at h2
    rw [nth_set x _ hi, nth_set x _ hi, if_neg (by omega), if_neg (by omega)]
    exact h.over i hi h0 c h1 h2 h3
theorem HeapE.take {es : List Ent} (h : HeapE es) (n : Nat) : HeapE (es.take n) := by
  intro c h1 h2
  rw [List.length_take] at h2
  unfold EdgeE
  rw [nth_take (by omega), nth_take (by omega)]
  exact h c h1 (by omega)
theorem HeapE.behind {es : List Ent} (h : HeapE es) (x : Ent) : Wrong (es ++ [x]) es.length := by
  refine ⟨fun c h1 h2 h3 h4 => ?_, fun h0 c h1 h2 h3 => ?_⟩
  · simp only [List.length_append, List.length_cons, List.length_nil] at h2
    unfold EdgeE
    rw [nth_left (by omega), nth_left (by omega)]
    exact h c h1 (by omega)
  · simp only [List.length_append, List.length_cons, List.length_nil] at h2
    omega

/-- Two change their places. -/
def swp (es : List Ent) (i a : Nat) : List Ent := (es.set i (nth es a)).set a (nth es i)
theorem swp_len (es : List Ent) (i a : Nat) : (swp es i a).length = es.length := by simp [swp]
theorem swp_nth {es : List Ent} {i a : Nat} (hi : i < es.length) (ha : a < es.length) (j : Nat) : nth (swp es i a) j = if j = a then nth es i else if j = i then nth es a else nth es j := by
  unfold swp
  rw [nth_set _ _ (by simpa using ha), nth_set _ _ hi]
theorem swp_perm {es : List Ent} {i a : Nat} (hi : i < es.length) (ha : a < es.length) : (swp es i a).Perm es := by
  unfold swp
  rw [← nth_get hi, ← nth_get ha]
  exact List.set_set_perm hi ha

/-- While one rises from i0, at i. -/
def RiseI (es : List Ent) (i i0 : Nat) : Prop := i ≤ i0 ∧ ((i = i0 ∧ Wrong es i) ∨ UpE es i)
theorem rise_step {es : List Ent} {i i0 : Nat} (h : RiseI es i i0) (h0 : 0 < i) (hi : i < es.length) (hb : beforeB (nth es i) (nth es ((i - 1) / 2)) = true) : RiseI (swp es i ((i - 1) / 2)) ((i - 1) / 2) i0 := by
  obtain ⟨hle, hw⟩ := h
  have hW : Wrong es i := by
    rcases hw with ⟨_, h⟩ | h
    · exact h
    · exact ⟨fun c h1 h2 h3 _ => h.1 c h1 h2 h3, h.2⟩
  have ha : (i - 1) / 2 < es.length := by omega
  have hai : (i - 1) / 2 ≠ i := by omega
  generalize hA : (i - 1) / 2 = a at *
  refine ⟨by omega, .inr ⟨fun c h1 h2 h3 => ?_, fun h4 c h1 h2 h3 => ?_⟩⟩
  · rw [swp_len] at h2
    unfold EdgeE
    rw [swp_nth hi ha, swp_nth hi ha, if_neg h3]
    by_cases hc : c = i
    · subst hc
      rw [if_pos rfl, if_pos hA]
      exact le_of_before hb
    · rw [if_neg hc]
      by_cases hp : (c - 1) / 2 = a
      · rw [if_pos hp]
        have := hW.1 c h1 h2 hc (by omega)
        unfold EdgeE at this
        rw [hp] at this
        exact le_trans (le_of_before hb) this
      · rw [if_neg hp]
        by_cases hq : (c - 1) / 2 = i
        · rw [if_pos hq, ← hA]
          exact hW.2 h0 c h1 h2 hq
        · rw [if_neg hq]
          exact hW.1 c h1 h2 hc hq
  · rw [swp_len] at h2
    have e := hW.1 a h4 ha hai (by omega)
    unfold EdgeE at e
    rw [swp_nth hi ha, swp_nth hi ha, if_neg (by omega), if_neg (by omega), if_neg (by omega)]
    by_cases hc : c = i
    · rw [if_pos hc]; exact e
    · rw [if_neg hc]
      have := hW.1 c h1 h2 hc (by omega)
      unfold EdgeE at this
      rw [h3] at this
      exact le_trans e this
theorem rise_end {es : List Ent} {i i0 : Nat} (h : RiseI es i i0) (hi0 : i0 < es.length) (hb : i = 0 ∨ beforeB (nth es i) (nth es ((i - 1) / 2)) = false) : DownE es i0 := by
  obtain ⟨hle, ⟨rfl, hw⟩ | hw⟩ := h
  · refine ⟨fun c h1 h2 h3 => ?_, hw.2⟩
    by_cases hc : c = i
    · subst hc
      rcases hb with hb | hb
      · omega
      · exact hb
    · exact hw.1 c h1 h2 hc h3
  · refine HeapE.down (fun c h1 h2 => ?_) i0 hi0
    by_cases hc : c = i
    · subst hc
      rcases hb with hb | hb
      · omega
      · exact hb
    · exact hw.1 c h1 h2 hc
/-- The first of those just below i. -/
def belowL (es : List Ent) (i : Nat) : Nat := bif decide (2 * i + 2 < es.length) && beforeB (nth es (2 * i + 2)) (nth es (2 * i + 1)) then 2 * i + 2 else 2 * i + 1
theorem below_cases {es : List Ent} {i : Nat} (h : 2 * i + 1 < es.length) : belowL es i < es.length ∧ (belowL es i - 1) / 2 = i ∧ i < belowL es i ∧ ∀ c, 0 < c → c < es.length → (c - 1) / 2 = i → leE (nth es (belowL es i)) (nth es c) := by
  unfold belowL
  by_cases h2 : 2 * i + 2 < es.length
  · rw [decide_eq_true h2, Bool.true_and]
    cases hb : beforeB (nth es (2 * i + 2)) (nth es (2 * i + 1))
    · rw [cond_false]
      refine ⟨by omega, by omega, by omega, fun c h1 h3 h4 => ?_⟩
      by_cases hc : c = 2 * i + 1
      · rw [hc]; exact le_refl _
      · obtain rfl : c = 2 * i + 2 := by omega
        exact hb
    · rw [cond_true]
      refine ⟨by omega, by omega, by omega, fun c h1 h3 h4 => ?_⟩
      by_cases hc : c = 2 * i + 2
      · rw [hc]; exact le_refl _
      · obtain rfl : c = 2 * i + 1 := by omega
        exact le_of_before hb
  · rw [decide_eq_false h2, Bool.false_and, cond_false]
    refine ⟨by omega, by omega, by omega, fun c h1 h3 h4 => ?_⟩
    obtain rfl : c = 2 * i + 1 := by omega
    exact le_refl _
theorem sink_step {es : List Ent} {i b : Nat} (h : DownE es i) (hi : i < es.length) (hb : b < es.length) (hp : (b - 1) / 2 = i) (hib : i < b) (hm : ∀ c, 0 < c → c < es.length → (c - 1) / 2 = i → leE (nth es b) (nth es c)) (hbe : beforeB (nth es b) (nth es i) = true) : DownE (swp es i b) b := by
  refine ⟨fun c h1 h2 h3 => ?_, fun h4 c h1 h2 h3 => ?_⟩
  · rw [swp_len] at h2
    unfold EdgeE
    rw [swp_nth hi hb, swp_nth hi hb, if_neg h3]
    by_cases hq : (c - 1) / 2 = i
    · rw [if_pos hq]
      by_cases hc : c = b
      · rw [if_pos hc]; exact le_of_before hbe
      · rw [if_neg hc, if_neg (by omega)]
        exact hm c h1 h2 hq
    · rw [if_neg hq]
      by_cases hc : c = i
      · subst hc
        rw [if_neg (by omega), if_pos rfl]
        exact h.2 h1 b (by omega) hb hp
      · rw [if_neg (by omega), if_neg hc]
        exact h.1 c h1 h2 hq
  · rw [swp_len] at h2
    rw [swp_nth hi hb, swp_nth hi hb, if_neg (by omega), if_pos hp, if_neg (by omega), if_neg (by omega)]
    have := h.1 c h1 h2 (by omega)
    unfold EdgeE at this
    rw [h3] at this
    exact this
theorem sink_end {es : List Ent} {i : Nat} (h : DownE es i) (hn : es.length ≤ 2 * i + 1 ∨ ∃ b, beforeB (nth es b) (nth es i) = false ∧ ∀ c, 0 < c → c < es.length → (c - 1) / 2 = i → leE (nth es b) (nth es c)) : HeapE es := by
  intro c h1 h2
  by_cases hc : (c - 1) / 2 = i
  · rcases hn with hn | ⟨b, h3, h4⟩
    · omega
    · unfold EdgeE
      rw [hc]
      exact le_trans h3 (h4 c h1 h2 hc)
  · exact h.1 c h1 h2 hc

/-- The first one is the least. -/
theorem HeapE.least {es : List Ent} (h : HeapE es) : ∀ i, i < es.length → leE (nth es 0) (nth es i) := by
  intro i
  induction i using Nat.strongRecOn with
  | ind i ih =>
    intro hi
    by_cases h0 : i = 0
    · subst h0; exact le_refl _
    · exact le_trans (ih ((i - 1) / 2) (by omega) (by omega)) (h i (by omega) hi)
theorem HeapE.first {es l : List Ent} (h : HeapE es) (hp : es.Perm l) (hr : RowL l) {x : Ent} {r : List Ent} (hl : l = x :: r) : nth es 0 = x := by
  subst hl
  have hlen := hp.length_eq
  simp only [List.length_cons] at hlen
  obtain ⟨i, hi, he⟩ := mem_nth (hp.mem_iff.2 List.mem_cons_self)
  have h1 := h.least i hi
  rw [he] at h1
  refine le_anti h1 ?_
  have hm : nth es 0 ∈ x :: r := hp.mem_iff.1 (nth_mem (by omega))
  rcases List.mem_cons.1 hm with e | hm
  · rw [e]; exact le_refl _
  · exact le_of_before ((List.pairwise_cons.1 hr.1).1 _ hm)
end Go.Proofs.Ytkbmkbmbkmeenaa
