/-
  Dags that are made of any: plain facts. Each event that is made is taken.
-/
import Derived.Test.YtjiecjpepiknmaaGreatDagOdd
namespace Go.Proofs.YtjiecjpepiknmaaGreat
set_option maxRecDepth 20000
set_option linter.unusedVariables false
set_option linter.unusedSimpArgs false

/-- What an event is made of. -/
structure Gp where
  user : Int
  does : Int
  parents : List Int
  thread : Int
def onP (g : Gp) (i k : Nat) : Bool := (g.parents.take 3).any (fun p => decide (aroundN p (i : Int) = k))
def fromP (g : Gp) (i : Nat) : List Nat := (List.range i).filter (onP g i)
def thrM (l : List Ev) (g : Gp) : ByteArray :=
  if aroundI g.does 3 = 0 ∧ 0 < l.length then
    match l[aroundN g.thread ((2 * l.length : Nat) : Int)]? with
    | some t => if t.does = 0 ∧ t.thread = ⟨#[]⟩ then eventK (aroundN g.thread ((2 * l.length : Nat) : Int)) else ⟨#[]⟩
    | none => ⟨#[]⟩
  else ⟨#[]⟩
def madeE (room : ByteArray) (l : List Ev) (g : Gp) : Ev := ⟨eventK l.length, room, (fromP g l.length).map eventK, thrM l g, userS g.user, aroundI g.does 3⟩
def madeTo (room : ByteArray) (gs : List Gp) (n : Nat) : List Ev := (gs.take n).foldl (fun l g => l ++ [madeE room l g]) []
theorem madeTo_succ {room : ByteArray} {gs : List Gp} {n : Nat} {g : Gp} (h : gs[n]? = some g) : madeTo room gs (n + 1) = madeTo room gs n ++ [madeE room (madeTo room gs n) g] := by
  unfold madeTo
  rw [List.take_add_one, h, List.foldl_append]
  rfl
theorem eventK_inj : ∀ a b : Fin 9, eventK a.val = eventK b.val → a = b := by decide +kernel
theorem eventK_less : ∀ a b : Fin 9, a < b → Op.bytesLess (eventK a.val).toList (eventK b.val).toList = true := by decide +kernel
theorem eventK_some : ∀ a : Fin 9, eventK a.val ≠ ⟨#[]⟩ := by decide +kernel
theorem fil_or (p q : Nat → Bool) : ∀ L : List Nat, (L.filter (fun k => p k || q k)).length ≤ (L.filter p).length + (L.filter q).length
  | [] => Nat.le_refl _
  | x :: r => by
    have := fil_or p q r
    cases hp : p x <;> cases hq : q x <;> simp [List.filter_cons, hp, hq] <;> omega
theorem fil_one (a i : Nat) : ((List.range i).filter (fun k => decide (a = k))).length ≤ (if a < i then 1 else 0) := by
  induction i with
  | zero => simp
  | succ i ih =>
    rw [List.range_succ, List.filter_append, List.length_append]
    by_cases h : a = i
    · subst h
      simp at ih ⊢
      omega
    · have h1 : ([i].filter (fun k => decide (a = k))).length = 0 := by simp [h]
      rw [h1]
      split at ih <;> split <;> omega
theorem fil_any (i : Nat) (f : Int → Nat) : ∀ ps : List Int, ((List.range i).filter (fun k => ps.any (fun p => decide (f p = k)))).length ≤ ps.length
  | [] => by simp
  | p :: r => by
    have h1 := fil_any i f r
    have h2 := fil_one (f p) i
    have h3 := fil_or (fun k => decide (f p = k)) (fun k => r.any (fun p => decide (f p = k))) (List.range i)
    simp only [List.any_cons, List.length_cons]
    split at h2 <;> omega
theorem fromP_len (g : Gp) (i : Nat) : (fromP g i).length ≤ 3 := by
  refine Nat.le_trans (fil_any i (fun p => aroundN p (i : Int)) (g.parents.take 3)) ?_
  rw [List.length_take]
  omega
theorem fromP_lt {g : Gp} {i k : Nat} (h : k ∈ fromP g i) : k < i := List.mem_range.1 (List.mem_filter.1 h).1
theorem fromP_up (g : Gp) (i : Nat) : (fromP g i).Pairwise (· < ·) := List.Pairwise.filter _ List.pairwise_lt_range
/-- Its events are named in their row. -/
structure Rowed (room : ByteArray) (l : List Ev) : Prop where
  ids : ∀ (j : Nat) e, l[j]? = some e → e.id = eventK j
  le : l.length ≤ 9
  valid : Valid room l
theorem Rowed.has {room : ByteArray} {l : List Ev} (h : Rowed room l) {k : Nat} (hk : k < l.length) : idx l (eventK k) = some k := by
  refine idx_hit (x := l[k]) (List.getElem?_eq_getElem hk) (h.ids k _ (List.getElem?_eq_getElem hk)) (fun j y hj hy he => ?_)
  rw [h.ids j y hy] at he
  have h9 := h.le
  have := eventK_inj ⟨j, by omega⟩ ⟨k, by omega⟩ he
  simp only [Fin.mk.injEq] at this
  omega
theorem made_may {room : ByteArray} {l : List Ev} (hr : namedB 33 room = true) (h : Rowed room l) (hl : l.length < 9) (g : Gp) : mayE (madeE room l g) = true := by
  have hd := aroundI_bd g.does 3 (by decide)
  have h1 : headB (madeE room l g) = true := by
    unfold headB madeE
    simp only [List.length_map, Bool.and_eq_true, decide_eq_true_eq]
    have := fromP_len g l.length
    exact ⟨⟨⟨⟨⟨eventK_event ⟨l.length, hl⟩, hr⟩, userS_user _⟩, by omega⟩, by omega⟩, by omega⟩
  have h2 : thrB (madeE room l g) = true := by
    unfold thrB madeE thrM
    generalize aroundN g.thread ((2 * l.length : Nat) : Int) = k
    simp only
    split
    · rename_i h0
      cases ht : l[k]? with
      | none => simp
      | some t =>
        simp only
        have hk := (List.getElem?_eq_some_iff.1 ht).1
        split
        · have e1 := eventK_event ⟨k, by omega⟩
          simp only at e1
          rw [e1, h0.1]
          have e2 : ¬ eventK k = eventK l.length := fun he => by
            have := eventK_inj ⟨k, by omega⟩ ⟨l.length, hl⟩ he
            simp only [Fin.mk.injEq] at this
            omega
          simp [e2]
        · simp
    · simp
  have h3 : parTo (madeE room l g) (madeE room l g).parents.length = true := by
    unfold parTo
    rw [List.all_eq_true]
    intro i hi
    rw [List.mem_range] at hi
    have hp : (madeE room l g).parents = (fromP g l.length).map eventK := rfl
    rw [hp, List.length_map] at hi
    have gi : ∀ j, (hj : j < (fromP g l.length).length) → (madeE room l g).parents.getD j ⟨#[]⟩ = eventK (fromP g l.length)[j] := fun j hj => by
      rw [hp, List.getD_eq_getElem?_getD, List.getElem?_map, List.getElem?_eq_getElem hj]
      rfl
    have lt : ∀ j, (hj : j < (fromP g l.length).length) → (fromP g l.length)[j] < l.length := fun j hj => fromP_lt (List.getElem_mem hj)
    unfold parB
    rw [gi i hi]
    have l1 := lt i hi
    have e1 := eventK_event ⟨(fromP g l.length)[i], by omega⟩
    simp only at e1
    rw [e1]
    have e2 : ¬ eventK (fromP g l.length)[i] = (madeE room l g).id := fun he => by
      have := eventK_inj ⟨(fromP g l.length)[i], by omega⟩ ⟨l.length, hl⟩ he
      simp only [Fin.mk.injEq] at this
      omega
    rw [decide_eq_false e2]
    by_cases hi0 : i = 0
    · simp [hi0]
    · have l2 := lt (i - 1) (by omega)
      have l3 := List.pairwise_iff_getElem.1 (fromP_up g l.length) (i - 1) i (by omega) hi (by omega)
      rw [gi (i - 1) (by omega)]
      have e3 := eventK_less ⟨(fromP g l.length)[i - 1], by omega⟩ ⟨(fromP g l.length)[i], by omega⟩ l3
      simp only at e3
      rw [e3]
      simp
  unfold mayE
  rw [h1, h2, h3]
  rfl
theorem made_zero {room : ByteArray} {l : List Ev} (hr : namedB 33 room = true) (h : Rowed room l) (hl : l.length < 9) (g : Gp) : errA room l (madeE room l g) = 0 := by
  unfold errA
  rw [made_may hr h hl g]
  have hroom : (madeE room l g).room = room := rfl
  have hid : (madeE room l g).id = eventK l.length := rfl
  have h1 : hasE l (madeE room l g).id = false := by
    rw [Bool.eq_false_iff]
    intro hh
    obtain ⟨x, hx, he⟩ := has_iff.1 hh
    obtain ⟨j, hj, hxj⟩ := List.getElem_of_mem hx
    rw [h.ids j x (by rw [List.getElem?_eq_getElem hj, hxj]), hid] at he
    have := eventK_inj ⟨j, by omega⟩ ⟨l.length, hl⟩ he
    simp only [Fin.mk.injEq] at this
    omega
  have h2 : (madeE room l g).parents.all (hasE l) = true := by
    rw [List.all_eq_true]
    intro p hp
    obtain ⟨k, hk, rfl⟩ := List.mem_map.1 (show p ∈ (fromP g l.length).map eventK from hp)
    unfold hasE
    rw [h.has (fromP_lt hk)]
    rfl
  rw [h1, h2, hroom]
  simp only [decide_true, Bool.and_self, Bool.true_eq_false, Bool.false_eq_true, if_false]
  have ht : (madeE room l g).thread = thrM l g := rfl
  rw [ht]
  unfold thrM
  generalize aroundN g.thread ((2 * l.length : Nat) : Int) = k
  split
  · cases hk : l[k]? with
    | none => simp
    | some t =>
      simp only
      by_cases hh : t.does = 0 ∧ t.thread = ⟨#[]⟩
      · have hlt := (List.getElem?_eq_some_iff.1 hk).1
        rw [if_pos hh, if_neg (eventK_some ⟨k, by omega⟩), h.has hlt]
        simp only [hk]
        rw [if_pos ⟨hh.2, hh.1⟩]
      · rw [if_neg hh]
        simp
  · simp
theorem made_row {room : ByteArray} {l : List Ev} (hr : namedB 33 room = true) (h : Rowed room l) (hl : l.length < 9) (g : Gp) : Rowed room (l ++ [madeE room l g]) := by
  refine ⟨fun j e he => ?_, by rw [List.length_append]; simp only [List.length_cons, List.length_nil]; omega, valid_snoc h.valid (made_zero hr h hl g)⟩
  by_cases hj : j < l.length
  · rw [List.getElem?_append_left hj] at he
    exact h.ids j e he
  · have hl2 := (List.getElem?_eq_some_iff.1 he).1
    simp only [List.length_append, List.length_cons, List.length_nil] at hl2
    obtain rfl : j = l.length := by omega
    simp only [List.getElem?_concat_length, Option.some.injEq] at he
    rw [← he]
    rfl
theorem madeTo_row {room : ByteArray} (hr : namedB 33 room = true) (gs : List Gp) : ∀ n, n ≤ 9 → n ≤ gs.length → Rowed room (madeTo room gs n) ∧ (madeTo room gs n).length = n
  | 0, _, _ => ⟨⟨fun j e he => by simp [madeTo] at he, Nat.zero_le _, valid_nil room⟩, rfl⟩
  | n + 1, h9, hn => by
    obtain ⟨ih, hl⟩ := madeTo_row hr gs n (by omega) (by omega)
    rw [madeTo_succ (List.getElem?_eq_getElem (show n < gs.length by omega))]
    exact ⟨made_row hr ih (by omega) _, by rw [List.length_append, hl]; rfl⟩
end Go.Proofs.YtjiecjpepiknmaaGreat
