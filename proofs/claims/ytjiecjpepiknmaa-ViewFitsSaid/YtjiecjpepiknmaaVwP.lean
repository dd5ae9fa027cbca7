/-
  Rooms as a server knows them: plain facts.
-/
import Derived.Test.YtjiecjpepiknmaaMbP
import Derived.Test.YtjiecjpepiknmaaDgA
namespace Go.Proofs.Ytjiecjpepiknmaa
set_option maxRecDepth 20000
set_option linter.unusedVariables false
set_option linter.unusedSimpArgs false

section
variable {α : Type} (key : α → ByteArray)
/-- A thing is put where it belongs, in the place of one of the same key. -/
def putK (x : α) : List α → List α
  | [] => [x]
  | y :: r => bif leS (key x) (key y) then x :: (y :: r).filter (fun z => !decide (key z = key x)) else y :: putK x r
def putKStep (x : α) (p : Bool × List α) (y : α) : Bool × List α :=
  let q : Bool × List α := if (!p.1 && leS (key x) (key y)) = true then (true, p.2 ++ [x]) else p
  (q.1, if key y = key x then q.2 else q.2 ++ [y])
def putKTo (x : α) (l : List α) (n : Nat) : Bool × List α := (l.take n).foldl (putKStep key x) (false, [])
variable {key}
theorem putKTo_succ {x : α} {l : List α} {n : Nat} {y : α} (h : l[n]? = some y) : putKTo key x l (n + 1) = putKStep key x (putKTo key x l n) y := by
  unfold putKTo
  rw [List.take_add_one, h, List.foldl_append]
  rfl
theorem putKStep_done (x : α) : ∀ (l pre : List α), l.foldl (putKStep key x) (true, pre) = (true, pre ++ l.filter (fun y => !decide (key y = key x)))
  | [], pre => by simp
  | y :: r, pre => by
    rw [List.foldl_cons]
    have h1 : putKStep key x (true, pre) y = (true, if key y = key x then pre else pre ++ [y]) := by
      unfold putKStep
      simp
    rw [h1, putKStep_done x r]
    by_cases hx : key y = key x
    · simp [hx, List.filter_cons]
    · simp [hx, List.filter_cons]
theorem putKStep_all (x : α) : ∀ (l pre : List α), (let p := l.foldl (putKStep key x) (false, pre); if p.1 = true then p.2 else p.2 ++ [x]) = pre ++ putK key x l
  | [], pre => by simp [putK]
  | y :: r, pre => by
    rw [List.foldl_cons]
    unfold putK
    cases hb : leS (key x) (key y)
    · have hx : key y ≠ key x := fun e => by
        rw [e] at hb
        have := leS_iff.2 (List.lt_irrefl (key x).toList)
        rw [hb] at this; cases this
      have h1 : putKStep key x (false, pre) y = (false, pre ++ [y]) := by
        unfold putKStep
        simp [hb, hx]
      rw [h1, cond_false]
      have := putKStep_all x r (pre ++ [y])
      simp only [List.append_assoc, List.singleton_append] at this
      exact this
    · have h1 : putKStep key x (false, pre) y = (true, if key y = key x then pre ++ [x] else pre ++ [x] ++ [y]) := by
        unfold putKStep
        simp [hb]
      rw [h1, cond_true, putKStep_done]
      by_cases hx : key y = key x
      · simp [hx, List.filter_cons]
      · simp [hx, List.filter_cons]
theorem putKTo_all (x : α) (l : List α) : (if (putKTo key x l l.length).1 = true then (putKTo key x l l.length).2 else (putKTo key x l l.length).2 ++ [x]) = putK key x l := by
  have h := putKStep_all (key := key) x l []
  unfold putKTo
  rw [List.take_length]
  simpa using h
theorem putKTo_mem {x : α} {l : List α} : ∀ (n : Nat) (z : α), z ∈ (putKTo key x l n).2 → z = x ∨ z ∈ l
  | 0, z, h => by simp [putKTo] at h
  | n + 1, z, h => by
    cases hx : l[n]? with
    | none =>
      have h2 : putKTo key x l (n + 1) = putKTo key x l n := by
        unfold putKTo
        rw [List.take_add_one, hx]
        simp
      rw [h2] at h
      exact putKTo_mem n z h
    | some y =>
      rw [putKTo_succ hx] at h
      have hxl := List.mem_of_getElem? hx
      have hq : z ∈ (if (!(putKTo key x l n).1 && leS (key x) (key y)) = true then (true, (putKTo key x l n).2 ++ [x]) else putKTo key x l n).2 → z = x ∨ z ∈ l := by
        split
        · intro h
          simp only [List.mem_append, List.mem_singleton] at h
          rcases h with h | h
          · exact putKTo_mem n z h
          · exact .inl h
        · exact putKTo_mem n z
      unfold putKStep at h
      simp only at h
      split at h
      · exact hq h
      · rcases List.mem_append.1 h with h | h
        · exact hq h
        · rw [List.mem_singleton.1 h]; exact .inr hxl
theorem putKTo_len (x : α) (l : List α) (n : Nat) : (putKTo key x l n).2.length ≤ 2 * n := by
  induction n with
  | zero => simp [putKTo]
  | succ n ih =>
    cases h : l[n]? with
    | none =>
      have h2 : putKTo key x l (n + 1) = putKTo key x l n := by
        unfold putKTo
        rw [List.take_add_one, h]
        simp
      rw [h2]; omega
    | some y =>
      rw [putKTo_succ h]
      unfold putKStep
      simp only
      split <;> split <;> (try simp only [List.length_append, List.length_cons, List.length_nil]) <;> omega
theorem putK_keys (x : α) : ∀ l : List α, (putK key x l).map key = putL (key x) (l.map key)
  | [] => rfl
  | y :: r => by
    rw [List.map_cons]
    unfold putL
    rw [putK]
    cases leS (key x) (key y)
    · rw [cond_false, cond_false, List.map_cons, putK_keys x r]
    · rw [cond_true, cond_true, List.map_cons, ← List.map_cons (f := key) (a := y), List.filter_map]
      rfl
theorem putK_map {β : Type} (key' : β → ByteArray) (f : α → β) (hf : ∀ z, key' (f z) = key z) (x : α) : ∀ l : List α, (putK key x l).map f = putK key' (f x) (l.map f)
  | [] => rfl
  | y :: r => by
    rw [List.map_cons, putK, putK, hf, hf]
    cases leS (key x) (key y)
    · rw [cond_false, cond_false, List.map_cons, putK_map key' f hf x r]
    · rw [cond_true, cond_true, List.map_cons, ← List.map_cons (f := f) (a := y), List.filter_map]
      congr 2
      apply List.filter_congr
      intro z _
      simp [hf]
theorem putK_up {x : α} {l : List α} (h : Up (l.map key)) : Up ((putK key x l).map key) := by rw [putK_keys]; exact putL_up _ _ h
theorem putK_len (x : α) (l : List α) : (putK key x l).length ≤ l.length + 1 := by
  have h := putL_len (key x) (l.map key)
  rw [← putK_keys, List.length_map, List.length_map] at h
  exact h
theorem up_ne {a b : ByteArray} (h : a.toList < b.toList) : a ≠ b := fun e => by subst e; exact List.lt_irrefl _ h
theorem putK_perm {x : α} : ∀ {l : List α}, Up (l.map key) → (putK key x l).Perm (x :: l.filter (fun z => !decide (key z = key x)))
  | [], _ => List.Perm.refl _
  | y :: r, h => by
    unfold putK
    have h1 := List.pairwise_cons.1 h
    cases hb : leS (key x) (key y)
    · rw [cond_false]
      have hx : key y ≠ key x := fun e => by
        rw [e] at hb
        have := leS_iff.2 (List.lt_irrefl (key x).toList)
        rw [hb] at this; cases this
      rw [List.filter_cons, if_pos (by simp [hx])]
      exact (List.Perm.cons y (putK_perm h1.2)).trans (List.Perm.swap _ _ _)
    · exact List.Perm.refl _
theorem putK_mem {x z : α} {l : List α} (h : Up (l.map key)) : z ∈ putK key x l ↔ z = x ∨ (z ∈ l ∧ key z ≠ key x) := by
  rw [(putK_perm h).mem_iff, List.mem_cons, List.mem_filter]
  simp
theorem up_keys {l : List α} (h : Up (l.map key)) {a b : α} (ha : a ∈ l) (hb : b ∈ l) (he : key a = key b) : a = b := by
  rw [Up, List.pairwise_map, List.pairwise_iff_getElem] at h
  obtain ⟨i, hi, rfl⟩ := List.getElem_of_mem ha
  obtain ⟨j, hj, rfl⟩ := List.getElem_of_mem hb
  rcases Nat.lt_trichotomy i j with hl | hl | hl
  · exact absurd he (up_ne (h i j hi hj hl))
  · subst hl; rfl
  · exact absurd he.symm (up_ne (h j i hj hi hl))
end

/-- Rooms, rising, and the events of each as they came. -/
abbrev Vw := List (ByteArray × List Ev)
def ofL (V : Vw) (r : ByteArray) : List Ev := match V.find? (fun p => decide (p.1 = r)) with
  | some p => p.2
  | none => []
def errV (V : Vw) (e : Ev) : Int := errA e.room (ofL V e.room) e
def addV (V : Vw) (e : Ev) : Vw := if errV V e = 0 then putK Prod.fst (e.room, addA e.room (ofL V e.room) e) V else V
theorem ofL_in {V : Vw} (h : Up (V.map Prod.fst)) {p : ByteArray × List Ev} (hp : p ∈ V) : ofL V p.1 = p.2 := by
  unfold ofL
  cases hf : V.find? (fun q => decide (q.1 = p.1)) with
  | none =>
    rw [List.find?_eq_none] at hf
    have := hf p hp
    simp at this
  | some q =>
    have h1 := List.mem_of_find?_eq_some hf
    have h2 := List.find?_some hf
    rw [decide_eq_true_eq] at h2
    rw [up_keys h h1 hp h2]
theorem ofL_out {V : Vw} {r : ByteArray} (h : r ∉ V.map Prod.fst) : ofL V r = [] := by
  unfold ofL
  cases hf : V.find? (fun q => decide (q.1 = r)) with
  | none => rfl
  | some q =>
    have h1 := List.mem_of_find?_eq_some hf
    have h2 := List.find?_some hf
    rw [decide_eq_true_eq] at h2
    exact absurd (List.mem_map.2 ⟨q, h1, h2⟩) h
/-- What a view may be. -/
structure VOk (n : Nat) (V : Vw) : Prop where
  up : Up (V.map Prod.fst)
  each : ∀ p ∈ V, Valid p.1 p.2 ∧ p.2.length ≤ n ∧ p.1.size ≤ 40
  len : V.length ≤ n
theorem VOk.nil : VOk 0 [] := ⟨List.Pairwise.nil, fun p h => (by cases h), Nat.le_refl _⟩
theorem VOk.mono {n n' : Nat} {V : Vw} (h : VOk n V) (hn : n ≤ n') : VOk n' V := ⟨h.up, fun p hp => ⟨(h.each p hp).1, Nat.le_trans (h.each p hp).2.1 hn, (h.each p hp).2.2⟩, Nat.le_trans h.len hn⟩
theorem VOk.of_ {n : Nat} {V : Vw} (h : VOk n V) (r : ByteArray) : Valid r (ofL V r) ∧ (ofL V r).length ≤ n := by
  by_cases hr : r ∈ V.map Prod.fst
  · obtain ⟨p, hp, rfl⟩ := List.mem_map.1 hr
    rw [ofL_in h.up hp]
    exact ⟨(h.each p hp).1, (h.each p hp).2.1⟩
  · rw [ofL_out hr]
    exact ⟨valid_nil r, Nat.zero_le _⟩
theorem addA_len (room : ByteArray) (l : List Ev) (e : Ev) : (addA room l e).length ≤ l.length + 1 := by
  unfold addA
  split
  · simp
  · omega
theorem addV_ok {n : Nat} {V : Vw} {e : Ev} (h : VOk n V) : VOk (n + 1) (addV V e) := by
  unfold addV
  split
  · rename_i he
    have h1 := h.of_ e.room
    refine ⟨putK_up h.up, fun p hp => ?_, Nat.le_trans (putK_len _ _) (by have := h.len; omega)⟩
    rcases (putK_mem h.up).1 hp with rfl | ⟨hp, -⟩
    · refine ⟨valid_add h1.1, ?_, ?_⟩
      · have := addA_len e.room (ofL V e.room) e
        simp only
        omega
      · have h2 := (err_zero he).1
        unfold mayE headB at h2
        simp only [Bool.and_eq_true] at h2
        have h3 := h2.1.1.1.1.1.1.2
        exact named_size h3
    · have := h.each p hp
      exact ⟨this.1, by omega, this.2.2⟩
  · exact h.mono (Nat.le_succ n)
/-- The rooms in which a user is joined. -/
def roomsV (V : Vw) (u : ByteArray) : List ByteArray := (V.filter (fun p => joinL p.2 u)).map Prod.fst
theorem roomsV_up {V : Vw} (h : Up (V.map Prod.fst)) (u : ByteArray) : Up (roomsV V u) := by
  unfold roomsV
  rw [Up, List.pairwise_map] at *
  exact h.filter _
theorem roomsV_mem {V : Vw} (h : Up (V.map Prod.fst)) {u r : ByteArray} : r ∈ roomsV V u ↔ r ∈ V.map Prod.fst ∧ joinL (ofL V r) u = true := by
  unfold roomsV
  constructor
  · intro hr
    obtain ⟨p, hp, rfl⟩ := List.mem_map.1 hr
    obtain ⟨hp, hj⟩ := List.mem_filter.1 hp
    exact ⟨List.mem_map.2 ⟨p, hp, rfl⟩, by rw [ofL_in h hp]; exact hj⟩
  · rintro ⟨hr, hj⟩
    obtain ⟨p, hp, rfl⟩ := List.mem_map.1 hr
    rw [ofL_in h hp] at hj
    exact List.mem_map.2 ⟨p, List.mem_filter.2 ⟨hp, hj⟩, rfl⟩
/-- The same events, of the same rooms. -/
def sameV (V W : Vw) : Bool := decide (V.map (fun p => (p.1, allL p.2)) = W.map (fun p => (p.1, allL p.2)))
/-- Is an event of a thread? -/
def fitsL (l : List Ev) (id thread : ByteArray) : Int := match idx l id with
  | none => 4
  | some k => match l[k]? with
    | none => 4
    | some e => if thread = ⟨#[]⟩ ∨ thread = id ∨ (thread = ⟨#[109, 97, 105, 110]⟩ ∧ e.thread = ⟨#[]⟩) ∨ (e.thread ≠ ⟨#[]⟩ ∧ thread = e.thread) then 0 else 7
end Go.Proofs.Ytjiecjpepiknmaa
