/-
  Views, plain; what is kept; package view's New, Add, Fits.
-/
import Derived.Test.YtjiecjpepiknmaaGreatM9A
import Derived.Test.YtjiecjpepiknmaaGreatDgA
import Derived.Test.YtjiecjpepiknmaaGreatDgF
import Derived.Maps.Views
import Derived.Maps.RangeWalk
namespace Go.Proofs.YtjiecjpepiknmaaGreat
set_option maxRecDepth 20000
set_option linter.unusedVariables false
set_option linter.unusedSimpArgs false

section
variable {α : Type} (key : α → ByteArray)
/-- A thing is put where it belongs, in the place of one of the same key. -/
def putK (x : α) : List α → List α
  | [] => [x]
  | y :: r => bif leS (key x) (key y) then x :: (y :: r).filter (fun z => !decide (key z = key x)) else y :: putK x r
def putKStep (x : α) (p : Bool × List α) (y : α) : Bool × List α :=
  let q : Bool × List α := if (!p.1 && leS (key x) (key y)) = true then (true, p.2 ++ [x]) else p
  (q.1, if key y = key x then q.2 else q.2 ++ [y])
def putKTo (x : α) (l : List α) (n : Nat) : Bool × List α := (l.take n).foldl (putKStep key x) (false, [])
variable {key}
theorem putKTo_succ {x : α} {l : List α} {n : Nat} {y : α} (h : l[n]? = some y) : putKTo key x l (n + 1) = putKStep key x (putKTo key x l n) y := by
  unfold putKTo
  rw [List.take_add_one, h, List.foldl_append]
  rfl
theorem putKStep_done (x : α) : ∀ (l pre : List α), l.foldl (putKStep key x) (true, pre) = (true, pre ++ l.filter (fun y => !decide (key y = key x)))
  | [], pre => by simp
  | y :: r, pre => by
    rw [List.foldl_cons]
    have h1 : putKStep key x (true, pre) y = (true, if key y = key x then pre else pre ++ [y]) := by
      unfold putKStep
      simp
    rw [h1, putKStep_done x r]
    by_cases hx : key y = key x
    · simp [hx, List.filter_cons]
    · simp [hx, List.filter_cons]
theorem putKStep_all (x : α) : ∀ (l pre : List α), (let p := l.foldl (putKStep key x) (false, pre); if p.1 = true then p.2 else p.2 ++ [x]) = pre ++ putK key x l
  | [], pre => by simp [putK]
  | y :: r, pre => by
    rw [List.foldl_cons]
    unfold putK
    cases hb : leS (key x) (key y)
    · have hx : key y ≠ key x := fun e => by
        rw [e] at hb
        have := leS_iff.2 (List.lt_irrefl (key x).toList)
        rw [hb] at this; cases this
      have h1 : putKStep key x (false, pre) y = (false, pre ++ [y]) := by
        unfold putKStep
        simp [hb, hx]
      rw [h1, cond_false]
      have := putKStep_all x r (pre ++ [y])
      simp only [List.append_assoc, List.singleton_append] at this
      exact this
    · have h1 : putKStep key x (false, pre) y = (true, if key y = key x then pre ++ [x] else pre ++ [x] ++ [y]) := by
        unfold putKStep
        simp [hb]
      rw [h1, cond_true, putKStep_done]
      by_cases hx : key y = key x
      · simp [hx, List.filter_cons]
      · simp [hx, List.filter_cons]
theorem putKTo_all (x : α) (l : List α) : (if (putKTo key x l l.length).1 = true then (putKTo key x l l.length).2 else (putKTo key x l l.length).2 ++ [x]) = putK key x l := by
  have h := putKStep_all (key := key) x l []
  unfold putKTo
  rw [List.take_length]
  simpa using h
theorem putKTo_mem {x : α} {l : List α} : ∀ (n : Nat) (z : α), z ∈ (putKTo key x l n).2 → z = x ∨ z ∈ l
  | 0, z, h => by simp [putKTo] at h
  | n + 1, z, h => by
    cases hx : l[n]? with
    | none =>
      have h2 : putKTo key x l (n + 1) = putKTo key x l n := by
        unfold putKTo
        rw [List.take_add_one, hx]
        simp
      rw [h2] at h
      exact putKTo_mem n z h
    | some y =>
      rw [putKTo_succ hx] at h
      have hxl := List.mem_of_getElem? hx
      have hq : z ∈ (if (!(putKTo key x l n).1 && leS (key x) (key y)) = true then (true, (putKTo key x l n).2 ++ [x]) else putKTo key x l n).2 → z = x ∨ z ∈ l := by
        split
        · intro h
          simp only [List.mem_append, List.mem_singleton] at h
          rcases h with h | h
          · exact putKTo_mem n z h
          · exact .inl h
        · exact putKTo_mem n z
      unfold putKStep at h
      simp only at h
      split at h
      · exact hq h
      · rcases List.mem_append.1 h with h | h
        · exact hq h
        · rw [List.mem_singleton.1 h]; exact .inr hxl
theorem putKTo_len (x : α) (l : List α) (n : Nat) : (putKTo key x l n).2.length ≤ 2 * n := by
  induction n with
  | zero => simp [putKTo]
  | succ n ih =>
    cases h : l[n]? with
    | none =>
      have h2 : putKTo key x l (n + 1) = putKTo key x l n := by
        unfold putKTo
        rw [List.take_add_one, h]
        simp
      rw [h2]; omega
    | some y =>
      rw [putKTo_succ h]
      unfold putKStep
      simp only
      split <;> split <;> (try simp only [List.length_append, List.length_cons, List.length_nil]) <;> omega
theorem putK_keys (x : α) : ∀ l : List α, (putK key x l).map key = putL (key x) (l.map key)
  | [] => rfl
  | y :: r => by
    rw [List.map_cons]
    unfold putL
    rw [putK]
    cases leS (key x) (key y)
    · rw [cond_false, cond_false, List.map_cons, putK_keys x r]
    · rw [cond_true, cond_true, List.map_cons, ← List.map_cons (f := key) (a := y), List.filter_map]
      rfl
theorem putK_map {β : Type} (key' : β → ByteArray) (f : α → β) (hf : ∀ z, key' (f z) = key z) (x : α) : ∀ l : List α, (putK key x l).map f = putK key' (f x) (l.map f)
  | [] => rfl
  | y :: r => by
    rw [List.map_cons, putK, putK, hf, hf]
    cases leS (key x) (key y)
    · rw [cond_false, cond_false, List.map_cons, putK_map key' f hf x r]
    · rw [cond_true, cond_true, List.map_cons, ← List.map_cons (f := f) (a := y), List.filter_map]
      congr 2
      apply List.filter_congr
      intro z _
      simp [hf]
theorem putK_up {x : α} {l : List α} (h : Up (l.map key)) : Up ((putK key x l).map key) := by rw [putK_keys]; exact putL_up _ _ h
theorem putK_len (x : α) (l : List α) : (putK key x l).length ≤ l.length + 1 := by
  have h := putL_len (key x) (l.map key)
  rw [← putK_keys, List.length_map, List.length_map] at h
  exact h
theorem up_ne {a b : ByteArray} (h : a.toList < b.toList) : a ≠ b := fun e => by subst e; exact List.lt_irrefl _ h
theorem putK_perm {x : α} : ∀ {l : List α}, Up (l.map key) → (putK key x l).Perm (x :: l.filter (fun z => !decide (key z = key x)))
  | [], _ => List.Perm.refl _
  | y :: r, h => by
    unfold putK
    have h1 := List.pairwise_cons.1 h
    cases hb : leS (key x) (key y)
    · rw [cond_false]
      have hx : key y ≠ key x := fun e => by
        rw [e] at hb
        have := leS_iff.2 (List.lt_irrefl (key x).toList)
        rw [hb] at this; cases this
      rw [List.filter_cons, if_pos (by simp [hx])]
      exact (List.Perm.cons y (putK_perm h1.2)).trans (List.Perm.swap _ _ _)
    · exact List.Perm.refl _
theorem putK_mem {x z : α} {l : List α} (h : Up (l.map key)) : z ∈ putK key x l ↔ z = x ∨ (z ∈ l ∧ key z ≠ key x) := by
  rw [(putK_perm h).mem_iff, List.mem_cons, List.mem_filter]
  simp
theorem up_keys {l : List α} (h : Up (l.map key)) {a b : α} (ha : a ∈ l) (hb : b ∈ l) (he : key a = key b) : a = b := by
  rw [Up, List.pairwise_map, List.pairwise_iff_getElem] at h
  obtain ⟨i, hi, rfl⟩ := List.getElem_of_mem ha
  obtain ⟨j, hj, rfl⟩ := List.getElem_of_mem hb
  rcases Nat.lt_trichotomy i j with hl | hl | hl
  · exact absurd he (up_ne (h i j hi hj hl))
  · subst hl; rfl
  · exact absurd he.symm (up_ne (h j i hj hi hl))
end

/-- Rooms, rising, and the events of each as they came. -/
abbrev Vw := List (ByteArray × List Ev)
def ofL (V : Vw) (r : ByteArray) : List Ev := match V.find? (fun p => decide (p.1 = r)) with
  | some p => p.2
  | none => []
def errV (V : Vw) (e : Ev) : Int := errA e.room (ofL V e.room) e
def addV (V : Vw) (e : Ev) : Vw := if errV V e = 0 then putK Prod.fst (e.room, addA e.room (ofL V e.room) e) V else V
theorem ofL_in {V : Vw} (h : Up (V.map Prod.fst)) {p : ByteArray × List Ev} (hp : p ∈ V) : ofL V p.1 = p.2 := by
  unfold ofL
  cases hf : V.find? (fun q => decide (q.1 = p.1)) with
  | none =>
    rw [List.find?_eq_none] at hf
    have := hf p hp
    simp at this
  | some q =>
    have h1 := List.mem_of_find?_eq_some hf
    have h2 := List.find?_some hf
    rw [decide_eq_true_eq] at h2
    rw [up_keys h h1 hp h2]
theorem ofL_out {V : Vw} {r : ByteArray} (h : r ∉ V.map Prod.fst) : ofL V r = [] := by
  unfold ofL
  cases hf : V.find? (fun q => decide (q.1 = r)) with
  | none => rfl
  | some q =>
    have h1 := List.mem_of_find?_eq_some hf
    have h2 := List.find?_some hf
    rw [decide_eq_true_eq] at h2
    exact absurd (List.mem_map.2 ⟨q, h1, h2⟩) h
/-- What a view may be. -/
structure VOk (n : Nat) (V : Vw) : Prop where
  up : Up (V.map Prod.fst)
  each : ∀ p ∈ V, Valid p.1 p.2 ∧ p.2.length ≤ n ∧ p.1.size ≤ 40
  len : V.length ≤ n
theorem VOk.nil : VOk 0 [] := ⟨List.Pairwise.nil, fun p h => (by cases h), Nat.le_refl _⟩
theorem VOk.mono {n n' : Nat} {V : Vw} (h : VOk n V) (hn : n ≤ n') : VOk n' V := ⟨h.up, fun p hp => ⟨(h.each p hp).1, Nat.le_trans (h.each p hp).2.1 hn, (h.each p hp).2.2⟩, Nat.le_trans h.len hn⟩
theorem VOk.of_ {n : Nat} {V : Vw} (h : VOk n V) (r : ByteArray) : Valid r (ofL V r) ∧ (ofL V r).length ≤ n := by
  by_cases hr : r ∈ V.map Prod.fst
  · obtain ⟨p, hp, rfl⟩ := List.mem_map.1 hr
    rw [ofL_in h.up hp]
    exact ⟨(h.each p hp).1, (h.each p hp).2.1⟩
  · rw [ofL_out hr]
    exact ⟨valid_nil r, Nat.zero_le _⟩
theorem addA_len (room : ByteArray) (l : List Ev) (e : Ev) : (addA room l e).length ≤ l.length + 1 := by
  unfold addA
  split
  · simp
  · omega
theorem addV_ok {n : Nat} {V : Vw} {e : Ev} (h : VOk n V) : VOk (n + 1) (addV V e) := by
  unfold addV
  split
  · rename_i he
    have h1 := h.of_ e.room
    refine ⟨putK_up h.up, fun p hp => ?_, Nat.le_trans (putK_len _ _) (by have := h.len; omega)⟩
    rcases (putK_mem h.up).1 hp with rfl | ⟨hp, -⟩
    · refine ⟨valid_add h1.1, ?_, ?_⟩
      · have := addA_len e.room (ofL V e.room) e
        simp only
        omega
      · have h2 := (err_zero he).1
        unfold mayE headB at h2
        simp only [Bool.and_eq_true] at h2
        have h3 := h2.1.1.1.1.1.1.2
        exact named_size h3
    · have := h.each p hp
      exact ⟨this.1, by omega, this.2.2⟩
  · exact h.mono (Nat.le_succ n)
/-- The rooms in which a user is joined. -/
def roomsV (V : Vw) (u : ByteArray) : List ByteArray := (V.filter (fun p => joinL p.2 u)).map Prod.fst
theorem roomsV_up {V : Vw} (h : Up (V.map Prod.fst)) (u : ByteArray) : Up (roomsV V u) := by
  unfold roomsV
  rw [Up, List.pairwise_map] at *
  exact h.filter _
theorem roomsV_mem {V : Vw} (h : Up (V.map Prod.fst)) {u r : ByteArray} : r ∈ roomsV V u ↔ r ∈ V.map Prod.fst ∧ joinL (ofL V r) u = true := by
  unfold roomsV
  constructor
  · intro hr
    obtain ⟨p, hp, rfl⟩ := List.mem_map.1 hr
    obtain ⟨hp, hj⟩ := List.mem_filter.1 hp
    exact ⟨List.mem_map.2 ⟨p, hp, rfl⟩, by rw [ofL_in h hp]; exact hj⟩
  · rintro ⟨hr, hj⟩
    obtain ⟨p, hp, rfl⟩ := List.mem_map.1 hr
    rw [ofL_in h hp] at hj
    exact List.mem_map.2 ⟨p, List.mem_filter.2 ⟨hp, hj⟩, rfl⟩
/-- The same events, of the same rooms. -/
def sameV (V W : Vw) : Bool := decide (V.map (fun p => (p.1, allL p.2)) = W.map (fun p => (p.1, allL p.2)))
/-- Is an event of a thread? -/
def fitsL (l : List Ev) (id thread : ByteArray) : Int := match idx l id with
  | none => 4
  | some k => match l[k]? with
    | none => 4
    | some e => if thread = ⟨#[]⟩ ∨ thread = id ∨ (thread = ⟨#[109, 97, 105, 110]⟩ ∧ e.thread = ⟨#[]⟩) ∨ (e.thread ≠ ⟨#[]⟩ ∧ thread = e.thread) then 0 else 7
end Go.Proofs.YtjiecjpepiknmaaGreat

namespace Go.Proofs.YtjiecjpepiknmaaGreat
set_option maxRecDepth 20000
open Go.RowKit Go.Maps Go.ChangeMaps
set_option linter.unusedVariables false
set_option linter.unusedSimpArgs false

/-- Only these blocks have turned, and new ones have come. -/
structure TurnP (P : Nat → Prop) (w w' : World) : Prop where
  os : w'.os = w.os
  tape : w'.tape = w.tape
  output : w'.output = w.output
  size : w.heap.size ≤ w'.heap.size
  block : ∀ k, k < w.heap.size → ¬ P k → w'.heap[k]? = w.heap[k]?
theorem TurnP.below {P : Nat → Prop} {w w' : World} {B : Nat} (h : TurnP P w w') (hf : ∀ k, P k → B ≤ k) (hB : B ≤ w.heap.size) : Below B w w' := ⟨h.os, h.tape, h.output, h.size, fun k hk => h.block k (Nat.lt_of_lt_of_le hk hB) (fun hh => by have := hf k hh; omega)⟩
theorem TurnD.refl {own : World → Nat → Nat → Prop} (w : World) (g : Nat) : TurnD own w w g := ⟨rfl, rfl, rfl, Nat.le_refl _, fun _ _ _ => rfl, fun _ h => .inl h⟩

theorem Dags.later {C : Dags} {w w' : World} {g : Nat} {room : ByteArray} {l : List Ev} (hc : C.CD w g room l) (hb : Below w.heap.size w w') : C.CD w' g room l ∧ TurnD C.own w w' g := by
  obtain ⟨h1, h2⟩ := C.keep hc hb.size (fun k hk => hb.block k (C.old hc hk))
  exact ⟨h1, ⟨hb.os, hb.tape, hb.output, hb.size, fun k hk _ => hb.block k hk, fun k hk => .inl (h2 k hk)⟩⟩
theorem below_drew (w : World) : Below w.heap.size w w.drew := (Below.refl _ w).drew

/-- A dag of a view: its room, where it lies, its events. -/
structure DgI where
  room : ByteArray
  g : Nat
  l : List Ev
abbrev DgI.rl (d : DgI) : ByteArray × List Ev := (d.room, d.l)
def DgI.ptr (d : DgI) : Value := .pointer (some ⟨d.g, 0, none⟩)
def DgI.entry (d : DgI) : Lit × Dv := (kl d.room, .held d.ptr)
/-- The map says: these dags. -/
def VdM (D : Dv) (ds : List DgI) : Prop := ∃ es, D = .map es ∧ es.Perm (ds.map DgI.entry)
theorem VdM.nil : VdM (.map []) [] := ⟨[], rfl, List.Perm.refl _⟩
theorem VdM.size {D : Dv} {ds : List DgI} (h : VdM D ds) : Maps.size D = ds.length := by
  obtain ⟨es, rfl, hp⟩ := h
  rw [Maps.size_eq, hp.length_eq, List.length_map]
theorem vd_apart {ds : List DgI} {es : List (Lit × Dv)} (hp : es.Perm (ds.map DgI.entry)) (hu : Up (ds.map DgI.room)) : es.Pairwise (fun p q => p.1 ≠ q.1) := by
  have h1 : (ds.map DgI.entry).Pairwise (fun p q => p.1 ≠ q.1) := by
    rw [List.pairwise_map]
    rw [Up, List.pairwise_map] at hu
    exact hu.imp (fun h e => up_ne h (kl_inj e))
  exact (hp.pairwise_iff (fun h e => h e.symm)).2 h1
theorem VdM.has_iff {D : Dv} {ds : List DgI} (h : VdM D ds) (k : ByteArray) : Maps.has D (kl k) = true ↔ ∃ d ∈ ds, d.room = k := by
  obtain ⟨es, rfl, hp⟩ := h
  rw [Maps.has_eq, List.any_eq_true]
  constructor
  · rintro ⟨p, hm, hk⟩
    obtain ⟨d, hd, rfl⟩ := List.mem_map.1 (hp.mem_iff.1 hm)
    refine ⟨d, hd, ?_⟩
    simp only [DgI.entry, kl, Lit.sameKey, beq_iff_eq] at hk
    exact (key_eq _ _).2 hk
  · rintro ⟨d, hd, rfl⟩
    exact ⟨d.entry, hp.mem_iff.2 (List.mem_map.2 ⟨d, hd, rfl⟩), WideAt.sameKey_self (kl_key _)⟩
theorem VdM.at_ {D : Dv} {ds : List DgI} (h : VdM D ds) (hu : Up (ds.map DgI.room)) {d : DgI} (hm : d ∈ ds) (zd : Dv) : D.atKey (kl d.room) zd = .held d.ptr := by
  obtain ⟨es, rfl, hp⟩ := h
  exact WideAt.atKey_mem zd (kl_key _) (vd_apart hp hu) (hp.mem_iff.2 (List.mem_map.2 ⟨d, hm, rfl⟩))
theorem VdM.put {D : Dv} {ds : List DgI} (h : VdM D ds) (hu : Up (ds.map DgI.room)) (d : DgI) : VdM (D.put (kl d.room) (.held d.ptr)) (putK DgI.room d ds) := by
  obtain ⟨es, rfl, hp⟩ := h
  refine ⟨_, DataW.put_eq _ _ _, ?_⟩
  unfold putKey
  refine (WideShapes.insert_perm _ _).trans ?_
  refine List.Perm.trans ?_ ((putK_perm hu).map DgI.entry).symm
  rw [List.map_cons]
  refine List.Perm.cons _ ?_
  have h2 := (hp.filter (notKey (kl d.room)))
  refine h2.trans (List.Perm.of_eq ?_)
  rw [List.filter_map]
  congr 1
  apply List.filter_congr
  intro z _
  simp only [Function.comp_apply, DgI.entry, notKey, kl, Lit.sameKey]
  congr 1
  rw [Bool.eq_iff_iff, beq_iff_eq, decide_eq_true_eq]
  exact ((key_eq _ _).symm)
/-- A map owns no more room than it takes. -/
theorem OwnN.tight {w : World} {mb n : Nat} {D : Dv} (h : OwnN w mb n D) : OwnN w mb (Maps.size D) D := by
  obtain ⟨es, clock, hb, F, hs, rfl⟩ := h
  exact ⟨es, clock, hb, F, by simp [Maps.size, length_sorted], rfl⟩

/-- A view: its struct, its map, its dags. -/
structure VI where
  g : Nat
  mb : Nat
  ds : List DgI
  D : Dv
def VI.V (v : VI) : Vw := v.ds.map DgI.rl
/-- Its blocks. -/
def VI.own (C : Dags) (v : VI) (w : World) (k : Nat) : Prop := k = v.g ∨ k = v.mb ∨ ∃ d ∈ v.ds, C.own w d.g k
structure CVs (C : Dags) (w : World) (v : VI) : Prop where
  hd : w.heap[v.g]? = some (.cells #[.map (some v.mb)] 80 (0, 0))
  map : OwnN w v.mb v.ds.length v.D
  is : VdM v.D v.ds
  dag : ∀ d ∈ v.ds, C.CD w d.g d.room d.l ∧ ∀ k, C.own w d.g k → k ≠ v.g ∧ k ≠ v.mb
  apart : ∀ d ∈ v.ds, ∀ d' ∈ v.ds, d.room ≠ d'.room → ∀ k, C.own w d.g k → ¬ C.own w d'.g k
  ok : VOk 100 v.V
section
variable {C : Dags} {w w' wr wa : World} {v v' : VI} {d : DgI}
theorem VI.V_room (v : VI) : v.V.map Prod.fst = v.ds.map DgI.room := by
  unfold VI.V
  rw [List.map_map]
  rfl
theorem CVs.up (h : CVs C w v) : Up (v.ds.map DgI.room) := by
  rw [← VI.V_room]
  exact h.ok.up
theorem CVs.each (h : CVs C w v) (hd : d ∈ v.ds) : Valid d.room d.l ∧ d.l.length ≤ 100 ∧ d.room.size ≤ 40 := h.ok.each d.rl (List.mem_map.2 ⟨d, hd, rfl⟩)
theorem CVs.of_ (h : CVs C w v) (hd : d ∈ v.ds) : ofL v.V d.room = d.l := ofL_in h.ok.up (p := d.rl) (List.mem_map.2 ⟨d, hd, rfl⟩)
theorem CVs.noRoom (h : CVs C w v) {r : ByteArray} (hr : ¬ ∃ d ∈ v.ds, d.room = r) : ofL v.V r = [] := ofL_out (by
  rw [VI.V_room]
  intro hm
  obtain ⟨d, hd, he⟩ := List.mem_map.1 hm
  exact hr ⟨d, hd, he⟩)
theorem CVs.len (h : CVs C w v) : v.ds.length ≤ 100 := by
  have := h.ok.len
  unfold VI.V at this
  rw [List.length_map] at this
  exact this
theorem CVs.old (h : CVs C w v) {k : Nat} (ho : v.own C w k) : k < w.heap.size := by
  rcases ho with rfl | rfl | ⟨d, hd, hk⟩
  · exact smem_lt h.hd
  · exact h.map.lt
  · exact C.old (h.dag d hd).1 hk
/-- A view stays where its own blocks stay. -/
theorem CVs.keep (h : CVs C w v) (hs : w.heap.size ≤ w'.heap.size) (hb : ∀ k, v.own C w k → w'.heap[k]? = w.heap[k]?) : CVs C w' v ∧ ∀ k, v.own C w' k → v.own C w k := by
  have hk : ∀ d ∈ v.ds, C.CD w' d.g d.room d.l ∧ ∀ k, C.own w' d.g k → C.own w d.g k := fun d hd => C.keep (h.dag d hd).1 hs (fun k hk => hb k (.inr (.inr ⟨d, hd, hk⟩)))
  refine ⟨⟨(hb v.g (.inl rfl)).trans h.hd, h.map.keep (hb v.mb (.inr (.inl rfl))), h.is, fun d hd => ⟨(hk d hd).1, fun k ho => (h.dag d hd).2 k ((hk d hd).2 k ho)⟩, fun d hd d' hd' hr k ho ho' => h.apart d hd d' hd' hr k ((hk d hd).2 k ho) ((hk d' hd').2 k ho'), h.ok⟩, fun k ho => ?_⟩
  rcases ho with rfl | rfl | ⟨d, hd, ho⟩
  · exact .inl rfl
  · exact .inr (.inl rfl)
  · exact .inr (.inr ⟨d, hd, (hk d hd).2 k ho⟩)
/-- A dag of its own has turned, and is as it was. -/
theorem CVs.turn (h : CVs C w v) (hd : d ∈ v.ds) (hc : C.CD w' d.g d.room d.l) (ht : TurnD C.own w w' d.g) : CVs C w' v ∧ TurnP (v.own C w) w w' ∧ (∀ k, v.own C w' k → v.own C w k ∨ (w.heap.size ≤ k ∧ C.own w' d.g k)) ∧ w'.heap[v.mb]? = w.heap[v.mb]? := by
  have hoth : ∀ d' ∈ v.ds, d' ≠ d → C.CD w' d'.g d'.room d'.l ∧ ∀ k, C.own w' d'.g k → C.own w d'.g k := fun d' hd' hne => C.keep (h.dag d' hd').1 ht.size (fun k hk => ht.block k (C.old (h.dag d' hd').1 hk) (fun ho => h.apart d' hd' d hd (fun e => hne (up_keys h.up hd' hd e)) k hk ho))
  have hcd : ∀ d' ∈ v.ds, C.CD w' d'.g d'.room d'.l ∧ ∀ k, C.own w' d'.g k → C.own w d'.g k ∨ (w.heap.size ≤ k ∧ d' = d) := fun d' hd' => by
    by_cases hne : d' = d
    · subst hne
      exact ⟨hc, fun k hk => by
        rcases ht.owns k hk with hh | hh
        · exact .inl hh
        · exact .inr ⟨hh, rfl⟩⟩
    · obtain ⟨h1, h2⟩ := hoth d' hd' hne
      exact ⟨h1, fun k hk => .inl (h2 k hk)⟩
  have hmb : w'.heap[v.mb]? = w.heap[v.mb]? := ht.block v.mb h.map.lt (fun ho => ((h.dag d hd).2 _ ho).2 rfl)
  have hg := smem_lt h.hd
  have hm := h.map.lt
  refine ⟨⟨(ht.block v.g hg (fun ho => ((h.dag d hd).2 _ ho).1 rfl)).trans h.hd, h.map.keep hmb, h.is, fun d' hd' => ⟨(hcd d' hd').1, fun k hk => ?_⟩, fun d1 h1 d2 h2 hr k k1 k2 => ?_, h.ok⟩, ⟨ht.os, ht.tape, ht.output, ht.size, fun k hk hn => ht.block k hk (fun ho => hn (.inr (.inr ⟨d, hd, ho⟩)))⟩, fun k ho => ?_, hmb⟩
  · rcases (hcd d' hd').2 k hk with hh | ⟨hh, -⟩
    · exact (h.dag d' hd').2 k hh
    · exact ⟨by omega, by omega⟩
  · rcases (hcd d1 h1).2 k k1 with e1 | ⟨e1, e1'⟩
    · rcases (hcd d2 h2).2 k k2 with e2 | ⟨e2, e2'⟩
      · exact h.apart d1 h1 d2 h2 hr k e1 e2
      · have := C.old (h.dag d1 h1).1 e1; omega
    · rcases (hcd d2 h2).2 k k2 with e2 | ⟨e2, e2'⟩
      · have := C.old (h.dag d2 h2).1 e2; omega
      · rw [e1', e2'] at hr; exact hr rfl
  · rcases ho with rfl | rfl | ⟨d', hd', ho⟩
    · exact .inl (.inl rfl)
    · exact .inl (.inr (.inl rfl))
    · rcases (hcd d' hd').2 k ho with hh | ⟨hh, e⟩
      · exact .inl (.inr (.inr ⟨d', hd', hh⟩))
      · exact .inr ⟨hh, e ▸ ho⟩
end
/-- A thing that lies in memory: which blocks it takes, what it says. -/
structure Th where
  P : Nat → Prop
  I : World → Prop
  lt : ∀ w k, I w → P k → k < w.heap.size
  st : ∀ w w' : World, I w → w.heap.size ≤ w'.heap.size → (∀ k, k < w.heap.size → P k → w'.heap[k]? = w.heap[k]?) → I w'
def Th.box (B : Nat) (o : Obj) : Th := ⟨fun k => k = B, fun w => w.heap[B]? = some o, fun w k h e => by rw [e]; exact smem_lt h, fun w w' h hs hb => (hb B (smem_lt h) rfl).trans h⟩
def Th.low (B : Nat) : Th := ⟨fun _ => False, fun w => B ≤ w.heap.size, fun w k h e => e.elim, fun w w' h hs hb => Nat.le_trans h hs⟩
def Th.mark (B : Nat) : Th := ⟨fun k => k = B, fun w => B < w.heap.size, fun w k h e => by rw [e]; exact h, fun w w' h hs hb => Nat.lt_of_lt_of_le h hs⟩
def Th.ev (x : EvV) : Th := ⟨footV x, fun w => x.at w, fun w k h hk => h.foot hk, fun w w' h hs hb => h.stay0 hs (fun k hk hf => hb k hk hf)⟩
def Th.evs (v : Value) (xs : List EvV) : Th := ⟨footE v xs, fun w => EvsS w v xs, fun w k h hk => h.foot hk, fun w w' h hs hb => h.stay hs (fun k hk hf => hb k hk hf)⟩
def Th.row {α : Type} (L : Lies α) (v : Value) (us : List α) : Th := ⟨fun k => 0 < us.length ∧ v.ownBlock = some k, fun w => L.Slice w v us, fun w k h hk => h.foot hk.1 hk.2, fun w w' h hs hb => h.stay0 hs (fun k hk h0 hv => hb k hk ⟨h0, hv⟩)⟩
def Th.mine {α : Type} (L : Lies α) (B : Nat) (v : Value) (us : List α) : Th := ⟨fun k => v.ownBlock = some k, fun w => L.Mine w B v us, fun w k h hk => (h.lt k hk).2, fun w w' h hs hb => h.keep (fun k hk => hb k (h.lt k hk).2 hk)⟩
/-- What is kept: views of the code, each with its own blocks, and things beside them. -/
structure Kv (C : Dags) (w wr : World) (vs : List VI) (ts : List Th) : Prop where
  below : Below w.heap.size w wr
  vw : ∀ (i : Nat) v, vs[i]? = some v → CVs C wr v ∧ ∀ k, v.own C wr k → w.heap.size ≤ k
  off : ∀ (i j : Nat) v v', vs[i]? = some v → vs[j]? = some v' → i ≠ j → ∀ k, v.own C wr k → ¬ v'.own C wr k
  th : ∀ t ∈ ts, t.I wr ∧ ∀ (i : Nat) v, vs[i]? = some v → ∀ k, t.P k → ¬ v.own C wr k
section
variable {C : Dags} {w w' wr : World} {vs : List VI} {ts ts' : List Th} {v v' : VI} {d : DgI} {i : Nat} {t : Th}
theorem Kv.start (w : World) : Kv C w w [] [] := ⟨Below.refl _ _, fun i v h => (by simp at h), fun i j v v' h => (by simp at h), fun t h => (by cases h)⟩
theorem Kv.size (h : Kv C w wr vs ts) : w.heap.size ≤ wr.heap.size := h.below.size
theorem Kv.is (h : Kv C w wr vs ts) (ht : t ∈ ts) : t.I wr := (h.th t ht).1
theorem Kv.cv (h : Kv C w wr vs ts) (hi : vs[i]? = some v) : CVs C wr v := (h.vw i v hi).1
/-- One view turns, all else stays. -/
theorem Kv.turn (h : Kv C w wr vs ts) (hi : vs[i]? = some v) (hc : CVs C w' v') (ht : TurnP (v.own C wr) wr w') (ho : ∀ k, v'.own C w' k → v.own C wr k ∨ wr.heap.size ≤ k) : Kv C w w' (vs.set i v') ts := by
  obtain ⟨hcv, hlo⟩ := h.vw i v hi
  have hil := (List.getElem?_eq_some_iff.1 hi).1
  have hsz := h.below.size
  have hoth : ∀ (j : Nat) u, vs[j]? = some u → j ≠ i → CVs C w' u ∧ ∀ k, u.own C w' k → u.own C wr k := fun j u hu hj => (h.cv hu).keep ht.size (fun k hk => ht.block k ((h.cv hu).old hk) (h.off j i u v hu hi hj k hk))
  refine ⟨h.below.trans (ht.below hlo hsz), fun j u hu => ?_, fun j k' u u' hu hu' hne k k1 k2 => ?_, fun t htm => ⟨?_, fun j u hu k hk hown => ?_⟩⟩
  · rw [List.getElem?_set] at hu
    split at hu
    · injection hu with hu
      subst hu
      exact ⟨hc, fun k hk => by
        rcases ho k hk with hh | hh
        · exact hlo k hh
        · omega⟩
    · rename_i hne
      obtain ⟨h1, h2⟩ := hoth j u hu (fun e => hne e.symm)
      exact ⟨h1, fun k hk => (h.vw j u hu).2 k (h2 k hk)⟩
  · rw [List.getElem?_set] at hu hu'
    by_cases e1 : i = j
    · rw [if_pos e1, if_pos (by omega)] at hu
      have e2 : i ≠ k' := fun e => hne (by omega)
      rw [if_neg e2] at hu'
      injection hu with hu
      subst hu
      have k3 := (hoth k' u' hu' (fun e => e2 e.symm)).2 k k2
      rcases ho k k1 with hh | hh
      · exact h.off i k' v u' hi hu' e2 k hh k3
      · have := (h.cv hu').old k3; omega
    · rw [if_neg e1] at hu
      have k3 := (hoth j u hu (fun e => e1 e.symm)).2 k k1
      by_cases e2 : i = k'
      · rw [if_pos e2, if_pos (by omega)] at hu'
        injection hu' with hu'
        subst hu'
        rcases ho k k2 with hh | hh
        · exact h.off j i u v hu hi (fun e => e1 e.symm) k k3 hh
        · have := (h.cv hu).old k3; omega
      · rw [if_neg e2] at hu'
        exact h.off j k' u u' hu hu' hne k k3 ((hoth k' u' hu' (fun e => e2 e.symm)).2 k k2)
  · exact t.st wr w' (h.is htm) ht.size (fun k hk hp => ht.block k hk ((h.th t htm).2 i v hi k hp))
  · have hkl := t.lt wr k (h.is htm) hk
    rw [List.getElem?_set] at hu
    split at hu
    · injection hu with hu
      subst hu
      rcases ho k hown with hh | hh
      · exact (h.th t htm).2 i v hi k hk hh
      · omega
    · rename_i hne
      exact (h.th t htm).2 j u hu k hk ((hoth j u hu (fun e => hne e.symm)).2 k hown)
theorem set_same {α : Type} {l : List α} {i : Nat} {x : α} (h : l[i]? = some x) : l.set i x = l := by
  apply List.ext_getElem?
  intro j
  rw [List.getElem?_set]
  split
  · rename_i e
    subst e
    rw [if_pos (List.getElem?_eq_some_iff.1 h).1, h]
  · rfl
/-- A dag of a view has been asked. -/
theorem Kv.dag (h : Kv C w wr vs ts) (hi : vs[i]? = some v) (hd : d ∈ v.ds) (hc : C.CD w' d.g d.room d.l) (ht : TurnD C.own wr w' d.g) : Kv C w w' vs ts ∧ (∀ (j : Nat) u, vs[j]? = some u → w'.heap[u.mb]? = wr.heap[u.mb]?) ∧ ∀ k, wr.heap.size ≤ k → ¬ C.own w' d.g k → ∀ (j : Nat) u, vs[j]? = some u → ¬ u.own C w' k := by
  obtain ⟨h1, h2, h3, h4⟩ := (h.cv hi).turn hd hc ht
  have hk := h.turn hi h1 h2 (fun k hk => by
    rcases h3 k hk with hh | ⟨hh, -⟩
    · exact .inl hh
    · exact .inr hh)
  rw [set_same hi] at hk
  have hoth : ∀ (j : Nat) u, vs[j]? = some u → j ≠ i → CVs C w' u ∧ ∀ k, u.own C w' k → u.own C wr k := fun j u hu hj => (h.cv hu).keep ht.size (fun k hk => h2.block k ((h.cv hu).old hk) (h.off j i u v hu hi hj k hk))
  refine ⟨hk, fun j u hu => ?_, fun k hk1 hk2 j u hu ho => ?_⟩
  · by_cases hj : j = i
    · subst hj
      rw [hi] at hu
      injection hu with hu
      subst hu
      exact h4
    · exact h2.block _ ((h.cv hu).old (.inr (.inl rfl))) (h.off j i u v hu hi hj _ (.inr (.inl rfl)))
  · by_cases hj : j = i
    · subst hj
      rw [hi] at hu
      injection hu with hu
      subst hu
      rcases h3 k ho with hh | ⟨-, hh⟩
      · have := (h.cv hi).old hh; omega
      · exact hk2 hh
    · have := (h.cv hu).old ((hoth j u hu hj).2 k ho)
      omega
theorem Kv.less (h : Kv C w wr vs ts) (hs : ∀ t ∈ ts', t ∈ ts) : Kv C w wr vs ts' := ⟨h.below, h.vw, h.off, fun t ht => h.th t (hs t ht)⟩
theorem Kv.later (h : Kv C w wr vs ts) (hb : Below wr.heap.size wr w') : Kv C w w' vs ts := by
  have hk : ∀ (j : Nat) u, vs[j]? = some u → CVs C w' u ∧ ∀ k, u.own C w' k → u.own C wr k := fun j u hu => (h.cv hu).keep hb.size (fun k hk => hb.block k ((h.cv hu).old hk))
  exact ⟨h.below.trans (hb.mono h.below.size), fun j u hu => ⟨(hk j u hu).1, fun k ho => (h.vw j u hu).2 k ((hk j u hu).2 k ho)⟩, fun j j' u u' hu hu' hne k k1 k2 => h.off j j' u u' hu hu' hne k ((hk j u hu).2 k k1) ((hk j' u' hu').2 k k2), fun t ht => ⟨t.st wr w' (h.is ht) hb.size (fun k hk _ => hb.block k hk), fun j u hu k hp ho => (h.th t ht).2 j u hu k hp ((hk j u hu).2 k ho)⟩⟩
/-- What is new, or lies in what is kept, is kept too. -/
theorem Kv.add (h : Kv C w wr vs ts) (hb : Below wr.heap.size wr w') (hI : t.I w') (hP : ∀ k, t.P k → wr.heap.size ≤ k ∨ ∃ u ∈ ts, u.P k) : Kv C w w' vs (t :: ts) := by
  have h' := h.later hb
  refine ⟨h'.below, h'.vw, h'.off, fun u hu => ?_⟩
  rcases List.mem_cons.1 hu with rfl | hu
  · refine ⟨hI, fun j x hx k hk ho => ?_⟩
    rcases hP k hk with hh | ⟨u, hu, hh⟩
    · have := (h.cv hx).old (((h.cv hx).keep hb.size (fun k hk => hb.block k ((h.cv hx).old hk))).2 k ho)
      omega
    · exact (h'.th u hu).2 j x hx k hh ho
  · exact h'.th u hu
theorem Kv.with (h : Kv C w wr vs ts) (hI : t.I wr) (hP : ∀ k, t.P k → ∀ (j : Nat) u, vs[j]? = some u → ¬ u.own C wr k) : Kv C w wr vs (t :: ts) :=
  ⟨h.below, h.vw, h.off, fun u hu => by
    rcases List.mem_cons.1 hu with rfl | hu
    · exact ⟨hI, fun j x hx k hk => hP k hk j x hx⟩
    · exact h.th u hu⟩
theorem Kv.low (h : Kv C w wr vs ts) : Kv C w wr vs (Th.low wr.heap.size :: ts) := h.with (t := Th.low wr.heap.size) (Nat.le_refl _) (fun k hk => hk.elim)
theorem Kv.swap {a b : Th} (h : Kv C w wr vs (a :: b :: ts)) : Kv C w wr vs (b :: a :: ts) := h.less (fun t ht => by
  rcases List.mem_cons.1 ht with rfl | ht
  · exact List.mem_cons_of_mem _ List.mem_cons_self
  · rcases List.mem_cons.1 ht with rfl | ht
    · exact List.mem_cons_self
    · exact List.mem_cons_of_mem _ (List.mem_cons_of_mem _ ht))
/-- A thing of one's own is written. -/
theorem Kv.put {row : Option Nat} {t' : Th} (h : Kv C w wr vs (t :: ts)) (hg : wr.grownBy w' row) (hr : ∀ k, row = some k → t.P k ∧ w.heap.size ≤ k ∧ ∀ u ∈ ts, ¬ u.P k) (hI : t'.I w') (hP : ∀ k, t'.P k → t.P k ∨ wr.heap.size ≤ k) : Kv C w w' vs (t' :: ts) := by
  have hne : ∀ (j : Nat) u, vs[j]? = some u → ∀ k, u.own C wr k → some k ≠ row := fun j u hu k hk e => (h.th t List.mem_cons_self).2 j u hu k (hr k e.symm).1 hk
  have hk : ∀ (j : Nat) u, vs[j]? = some u → CVs C w' u ∧ ∀ k, u.own C w' k → u.own C wr k := fun j u hu => (h.cv hu).keep hg.size (fun k hk => hg.block k ((h.cv hu).old hk) (hne j u hu k hk))
  refine ⟨h.below.grown hg h.below.size (fun k hk => (hr k hk).2.1), fun j u hu => ⟨(hk j u hu).1, fun k ho => (h.vw j u hu).2 k ((hk j u hu).2 k ho)⟩, fun j j' u u' hu hu' hne k k1 k2 => h.off j j' u u' hu hu' hne k ((hk j u hu).2 k k1) ((hk j' u' hu').2 k k2), fun u hu => ?_⟩
  rcases List.mem_cons.1 hu with rfl | hu
  · refine ⟨hI, fun j x hx k hkP ho => ?_⟩
    have h1 := (hk j x hx).2 k ho
    rcases hP k hkP with hh | hh
    · exact (h.th t List.mem_cons_self).2 j x hx k hh h1
    · have := (h.cv hx).old h1; omega
  · have hu' := List.mem_cons_of_mem t hu
    exact ⟨u.st wr w' (h.is hu') hg.size (fun k hk hp => hg.block k hk (fun e => (hr k e.symm).2.2 u hu hp)), fun j x hx k hp ho => (h.th u hu').2 j x hx k hp ((hk j x hx).2 k ho)⟩
/-- Memory that grows as a row does, whatever else: what is kept stays. -/
theorem Kv.grown (h : Kv C w wr vs ts) (hg : wr.grownBy w' none) : Kv C w w' vs ts := h.later ⟨hg.os, hg.tape, hg.output, hg.size, fun k hk => hg.block k hk (fun e => by cases e)⟩
/-- A view has been made. -/
theorem Kv.made (h : Kv C w wr vs ts) (hb : Below wr.heap.size wr w') (hc : CVs C w' v) (ho : ∀ k, v.own C w' k → wr.heap.size ≤ k) : Kv C w w' (vs ++ [v]) ts := by
  have h' := h.later hb
  have hk : ∀ (j : Nat) u, vs[j]? = some u → ∀ k, u.own C w' k → u.own C wr k := fun j u hu => ((h.cv hu).keep hb.size (fun k hk => hb.block k ((h.cv hu).old hk))).2
  have hcase : ∀ (j : Nat) u, (vs ++ [v])[j]? = some u → (vs[j]? = some u ∧ j < vs.length) ∨ (j = vs.length ∧ u = v) := fun j u hu => by
    by_cases hj : j < vs.length
    · rw [List.getElem?_append_left hj] at hu
      exact .inl ⟨hu, hj⟩
    · have hl := (List.getElem?_eq_some_iff.1 hu).1
      simp only [List.length_append, List.length_cons, List.length_nil] at hl
      obtain rfl : j = vs.length := by omega
      simp only [List.getElem?_concat_length, Option.some.injEq] at hu
      exact .inr ⟨rfl, hu.symm⟩
  refine ⟨h'.below, fun j u hu => ?_, fun j j' u u' hu hu' hne k k1 k2 => ?_, fun t ht => ⟨h'.is ht, fun j u hu k hp hown => ?_⟩⟩
  · rcases hcase j u hu with ⟨hu, -⟩ | ⟨-, rfl⟩
    · exact h'.vw j u hu
    · exact ⟨hc, fun k hk => Nat.le_trans h.below.size (ho k hk)⟩
  · rcases hcase j u hu with ⟨hu0, -⟩ | ⟨rfl, rfl⟩
    · rcases hcase j' u' hu' with ⟨hu', -⟩ | ⟨rfl, rfl⟩
      · exact h'.off j j' u u' hu0 hu' hne k k1 k2
      · have := (h.cv hu0).old (hk j u hu0 k k1)
        have := ho k k2
        omega
    · rcases hcase j' u' hu' with ⟨hu', -⟩ | ⟨rfl, rfl⟩
      · have := (h.cv hu').old (hk j' u' hu' k k2)
        have := ho k k1
        omega
      · exact hne rfl
  · rcases hcase j u hu with ⟨hu, -⟩ | ⟨rfl, rfl⟩
    · exact (h'.th t ht).2 j u hu k hp hown
    · have := t.lt wr k (h.is ht) hp
      have := ho k hown
      omega
end
/-- A dag that a view tells: its own, or a new one without events. -/
structure Kd (C : Dags) (w wr : World) (vs : List VI) (ts : List Th) (gd : Nat) (room : ByteArray) (l : List Ev) : Prop where
  kv : Kv C w wr vs ts
  is : (∃ (i : Nat) (v : VI) (d : DgI), vs[i]? = some v ∧ d ∈ v.ds ∧ d.g = gd ∧ d.room = room ∧ d.l = l) ∨ (C.CD wr gd room l ∧ ∀ k, C.own wr gd k → w.heap.size ≤ k ∧ (∀ (j : Nat) u, vs[j]? = some u → ¬ u.own C wr k) ∧ ∀ t ∈ ts, ¬ t.P k)
section
variable {C : Dags} {w w' wr : World} {vs : List VI} {ts ts' : List Th} {gd : Nat} {room : ByteArray} {l : List Ev}
theorem Kd.code (h : Kd C w wr vs ts gd room l) : C.CD wr gd room l := by
  rcases h.is with ⟨i, v, d, hi, hd, rfl, rfl, rfl⟩ | ⟨hc, -⟩
  · exact ((h.kv.cv hi).dag d hd).1
  · exact hc
/-- It has been asked. -/
theorem Kd.step (h : Kd C w wr vs ts gd room l) (hc : C.CD w' gd room l) (ht : TurnD C.own wr w' gd) : Kd C w w' vs ts gd room l ∧ ∀ k, wr.heap.size ≤ k → ¬ C.own w' gd k → ∀ (j : Nat) u, vs[j]? = some u → ¬ u.own C w' k := by
  rcases h.is with ⟨i, v, d, hi, hd, rfl, rfl, rfl⟩ | ⟨hc0, ho⟩
  · obtain ⟨h1, -, h3⟩ := h.kv.dag hi hd hc ht
    exact ⟨⟨h1, .inl ⟨i, v, d, hi, hd, rfl, rfl, rfl⟩⟩, h3⟩
  · have hk : ∀ (j : Nat) u, vs[j]? = some u → CVs C w' u ∧ ∀ k, u.own C w' k → u.own C wr k := fun j u hu => (h.kv.cv hu).keep ht.size (fun k hk => ht.block k ((h.kv.cv hu).old hk) (fun e => (ho k e).2.1 j u hu hk))
    refine ⟨⟨⟨h.kv.below.trans (ht.below (fun k hk => (ho k hk).1) h.kv.below.size), fun j u hu => ⟨(hk j u hu).1, fun k hh => (h.kv.vw j u hu).2 k ((hk j u hu).2 k hh)⟩, fun j j' u u' hu hu' hne k k1 k2 => h.kv.off j j' u u' hu hu' hne k ((hk j u hu).2 k k1) ((hk j' u' hu').2 k k2), fun t htm => ⟨t.st wr w' (h.kv.is htm) ht.size (fun k hk hp => ht.block k hk (fun e => (ho k e).2.2 t htm hp)), fun j u hu k hp hh => (h.kv.th t htm).2 j u hu k hp ((hk j u hu).2 k hh)⟩⟩, .inr ⟨hc, fun k hkk => ?_⟩⟩, fun k hk1 _ j u hu hh => ?_⟩
    · rcases ht.owns k hkk with hh | hh
      · exact ⟨(ho k hh).1, fun j u hu hx => (ho k hh).2.1 j u hu ((hk j u hu).2 k hx), (ho k hh).2.2⟩
      · refine ⟨Nat.le_trans h.kv.below.size hh, fun j u hu hx => ?_, fun t htm hp => ?_⟩
        · have := (h.kv.cv hu).old ((hk j u hu).2 k hx); omega
        · have := t.lt wr k (h.kv.is htm) hp; omega
    · have := (h.kv.cv hu).old ((hk j u hu).2 k hh); omega
theorem Kd.later (h : Kd C w wr vs ts gd room l) (hb : Below wr.heap.size wr w') : Kd C w w' vs ts gd room l := by
  have hh := C.keep h.code hb.size (fun k hk => hb.block k (C.old h.code hk))
  exact (h.step hh.1 ⟨hb.os, hb.tape, hb.output, hb.size, fun k hk _ => hb.block k hk, fun k hk => .inl (hh.2 k hk)⟩).1
end
end Go.Proofs.YtjiecjpepiknmaaGreat

namespace Go.Proofs.YtjiecjpepiknmaaGreat
set_option maxRecDepth 20000
open Go.RowKit Go.Maps Go.ChangeMaps
set_option linter.unusedVariables false
set_option linter.unusedSimpArgs false
section
variable {C : Dags} {w wr w' : World} {vs : List VI} {ts : List Th} {v : VI} {i : Nat}

theorem zeroDag (w : World) : (zeroValue 76).run Tryz.prog w = .ok (.pointer none) w := by kernel_rfl
/-- A room is looked up. -/
theorem CVs.look (h : CVs C w v) (k : ByteArray) (hk : k.size ≤ maxLen) :
    ((¬ ∃ d ∈ v.ds, d.room = k) ∧ (Instr.lookup 78 (.map (some v.mb)) (.string k) true).run Tryz.prog w = .ok (.tuple #[.pointer none, .bool false]) w)
    ∨ ∃ d ∈ v.ds, d.room = k ∧ (Instr.lookup 78 (.map (some v.mb)) (.string k) true).run Tryz.prog w = .ok (.tuple #[.pointer (some ⟨d.g, 0, none⟩), .bool true]) w := by
  obtain ⟨x, ps, hr, hv⟩ := World.ownsMap.look_ok h.map keyed Tryz.underlying78 (zeroDag w) (zd := .held (.pointer none)) (zp := []) rfl (keyIs hk)
  by_cases hh : ∃ d ∈ v.ds, d.room = k
  · obtain ⟨d, hd, he⟩ := id hh
    have h1 := (h.is.has_iff k).2 hh
    refine .inr ⟨d, hd, he, ?_⟩
    rw [← he, h.is.at_ h.up hd] at hv
    injection hv with hv
    injection hv with hv _
    injection hv with hv
    rw [hr, h1, hv]
    rfl
  · have h1 : Maps.has v.D (kl k) = false := by
      rw [Bool.eq_false_iff]
      exact fun e => hh ((h.is.has_iff k).1 e)
    refine .inl ⟨hh, ?_⟩
    have hz := Maps.atKey_of_not_has (D := v.D) (k := kl k) h1 (.held (.pointer none))
    rw [hz] at hv
    injection hv with hv
    injection hv with hv _
    injection hv with hv
    rw [hr, h1, hv]
/-- A dag is laid under its room. -/
theorem CVs.store (h : CVs C w v) {k : ByteArray} (hk : k.size ≤ maxLen) (g : Nat) : ∃ w', (Instr.mapUpdate 78 (.map (some v.mb)) (.string k) (.pointer (some ⟨g, 0, none⟩))).run Tryz.prog w = .ok () w' ∧ OwnN w' v.mb (v.ds.length + 1) (v.D.put (kl k) (.held (.pointer (some ⟨g, 0, none⟩)))) ∧ w.grownBy w' (some v.mb) := by
  obtain ⟨w', hr, ho, hg⟩ := World.ownsMap.update h.map keyed Tryz.underlying78 (by have := h.len; unfold maxLen; omega) (key := .string k) (val := .pointer (some ⟨g, 0, none⟩)) (d := .held (.pointer (some ⟨g, 0, none⟩))) (ps := []) (keyIs hk) rfl
  exact ⟨w', hr, ho, hg⟩

set_option maxHeartbeats 800000 in
theorem viewNew_any (h : Kv C w wr vs ts) : Calls Tryz.prog 46 #[] wr fun e w' => ∃ v, e = .returned (.pointer (some ⟨v.g, 0, none⟩)) ∧ v.V = [] ∧ Kv C w w' (vs ++ [v]) ts := by
  have HK := Lib.hid h
  have hmm := @run_makeMap Tryz.prog
  clear h
  go_enter Tryz.func46, Tryz.ntmps46
  go_wp2_with fail
  go_ret
  have h0 := World.ownsMap_made (H := Value) wr Tryz.prog 9 heldR
  have hb : Below wr.heap.size wr ((wr.alloc (.map #[] 0)).alloc (.cells #[.map (some wr.heap.size)] 80)) := ((Below.refl _ wr).alloc (Nat.le_refl _) _).alloc (by simp) _
  have h1 : CVs C ((wr.alloc (.map #[] 0)).alloc (.cells #[.map (some wr.heap.size)] 80)) ⟨wr.heap.size + 1, wr.heap.size, [], .map []⟩ := by
    refine ⟨?_, h0.alloc _, VdM.nil, fun n hn => (by cases hn), fun d hd => (by cases hd), VOk.nil.mono (Nat.zero_le _)⟩
    have := heap_alloc_new (wr.alloc (.map #[] 0)) (.cells #[.map (some wr.heap.size)] 80)
    rw [show (wr.alloc (.map #[] 0)).heap.size = wr.heap.size + 1 by simp] at this
    exact this
  refine ⟨⟨wr.heap.size + 1, wr.heap.size, [], .map []⟩, rfl, rfl, HK.out.made hb h1 (fun k hk => ?_)⟩
  rcases hk with e | e | ⟨d, hd, _⟩
  · simp only at e; omega
  · simp only at e; omega
  · cases hd

/-- The dag that dagOf tells. -/
def DagOf (C : Dags) (wr w' : World) (v : VI) (gd : Nat) (room : ByteArray) : Prop := (∃ d ∈ v.ds, d.g = gd ∧ d.room = room ∧ w' = wr) ∨ ((¬ ∃ d ∈ v.ds, d.room = room) ∧ C.CD w' gd room [] ∧ Below wr.heap.size wr w' ∧ ∀ k, C.own w' gd k → wr.heap.size ≤ k)
theorem DagOf.kd {gd : Nat} {room : ByteArray} (h : Kv C w wr vs ts) (hi : vs[i]? = some v) (hd : DagOf C wr w' v gd room) : Kd C w w' vs ts gd room (ofL v.V room) := by
  rcases hd with ⟨d, hd, rfl, rfl, rfl⟩ | ⟨hn, hc, hb, ho⟩
  · exact ⟨h, .inl ⟨i, v, d, hi, hd, rfl, rfl, ((h.cv hi).of_ hd).symm⟩⟩
  · rw [(h.cv hi).noRoom hn]
    refine ⟨h.later hb, .inr ⟨hc, fun k hk => ⟨Nat.le_trans h.below.size (ho k hk), fun j u hu hh => ?_, fun t ht hp => ?_⟩⟩⟩
    · have := (h.cv hu).old (((h.cv hu).keep hb.size (fun k hk => hb.block k ((h.cv hu).old hk))).2 k hh)
      have := ho k hk
      omega
    · have := t.lt wr k (h.is ht) hp
      have := ho k hk
      omega

set_option maxHeartbeats 800000 in
theorem dagOf_any (h : Kv C w wr vs ts) (hi : vs[i]? = some v) (room : ByteArray) (hr : room.size ≤ 40) : Calls Tryz.prog 52 #[.pointer (some ⟨v.g, 0, none⟩), .string room] wr fun e w' => ∃ gd, e = .returned (.pointer (some ⟨gd, 0, none⟩)) ∧ DagOf C wr w' v gd room := by
  have hcv := h.cv hi
  have c1 : wr.cell? ⟨v.g, 0, none⟩ = some (.map (some v.mb)) := cell_at hcv.hd 0
  rcases hcv.look room (Nat.le_trans hr (by decide)) with ⟨hno, hlk⟩ | ⟨d, hd, he, hlk⟩
  · have HNO := Lib.hid hno
    have HNW := Lib.hid (C.new40 wr room hr)
    clear hno h hi hcv hr
    go_enter Tryz.func52, Tryz.ntmps52
    go_wp2_with fail
    go_at_call 82
    refine HNW.out.mono ?_
    rintro e w1 ⟨gd, rfl, hc, hb, hf⟩
    have HF := Lib.hid hf
    have HB := Lib.hid hb
    have HC := Lib.hid hc
    clear hf hb hc c1 hlk
    go_wp2_with fail
    go_ret
    exact ⟨gd, rfl, .inr ⟨HNO.out, HC.out, HB.out, HF.out⟩⟩
  · have HD := Lib.hid hd
    have HE := Lib.hid he
    clear hd he h hi hcv hr
    go_enter Tryz.func52, Tryz.ntmps52
    go_wp2_with fail
    go_ret
    exact ⟨d.g, rfl, .inl ⟨d, HD.out, rfl, HE.out, rfl⟩⟩
end
end Go.Proofs.YtjiecjpepiknmaaGreat

namespace Go.Proofs.YtjiecjpepiknmaaGreat
set_option maxRecDepth 20000
open Go.RowKit Go.Maps Go.ChangeMaps
set_option linter.unusedVariables false
set_option linter.unusedSimpArgs false
section
variable {C : Dags} {w wr w' : World} {vs : List VI} {ts : List Th} {v : VI} {i : Nat}
theorem CVs.gm (h : CVs C w v) : v.g ≠ v.mb := fun e => by
  obtain ⟨xs, clock, hb, _⟩ := h.map
  rw [← e, h.hd] at hb
  cases hb
/-- A dag has turned, and is laid under its room. -/
theorem CVs.next {w1 w3 w4 : World} {gd : Nat} {room : ByteArray} {l' : List Ev} (h : CVs C w1 v)
    (hgd : (∃ d ∈ v.ds, d.g = gd ∧ d.room = room) ∨ ((¬ ∃ d ∈ v.ds, d.room = room) ∧ ∀ k, C.own w1 gd k → ¬ v.own C w1 k))
    (hc : C.CD w3 gd room l') (ht : TurnD C.own w1 w3 gd) (ho : OwnN w4 v.mb (v.ds.length + 1) (v.D.put (kl room) (.held (.pointer (some ⟨gd, 0, none⟩)))))
    (hg : w3.grownBy w4 (some v.mb)) (hok : VOk 100 (putK Prod.fst (room, l') v.V)) :
    CVs C w4 ⟨v.g, v.mb, putK DgI.room ⟨room, gd, l'⟩ v.ds, v.D.put (kl room) (.held (.pointer (some ⟨gd, 0, none⟩)))⟩ ∧ (∀ k, VI.own C ⟨v.g, v.mb, putK DgI.room ⟨room, gd, l'⟩ v.ds, v.D.put (kl room) (.held (.pointer (some ⟨gd, 0, none⟩)))⟩ w4 k → v.own C w1 k ∨ C.own w1 gd k ∨ w1.heap.size ≤ k) ∧ ∀ k, k < w1.heap.size → ¬ v.own C w1 k → ¬ C.own w1 gd k → w4.heap[k]? = w1.heap[k]? := by
  have hgl := smem_lt h.hd
  have hml := h.map.lt
  have hgm := h.gm
  have hnot : ∀ k, C.own w1 gd k → k ≠ v.g ∧ k ≠ v.mb := fun k hk => by
    rcases hgd with ⟨d, hd, rfl, -⟩ | ⟨-, hn⟩
    · exact (h.dag d hd).2 k hk
    · exact ⟨fun e => hn k hk (.inl e), fun e => hn k hk (.inr (.inl e))⟩
  have hoff : ∀ d ∈ v.ds, d.room ≠ room → ∀ k, C.own w1 d.g k → ¬ C.own w1 gd k := fun d hd hr k h1 h2 => by
    rcases hgd with ⟨d0, hd0, rfl, rfl⟩ | ⟨-, hn⟩
    · exact h.apart d hd d0 hd0 hr k h1 h2
    · exact hn k h2 (.inr (.inr ⟨d, hd, h1⟩))
  have h3 : ∀ d ∈ v.ds, d.room ≠ room → C.CD w3 d.g d.room d.l ∧ ∀ k, C.own w3 d.g k → C.own w1 d.g k := fun d hd hr => C.keep (h.dag d hd).1 ht.size (fun k hk => ht.block k (C.old (h.dag d hd).1 hk) (hoff d hd hr k hk))
  have own3 : ∀ k, C.own w3 gd k → k ≠ v.g ∧ k ≠ v.mb := fun k hk => by
    rcases ht.owns k hk with hh | hh
    · exact hnot k hh
    · exact ⟨by omega, by omega⟩
  have h4 : ∀ d ∈ v.ds, d.room ≠ room → C.CD w4 d.g d.room d.l ∧ ∀ k, C.own w4 d.g k → C.own w1 d.g k := fun d hd hr => by
    obtain ⟨a, b⟩ := h3 d hd hr
    obtain ⟨a', b'⟩ := C.keep a hg.size (fun k hk => hg.block k (C.old a hk) (fun e => ((h.dag d hd).2 k (b k hk)).2 (by injection e)))
    exact ⟨a', fun k hk => b k (b' k hk)⟩
  obtain ⟨hn, on⟩ := C.keep hc hg.size (fun k hk => hg.block k (C.old hc hk) (fun e => (own3 k hk).2 (by injection e)))
  have hmem : ∀ d, d ∈ putK DgI.room ⟨room, gd, l'⟩ v.ds → d = ⟨room, gd, l'⟩ ∨ (d ∈ v.ds ∧ d.room ≠ room) := fun d hd => (putK_mem h.up).1 hd
  have hV : (putK DgI.room ⟨room, gd, l'⟩ v.ds).map DgI.rl = putK Prod.fst (room, l') v.V := putK_map (key := DgI.room) Prod.fst DgI.rl (fun _ => rfl) _ _
  have his : VdM (v.D.put (kl room) (.held (.pointer (some ⟨gd, 0, none⟩)))) (putK DgI.room ⟨room, gd, l'⟩ v.ds) := h.is.put h.up ⟨room, gd, l'⟩
  have hmap := ho.tight
  rw [his.size] at hmap
  refine ⟨⟨(hg.block v.g (Nat.lt_of_lt_of_le hgl ht.size) (fun e => hgm (by injection e))).trans ((ht.block v.g hgl (fun o => (hnot _ o).1 rfl)).trans h.hd), hmap, his, fun d hd => ?_, fun d hd d' hd' hr k k1 k2 => ?_, by unfold VI.V; rw [hV]; exact hok⟩, fun k hk => ?_, fun k hk hno hno2 => ?_⟩
  · rcases hmem d hd with rfl | ⟨hd, hr⟩
    · exact ⟨hn, fun k hk => own3 k (on k hk)⟩
    · exact ⟨(h4 d hd hr).1, fun k hk => (h.dag d hd).2 k ((h4 d hd hr).2 k hk)⟩
  · rcases hmem d hd with rfl | ⟨hd, hr1⟩
    · rcases hmem d' hd' with rfl | ⟨hd', hr2⟩
      · exact hr rfl
      · have e2 := (h4 d' hd' hr2).2 k k2
        rcases ht.owns k (on k k1) with hh | hh
        · exact hoff d' hd' hr2 k e2 hh
        · have := C.old (h.dag d' hd').1 e2; omega
    · have e1 := (h4 d hd hr1).2 k k1
      rcases hmem d' hd' with rfl | ⟨hd', hr2⟩
      · rcases ht.owns k (on k k2) with hh | hh
        · exact hoff d hd hr1 k e1 hh
        · have := C.old (h.dag d hd).1 e1; omega
      · exact h.apart d hd d' hd' hr k e1 ((h4 d' hd' hr2).2 k k2)
  · rcases hk with e | e | ⟨d, hd, hk⟩
    · exact .inl (.inl e)
    · exact .inl (.inr (.inl e))
    · rcases hmem d hd with rfl | ⟨hd, hr⟩
      · rcases ht.owns k (on k hk) with hh | hh
        · exact .inr (.inl hh)
        · exact .inr (.inr hh)
      · exact .inl (.inr (.inr ⟨d, hd, (h4 d hd hr).2 k hk⟩))
  · exact (hg.block k (Nat.lt_of_lt_of_le hk ht.size) (fun e => hno (.inr (.inl (by injection e))))).trans (ht.block k hk hno2)
theorem errV_le {n : Nat} {V : Vw} {e : Ev} (h : VOk n V) (he : errV V e = 0) : VOk (n + 1) (putK Prod.fst (e.room, addA e.room (ofL V e.room) e) V) := by
  have := addV_ok (e := e) h
  unfold addV at this
  rw [if_pos he] at this
  exact this
/-- What Add tells of its view. -/
theorem Kv.added {w1 w3 w4 : World} {gd : Nat} {e : Ev} (h : Kv C w wr vs ts) (hi : vs[i]? = some v) (hd : DagOf C wr w1 v gd e.room) (hn : VOk 99 v.V) (he : errV v.V e = 0)
    (hc : C.CD w3 gd e.room (addA e.room (ofL v.V e.room) e)) (ht : TurnD C.own w1 w3 gd) (ho : OwnN w4 v.mb (v.ds.length + 1) (v.D.put (kl e.room) (.held (.pointer (some ⟨gd, 0, none⟩)))))
    (hg : w3.grownBy w4 (some v.mb)) : ∃ v', v'.g = v.g ∧ v'.V = addV v.V e ∧ Kv C w w4 (vs.set i v') ts := by
  have hcv := h.cv hi
  have hb1 : Below wr.heap.size wr w1 ∧ (∀ k, C.own w1 gd k → v.own C wr k ∨ wr.heap.size ≤ k) := by
    rcases hd with ⟨d, hd, rfl, -, rfl⟩ | ⟨-, -, hb, ho⟩
    · exact ⟨Below.refl _ _, fun k hk => .inl (.inr (.inr ⟨d, hd, hk⟩))⟩
    · exact ⟨hb, fun k hk => .inr (ho k hk)⟩
  obtain ⟨hb1, hgo⟩ := hb1
  obtain ⟨hcv1, hown1⟩ := hcv.keep hb1.size (fun k hk => hb1.block k (hcv.old hk))
  have hgd : (∃ d ∈ v.ds, d.g = gd ∧ d.room = e.room) ∨ ((¬ ∃ d ∈ v.ds, d.room = e.room) ∧ ∀ k, C.own w1 gd k → ¬ v.own C w1 k) := by
    rcases hd with ⟨d, hd, h1, h2, -⟩ | ⟨hno, -, hb, ho⟩
    · exact .inl ⟨d, hd, h1, h2⟩
    · refine .inr ⟨hno, fun k hk hh => ?_⟩
      have := hcv.old (hown1 k hh)
      have := ho k hk
      omega
  obtain ⟨h1, h2, h3⟩ := hcv1.next hgd hc ht ho hg (errV_le hn he)
  refine ⟨⟨v.g, v.mb, putK DgI.room ⟨e.room, gd, addA e.room (ofL v.V e.room) e⟩ v.ds, v.D.put (kl e.room) (.held (.pointer (some ⟨gd, 0, none⟩)))⟩, rfl, ?_, h.turn hi h1 ⟨hg.os.trans (ht.os.trans hb1.os), hg.tape.trans (ht.tape.trans hb1.tape), hg.output.trans (ht.output.trans hb1.output), Nat.le_trans hb1.size (Nat.le_trans ht.size hg.size), fun k hk hno => ?_⟩ (fun k hk => ?_)⟩
  · unfold addV
    rw [if_pos he]
    unfold VI.V
    exact putK_map (key := DgI.room) Prod.fst DgI.rl (fun _ => rfl) _ _
  · refine (h3 k (Nat.lt_of_lt_of_le hk hb1.size) (fun hh => hno (hown1 k hh)) (fun hh => ?_)).trans (hb1.block k hk)
    rcases hgo k hh with hh | hh
    · exact hno hh
    · omega
  · rcases h2 k hk with hh | hh | hh
    · exact .inl (hown1 k hh)
    · exact hgo k hh
    · exact .inr (Nat.le_trans hb1.size hh)

set_option maxHeartbeats 1600000 in
theorem viewAdd_any (CR : DagRms C) (h : Kv C w wr vs ts) (hi : vs[i]? = some v) (hn : VOk 99 v.V) (x : EvV) (hx : Th.ev x ∈ ts) (hr : x.ev.room.size ≤ 40) : Calls Tryz.prog 13 #[.pointer (some ⟨v.g, 0, none⟩), x.val] wr fun e w' => ∃ v', e = .returned (.int .i64 (errV v.V x.ev)) ∧ v'.g = v.g ∧ v'.V = addV v.V x.ev ∧ Kv C w w' (vs.set i v') ts := by
  have HK0 := Lib.hid h
  have HK := Lib.hid (show Kv C w (wr.alloc (.cells #[.string x.ev.id, .string x.ev.room, .slice x.A x.ev.parents.length x.cap, .string x.ev.thread, .string x.ev.user, .int .i64 x.ev.does] 33)) vs (Th.box wr.heap.size (.cells #[.string x.ev.id, .string x.ev.room, .slice x.A x.ev.parents.length x.cap, .string x.ev.thread, .string x.ev.user, .int .i64 x.ev.does] 33 (0, 0)) :: ts) from h.add (below_new wr _) (heap_alloc_new wr _) (fun k hk => .inl (Nat.le_of_eq hk.symm)))
  have HX := Lib.hid hx
  have HR := Lib.hid hr
  have HN := Lib.hid hn
  have HI := Lib.hid hi
  clear h hx hr hn
  unfold EvV.val EvV.pv
  go_enter Tryz.func13, Tryz.ntmps13
  go_upto_region 1 with (fail)
  generalize wr.alloc _ = w0 at HK ⊢
  generalize hB : wr.heap.size = B at HK ⊢
  have HB0 := Lib.hid (HK.out.is List.mem_cons_self)
  have c1 : w0.cell? ⟨B, 1, none⟩ = some (.string x.ev.room) := cell_at HB0.out 1
  have HQ := Lib.hid (dagOf_any HK.out hi x.ev.room HR.out)
  go_wp2_with fail
  go_at_call 52
  refine HQ.out.mono ?_
  rintro e w1 ⟨gd, rfl, hd⟩
  have HD := Lib.hid hd
  have HKD := Lib.hid (hd.kd HK.out hi)
  clear hd HQ c1 HB0
  have HB1 := Lib.hid (HKD.out.kv.is List.mem_cons_self)
  have HXA := Lib.hid (HKD.out.kv.is (List.mem_cons_of_mem _ HX.out))
  have r0 : w1.cell? ⟨B, 0, none⟩ = some (.string x.ev.id) := cell_at HB1.out 0
  have r1 : w1.cell? ⟨B, 1, none⟩ = some (.string x.ev.room) := cell_at HB1.out 1
  have r2 : w1.cell? ⟨B, 2, none⟩ = some (.slice x.A x.ev.parents.length x.cap) := cell_at HB1.out 2
  have r3 : w1.cell? ⟨B, 3, none⟩ = some (.string x.ev.thread) := cell_at HB1.out 3
  have r4 : w1.cell? ⟨B, 4, none⟩ = some (.string x.ev.user) := cell_at HB1.out 4
  have r5 : w1.cell? ⟨B, 5, none⟩ = some (.int .i64 x.ev.does) := cell_at HB1.out 5
  have hl99 : Hid ((ofL v.V x.ev.room).length ≤ 99) := Lib.hid (HN.out.of_ _).2
  have HA := Lib.hid (C.add x HKD.out.code (Nat.le_trans hl99.out (by decide)) HXA.out)
  unfold EvV.val EvV.pv at HA
  go_wp2_with fail
  go_at_call 53
  refine HA.out.mono ?_
  rintro e w2 ⟨rfl, hc2, ht2⟩
  have HC2 := Lib.hid hc2
  have HT2 := Lib.hid ht2
  clear hc2 ht2 HA r0 r1 r2 r3 r4 r5 HB1 HXA
  have HER : Hid (errA x.ev.room (ofL v.V x.ev.room) x.ev = errV v.V x.ev) := Lib.hid rfl
  rw [HER.out]
  by_cases he : errV v.V x.ev = 0
  · have q1 : (errV v.V x.ev == 0) = true := by rw [beq_iff_eq]; exact he
    have HE := Lib.hid he
    have hl100 : Hid ((addA x.ev.room (ofL v.V x.ev.room) x.ev).length ≤ 100) := Lib.hid (by have := addA_len x.ev.room (ofL v.V x.ev.room) x.ev; have := hl99.out; omega)
    clear he
    go_upto_region 4 with (fail)
    have HV : Hid (∀ W, C.CD W gd x.ev.room (addA x.ev.room (ofL v.V x.ev.room) x.ev) → TurnD C.own w1 W gd → W.cell? ⟨v.g, 0, none⟩ = some (.map (some v.mb)) ∧ OwnN W v.mb v.ds.length v.D) := Lib.hid (fun W hc ht => by
      have hcv := HKD.out.kv.cv HI.out
      have hno : ¬ C.own w1 gd v.g ∧ ¬ C.own w1 gd v.mb := by
        rcases HD.out with ⟨d, hd, rfl, -, rfl⟩ | ⟨-, -, hb, ho⟩
        · exact ⟨fun e => ((hcv.dag d hd).2 _ e).1 rfl, fun e => ((hcv.dag d hd).2 _ e).2 rfl⟩
        · have h0 := HK.out.cv HI.out
          exact ⟨fun e => by have := h0.old (.inl rfl); have := ho _ e; omega, fun e => by have := h0.old (.inr (.inl rfl)); have := ho _ e; omega⟩
      exact ⟨cell_at ((ht.block _ (smem_lt hcv.hd) hno.1).trans hcv.hd) 0, hcv.map.keep (ht.block _ hcv.map.lt hno.2)⟩)
    have HRM := Lib.hid (fun W (hc : C.CD W gd x.ev.room (addA x.ev.room (ofL v.V x.ev.room) x.ev)) => CR.room hc hl100.out)
    have HD2 : Hid (C.CD w2.drew gd x.ev.room (addA x.ev.room (ofL v.V x.ev.room) x.ev) ∧ TurnD C.own w1 w2.drew gd) := Lib.hid ⟨(Dags.later HC2.out (below_drew w2)).1, HT2.out.trans (Dags.later HC2.out (below_drew w2)).2⟩
    refine wp_region_held_drew (S := fun W => W.cell? ⟨v.g, 0, none⟩ = some (.map (some v.mb))) (by kernel_rfl) (HV.out _ HD2.out.1 HD2.out.2).1 (fun hHeld => ?_)
    generalize w2.drew = wd at hHeld HD2 ⊢
    refine wpAnyH_take (i := 0) (oi := ⟨some 16, _, _, _, _, _⟩) (v := ?vq0) rfl (by kernel_rfl) (by kernel_rfl) (by kernel_rfl) (fun _ _ _ h => h) (Or.inl ⟨by rfl, ?yq0⟩) hHeld ?rq0
    case yq0 =>
      intro wx hSx
      go_simp
      try with_reducible rfl
    try simp only [Act.put, List.setIfInBounds_toArray, List.set_cons_zero, List.set_cons_succ]
    refine wpAnyH_take (i := 1) (oi := ⟨some 17, _, _, _, _, _⟩) (v := ?vq1) rfl (by kernel_rfl) (by kernel_rfl) (by kernel_rfl) (fun _ _ _ h => h) (Or.inl ⟨by rfl, ?yq1⟩) hHeld ?rq1
    case yq1 =>
      intro wx hSx
      go_simp
      try with_reducible rfl
    try simp only [Act.put, List.setIfInBounds_toArray, List.set_cons_zero, List.set_cons_succ]
    refine wpAnyH_take (i := 2) (oi := ⟨some 18, _, _, _, _, _⟩) (v := ?vq2) rfl (by kernel_rfl) (by kernel_rfl) (by kernel_rfl) (fun _ _ _ h => h) (Or.inl ⟨by rfl, ?yq2⟩) hHeld ?rq2
    case yq2 =>
      intro wx hSx
      go_simp
      try with_reducible rfl
    try simp only [Act.put, List.setIfInBounds_toArray, List.set_cons_zero, List.set_cons_succ]
    refine wpAnyH_take (i := 3) (oi := ⟨some 19, _, _, _, _, _⟩) (v := ?vq3) rfl (by kernel_rfl) (by kernel_rfl) (by kernel_rfl) (fun _ _ _ h => h) (Or.inl ⟨by rfl, ?yq3⟩) hHeld ?rq3
    case yq3 =>
      intro wx hSx
      have z : wx.cell? ⟨v.g, 0, none⟩ = some (.map (some v.mb)) := hSx
      go_simp
      try with_reducible rfl
    try simp only [Act.put, List.setIfInBounds_toArray, List.set_cons_zero, List.set_cons_succ]
    refine wpAnyH_take (i := 4) (oi := ⟨some 20, _, _, _, _, _⟩) (v := ?vq4) rfl (by kernel_rfl) (by kernel_rfl) (by kernel_rfl) (fun _ _ _ h => h) (Or.inl ⟨by rfl, ?yq4⟩) hHeld ?rq4
    case yq4 =>
      intro wx hSx
      go_simp
      try with_reducible rfl
    try simp only [Act.put, List.setIfInBounds_toArray, List.set_cons_zero, List.set_cons_succ]
    refine wpAnyH_take (i := 6) (oi := ⟨some 22, _, _, _, _, _⟩) (v := ?vq6) rfl (by kernel_rfl) (by kernel_rfl) (by kernel_rfl) (fun _ _ _ h => h) (Or.inl ⟨by rfl, ?yq6⟩) hHeld ?rq6
    case yq6 =>
      intro wx hSx
      go_simp
      try with_reducible rfl
    try simp only [Act.put, List.setIfInBounds_toArray, List.set_cons_zero, List.set_cons_succ]
    refine wpAnyH_ready (rs := [5]) (by kernel_rfl) (by simp) ?_
    refine AllReadyH.cons (o := ⟨some 21, _, _, _, _, _⟩) rfl (fun K hK => ?_) AllReadyH.nil
    go_simp
    refine (HRM.out _ HD2.out.1).mono ?_
    rintro e wn ⟨rfl, hcn, htn⟩
    replace HD2 := Lib.hid (show C.CD wn gd x.ev.room (addA x.ev.room (ofL v.V x.ev.room) x.ev) ∧ TurnD C.own w1 wn gd from ⟨hcn, HD2.out.2.trans htn⟩)
    refine hK.out _ _ (HV.out _ HD2.out.1 HD2.out.2).1 (fun hHeld => ?_)
    clear hK K hcn htn
    try simp only [Act.put, List.setIfInBounds_toArray, List.set_cons_zero, List.set_cons_succ]
    refine wpAnyH_ready (rs := [7]) (by kernel_rfl) (by simp) ?_
    refine AllReadyH.cons (o := ⟨none, _, _, _, _, _⟩) rfl (fun K hK => ?_) AllReadyH.nil
    obtain ⟨w9, hru, ho9, hg9⟩ := World.ownsMap.update (HV.out _ HD2.out.1 HD2.out.2).2 keyed Tryz.underlying78 (by have := (HKD.out.kv.cv HI.out).len; unfold maxLen; omega) (key := .string x.ev.room) (val := .pointer (some ⟨gd, 0, none⟩)) (d := .held (.pointer (some ⟨gd, 0, none⟩))) (ps := []) (keyIs (Nat.le_trans HR.out (by decide))) rfl
    have HG9 := Lib.hid hg9
    have HO9 := Lib.hid ho9
    have hc9 : w9.cell? ⟨v.g, 0, none⟩ = some (.map (some v.mb)) := by
      have hcv := HK.out.cv HI.out
      have h1 := hHeld
      rw [World.cell?] at h1 ⊢
      rw [hg9.block v.g (by have h2 := hcv.old (.inl rfl); have h3 := HD2.out.2.size; have h4 : w0.heap.size ≤ w1.heap.size := by { rcases HD.out with ⟨d, -, -, -, rfl⟩ | ⟨-, -, hb, -⟩; exact Nat.le_refl _; exact hb.size }; omega) (fun e => hcv.gm (by injection e))]
      exact h1
    clear ho9 hg9
    go_simp
    refine hK.out _ _ hc9 (fun hHeld => ?_)
    clear hK K
    try simp only [Act.put, List.setIfInBounds_toArray, List.set_cons_zero, List.set_cons_succ]
    refine wpAnyH_done (by kernel_rfl) ?_ _
    go_wp2_with fail
    go_ret
    obtain ⟨v', g1, g2, g3⟩ := Kv.added HK.out HI.out HD.out HN.out HE.out HD2.out.1 HD2.out.2 HO9.out HG9.out
    exact ⟨v', by rw [HE.out]; rfl, g1, g2, g3.less (fun t ht => List.mem_cons_of_mem _ ht)⟩
  · have q1 : (errV v.V x.ev == 0) = false := by rw [beq_eq_false_iff_ne]; exact he
    have HE := Lib.hid he
    have hadd : Hid (addA x.ev.room (ofL v.V x.ev.room) x.ev = ofL v.V x.ev.room) := Lib.hid (by unfold addA; rw [HER.out, if_neg he])
    have hadv : Hid (addV v.V x.ev = v.V) := Lib.hid (by unfold addV; rw [if_neg he])
    clear he
    go_wp2_with fail
    go_ret
    refine ⟨v, rfl, rfl, hadv.out.symm, ?_⟩
    rw [set_same HI.out]
    have hc2 := HC2.out
    rw [hadd.out] at hc2
    exact ((HKD.out.step hc2 HT2.out).1.kv).less (fun t ht => List.mem_cons_of_mem _ ht)
end
end Go.Proofs.YtjiecjpepiknmaaGreat

namespace Go.Proofs.YtjiecjpepiknmaaGreat
set_option maxRecDepth 20000
open Go.RowKit Go.Maps Go.ChangeMaps
set_option linter.unusedVariables false
set_option linter.unusedSimpArgs false
def mainS : ByteArray := ⟨#[109, 97, 105, 110]⟩
theorem event_main {s : ByteArray} (h : eventB s = true) : s ≠ mainS ∧ s ≠ ⟨#[]⟩ := by
  constructor
  · rintro rfl
    revert h
    decide +kernel
  · rintro rfl
    revert h
    decide +kernel
/-- The code's: is an event of a thread? -/
def isOfB (e : Ev) (t : ByteArray) : Bool := if t = ⟨#[]⟩ then true else if t = mainS then decide (e.thread = ⟨#[]⟩) else decide (t = e.id) || decide (t = e.thread)
theorem isOfB_is {e : Ev} (hm : mayE e = true) (t : ByteArray) : isOfB e t = true ↔ (t = ⟨#[]⟩ ∨ t = e.id ∨ (t = mainS ∧ e.thread = ⟨#[]⟩) ∨ (e.thread ≠ ⟨#[]⟩ ∧ t = e.thread)) := by
  have hid : e.id ≠ mainS := by
    unfold mayE headB at hm
    simp only [Bool.and_eq_true] at hm
    exact (event_main hm.1.1.1.1.1.1.1).1
  have hth : e.thread ≠ mainS := by
    unfold mayE thrB at hm
    simp only [Bool.and_eq_true, Bool.or_eq_true, decide_eq_true_eq] at hm
    rcases hm.1.2 with h | h
    · rw [h]; decide
    · exact (event_main h.1.1).1
  unfold isOfB
  by_cases h1 : t = ⟨#[]⟩
  · simp [h1]
  · rw [if_neg h1]
    by_cases h2 : t = mainS
    · rw [if_pos h2, decide_eq_true_eq]
      constructor
      · intro h; exact .inr (.inr (.inl ⟨h2, h⟩))
      · rintro (h | h | h | h)
        · exact absurd h h1
        · exact absurd (h ▸ h2) hid
        · exact h.2
        · exact absurd (h.2 ▸ h2) hth
    · rw [if_neg h2, Bool.or_eq_true, decide_eq_true_eq, decide_eq_true_eq]
      constructor
      · rintro (h | h)
        · exact .inr (.inl h)
        · exact .inr (.inr (.inr ⟨fun e => h1 (h.trans e), h⟩))
      · rintro (h | h | h | h)
        · exact absurd h h1
        · exact .inl h
        · exact absurd h.1 h2
        · exact .inr h.2
theorem fitsL_no {l : List Ev} {id t : ByteArray} (h : hasE l id = false) : fitsL l id t = 4 := by
  unfold hasE at h
  unfold fitsL
  cases hi : idx l id with
  | none => rfl
  | some k => rw [hi] at h; cases h
theorem fitsL_at {l : List Ev} {id t : ByteArray} {k : Nat} {e : Ev} (hk : idx l id = some k) (he : l[k]? = some e) : fitsL l id t = if t = ⟨#[]⟩ ∨ t = id ∨ (t = mainS ∧ e.thread = ⟨#[]⟩) ∨ (e.thread ≠ ⟨#[]⟩ ∧ t = e.thread) then 0 else 7 := by
  unfold fitsL
  rw [hk]
  simp only
  rw [he]
  rfl
theorem fitsL_is {room : ByteArray} {l : List Ev} {y : Ev} (hv : Valid room l) (hy : y ∈ l) (t : ByteArray) : fitsL l y.id t = bif isOfB y t then 0 else 7 := by
  cases hi : idx l y.id with
  | none =>
    have : hasE l y.id = true := has_iff.2 ⟨y, hy, rfl⟩
    unfold hasE at this
    rw [hi] at this
    cases this
  | some k =>
    obtain ⟨x, hx, hxi, _⟩ := idx_some hi
    have e1 : x = y := valid_ids hv (List.mem_of_getElem? hx) hy hxi
    subst e1
    rw [fitsL_at hi hx]
    have hm := (err_zero (hv k x hx)).1
    cases hb : isOfB x t
    · rw [if_neg (fun h => by have := (isOfB_is hm t).2 h; rw [hb] at this; cases this)]
      rfl
    · rw [if_pos ((isOfB_is hm t).1 hb)]
      rfl
section
variable {C : Dags} {w wr w' : World} {vs : List VI} {ts : List Th} {v : VI} {i : Nat}

set_option maxHeartbeats 800000 in
theorem isOf_any (y : EvV) (t : ByteArray) (w : World) : Calls Tryz.prog 94 #[y.val, .string t] w fun e w' => e = .returned (.bool (isOfB y.ev t)) ∧ Below w.heap.size w w' := by
  have HB := Lib.hid (below_new w (.cells #[.string y.ev.id, .string y.ev.room, .slice y.A y.ev.parents.length y.cap, .string y.ev.thread, .string y.ev.user, .int .i64 y.ev.does] 33))
  have HW := Lib.hid (heap_alloc_new w (.cells #[.string y.ev.id, .string y.ev.room, .slice y.A y.ev.parents.length y.cap, .string y.ev.thread, .string y.ev.user, .int .i64 y.ev.does] 33))
  unfold EvV.val EvV.pv
  go_enter Tryz.func94, Tryz.ntmps94
  go_upto_region 1 with (fail)
  generalize w.alloc _ = w0 at HB HW ⊢
  generalize hBB : w.heap.size = B at HW ⊢
  have c0 : w0.cell? ⟨B, 0, none⟩ = some (.string y.ev.id) := cell_at HW.out 0
  have c3 : w0.cell? ⟨B, 3, none⟩ = some (.string y.ev.thread) := cell_at HW.out 3
  by_cases h1 : t = ⟨#[]⟩
  · have HR : Hid (isOfB y.ev t = true) := Lib.hid (by unfold isOfB; rw [if_pos h1])
    have q1 : t.toList.isEmpty = true := by rw [h1, ByteArray.toList_eq]; rfl
    clear h1
    go_wp2_with fail
    go_ret
    exact ⟨by rw [HR.out]; rfl, HB.out⟩
  · have q1 : t.toList.isEmpty = false := by
      rw [Bool.eq_false_iff]
      intro h9
      exact h1 (key_ext (by rw [List.isEmpty_iff.1 h9, ByteArray.toList_eq]))
    by_cases h2 : t = mainS
    · have HR : Hid (isOfB y.ev t = decide (y.ev.thread = ⟨#[]⟩)) := Lib.hid (by unfold isOfB; rw [if_neg h1, if_pos h2])
      have q2 : (t.toList == [109, 97, 105, 110]) = true := by rw [h2, ByteArray.toList_eq]; rfl
      clear h1 h2
      have q3 : (y.ev.thread.toList.isEmpty) = decide (y.ev.thread = ⟨#[]⟩) := by
        rw [Bool.eq_iff_iff, decide_eq_true_eq, List.isEmpty_iff]
        exact ⟨fun h => key_ext (by rw [h, ByteArray.toList_eq]), fun h => by rw [h, ByteArray.toList_eq]⟩
      go_wp2_with fail
      go_ret
      exact ⟨by rw [HR.out]; simp [q3], HB.out⟩
    · have HR : Hid (isOfB y.ev t = (decide (t = y.ev.id) || decide (t = y.ev.thread))) := Lib.hid (by unfold isOfB; rw [if_neg h1, if_neg h2])
      have q2 : (t.toList == [109, 97, 105, 110]) = false := by
        rw [beq_eq_false_iff_ne]
        intro h9
        exact h2 (key_ext (by rw [h9, ByteArray.toList_eq]; rfl))
      have q3 := keyB t y.ev.id
      have q4 := keyB t y.ev.thread
      generalize decide (t = y.ev.id) = b3 at q3 HR
      generalize decide (t = y.ev.thread) = b4 at q4 HR
      clear h1 h2
      cases b3
      · go_wp2_with fail
        go_ret
        exact ⟨by rw [HR.out]; rfl, HB.out⟩
      · go_wp2_with fail
        go_ret
        exact ⟨by rw [HR.out]; rfl, HB.out⟩

set_option maxHeartbeats 1600000 in
theorem viewFits_any (h : Kv C w wr vs ts) (hi : vs[i]? = some v) (room id t : ByteArray) (hr : room.size ≤ 40) (hu : id.size ≤ maxLen) : Calls Tryz.prog 61 #[.pointer (some ⟨v.g, 0, none⟩), .string room, .string id, .string t] wr fun e w' => e = .returned (.int .i64 (fitsL (ofL v.V room) id t)) ∧ Kv C w w' vs ts := by
  have hl : (ofL v.V room).length ≤ 100 := ((h.cv hi).ok.of_ room).2
  have HVL : Hid (Valid room (ofL v.V room)) := Lib.hid ((h.cv hi).ok.of_ room).1
  have HQ := Lib.hid (dagOf_any h hi room hr)
  have HK := Lib.hid h
  have HI := Lib.hid hi
  clear h hi
  go_enter Tryz.func61, Tryz.ntmps61
  go_wp2_with fail
  go_at_call 52
  refine HQ.out.mono ?_
  rintro e w1 ⟨gd, rfl, hd⟩
  have HKD := Lib.hid (hd.kd HK.out HI.out)
  have HC := Lib.hid (C.event id HKD.out.code hl hu)
  clear hd HQ
  go_wp2_with fail
  go_at_call 93
  refine HC.out.mono ?_
  rintro e w2 ⟨y, rfl, hya, hym, hyt, hyh, hc, ht⟩
  have HT := Lib.hid (HKD.out.step hc ht).1.kv
  have HH := Lib.hid hyh
  clear hya hym hyt hc ht HC HKD hyh
  have HKB := Lib.hid (HT.out.later (below_new w2 (.cells #[.string y.ev.id, .string y.ev.room, .slice y.A y.ev.parents.length y.cap, .string y.ev.thread, .string y.ev.user, .int .i64 y.ev.does] 33)))
  have HBX := Lib.hid (heap_alloc_new w2 (.cells #[.string y.ev.id, .string y.ev.room, .slice y.A y.ev.parents.length y.cap, .string y.ev.thread, .string y.ev.user, .int .i64 y.ev.does] 33))
  unfold EvV.val EvV.pv
  cases hh : hasE (ofL v.V room) id
  · have HF : Hid (fitsL (ofL v.V room) id t = 4) := Lib.hid (fitsL_no hh)
    clear hh
    go_wp2_with fail
    go_ret
    exact ⟨by rw [HF.out]; rfl, HKB.out⟩
  · have HF : Hid (fitsL (ofL v.V room) id t = bif isOfB y.ev t then 0 else 7) := Lib.hid (by
      obtain ⟨h1, h2⟩ := HH.out hh
      rw [← h2]
      exact fitsL_is HVL.out h1 t)
    have HIO := Lib.hid (fun W => isOf_any y t W)
    unfold EvV.val EvV.pv at HIO
    clear hh HH
    go_upto_region 4 with (fail)
    generalize w2.alloc _ = w3 at HKB HBX ⊢
    generalize w2.heap.size = B at HBX ⊢
    have r0 : w3.cell? ⟨B, 0, none⟩ = some (.string y.ev.id) := cell_at HBX.out 0
    have r1 : w3.cell? ⟨B, 1, none⟩ = some (.string y.ev.room) := cell_at HBX.out 1
    have r2 : w3.cell? ⟨B, 2, none⟩ = some (.slice y.A y.ev.parents.length y.cap) := cell_at HBX.out 2
    have r3 : w3.cell? ⟨B, 3, none⟩ = some (.string y.ev.thread) := cell_at HBX.out 3
    have r4 : w3.cell? ⟨B, 4, none⟩ = some (.string y.ev.user) := cell_at HBX.out 4
    have r5 : w3.cell? ⟨B, 5, none⟩ = some (.int .i64 y.ev.does) := cell_at HBX.out 5
    generalize isOfB y.ev t = ib at HIO HF
    go_wp2_with fail
    go_at_call 94
    refine (HIO.out _).mono ?_
    rintro e w4 ⟨rfl, hb4⟩
    have HK4 := Lib.hid (HKB.out.later hb4)
    clear hb4 r0 r1 r2 r3 r4 r5
    cases ib
    · go_wp2_with fail
      go_ret
      exact ⟨by rw [HF.out]; rfl, HK4.out⟩
    · go_wp2_with fail
      go_ret
      exact ⟨by rw [HF.out]; rfl, HK4.out⟩
end
end Go.Proofs.YtjiecjpepiknmaaGreat
