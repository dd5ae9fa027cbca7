/-
  The document's Few, Odd; dags that are made; the same dag in whatever order.
-/
import Derived.Test.YtfbfdkibdjinaaaGreatDoorB6
namespace Go.Proofs.YtfbfdkibdjinaaaGreatDoor
set_option maxRecDepth 20000
open Go.RowKit
set_option linter.unusedVariables false
set_option linter.unusedSimpArgs false

def fewE (e : Ev) : Ev := ⟨fewS e.id 30, fewS e.room 30, (e.parents.take 6).map (fun p => fewS p 30), fewS e.thread 30, fewS e.user 30, e.does⟩
theorem fewE_ok {e : Ev} (h : e.ok) : (fewE e).ok := by
  have k : ∀ s : ByteArray, (fewS s 30).size ≤ maxLen := fun s => Nat.le_trans (fewS_size s 30) (by unfold maxLen; omega)
  refine ⟨k _, k _, k _, k _, fun p hp => ?_, h.2.2.2.2.2⟩
  obtain ⟨q, _, rfl⟩ := List.mem_map.1 hp
  exact k _
theorem few_succ {ps : List ByteArray} {p : ByteArray} {a : Nat} (h : ps[a]? = some p) : (ps.take (a + 1)).map (fun p => fewS p 30) = (ps.take a).map (fun p => fewS p 30) ++ [fewS p 30] := by
  rw [List.take_add_one, h, List.map_append]
  rfl
/-- Two blocks for events: one in hand, one for the answer. -/
structure BxS (w wr : World) (B1 B2 : Nat) (cs : Array Value) : Prop where
  ne : B1 ≠ B2
  lo1 : w.heap.size ≤ B1
  lo2 : w.heap.size ≤ B2
  box : wr.heap[B1]? = some (.cells cs 45 (0, 0))
  res : wr.heap[B2]? = some (.cells #[.string ⟨#[]⟩, .string ⟨#[]⟩, .slice none 0 0, .string ⟨#[]⟩, .string ⟨#[]⟩, .int .i64 0] 45 (0, 0))
  below : Below w.heap.size w wr
theorem BxS.on {w wr w2 : World} {B1 B2 : Nat} {cs : Array Value} (h : BxS w wr B1 B2 cs) (hb : Below wr.heap.size wr w2) : BxS w w2 B1 B2 cs :=
  ⟨h.ne, h.lo1, h.lo2, (hb.block B1 (smem_lt h.box)).trans h.box, (hb.block B2 (smem_lt h.res)).trans h.res, h.below.trans (hb.mono h.below.size)⟩
theorem BxS.set {w wr : World} {B1 B2 : Nat} {cs : Array Value} (h : BxS w wr B1 B2 cs) (i : Nat) (u : Value) : BxS w (wr.setCell ⟨B1, i, none⟩ u) B1 B2 (cs.setIfInBounds i u) :=
  ⟨h.ne, h.lo1, h.lo2, heap_set h.box i u, (Below.heap_setCell wr _ u B2 h.ne.symm).trans h.res, h.below.grown (sm_grown wr B1 i [u]) h.below.size (fun k hk => by injection hk with hk; have := h.lo1; omega)⟩
theorem BxS.start (w : World) (cs : Array Value) : BxS w ((w.alloc (.cells cs 45)).alloc (.cells #[.string ⟨#[]⟩, .string ⟨#[]⟩, .slice none 0 0, .string ⟨#[]⟩, .string ⟨#[]⟩, .int .i64 0] 45)) w.heap.size (w.heap.size + 1) cs := by
  have s1 : ∀ (u : World) (o : Obj), (u.alloc o).heap.size = u.heap.size + 1 := fun u o => by simp
  have h2 := heap_alloc_new w (.cells cs 45)
  have h3 := heap_alloc_new (w.alloc (.cells cs 45)) (.cells #[.string ⟨#[]⟩, .string ⟨#[]⟩, .slice none 0 0, .string ⟨#[]⟩, .string ⟨#[]⟩, .int .i64 0] 45)
  rw [s1] at h3
  refine ⟨by omega, Nat.le_refl _, by omega, ?_, h3, ((Gr.refl w).alloc _ |>.alloc _).below⟩
  rw [heap_alloc_old _ _ (by rw [s1]; omega)]
  exact h2
/-- The answer is laid. -/
theorem BxS.answer {w wr : World} {B1 B2 : Nat} {cs : Array Value} (h : BxS w wr B1 B2 cs) (a0 a1 a2 a3 a4 a5 : Value) : ∀ W, W = wr.setCells B2 0 [a0, a1, a2, a3, a4, a5] → W.cell? ⟨B2, 0, none⟩ = some a0 ∧ W.cell? ⟨B2, 1, none⟩ = some a1 ∧ W.cell? ⟨B2, 2, none⟩ = some a2 ∧ W.cell? ⟨B2, 3, none⟩ = some a3 ∧ W.cell? ⟨B2, 4, none⟩ = some a4 ∧ W.cell? ⟨B2, 5, none⟩ = some a5 ∧ Below w.heap.size w W ∧ wr.grownBy W (some B2) := by
  rintro W rfl
  obtain ⟨cur, z1, z2, z3⟩ := sm_at B2 45 [a0, a1, a2, a3, a4, a5] 0 wr _ h.res (Nat.le_refl 6)
  refine ⟨?_, ?_, ?_, ?_, ?_, ?_, h.below.grown (sm_grown wr B2 0 _) h.below.size (fun k hk => by injection hk with hk; have := h.lo2; omega), sm_grown wr B2 0 _⟩
  · rw [cell_at z1 0, ← Array.getElem?_toList, z3]; rfl
  · rw [cell_at z1 1, ← Array.getElem?_toList, z3]; rfl
  · rw [cell_at z1 2, ← Array.getElem?_toList, z3]; rfl
  · rw [cell_at z1 3, ← Array.getElem?_toList, z3]; rfl
  · rw [cell_at z1 4, ← Array.getElem?_toList, z3]; rfl
  · rw [cell_at z1 5, ← Array.getElem?_toList, z3]; rfl

end Go.Proofs.YtfbfdkibdjinaaaGreatDoor

namespace Go.Proofs.YtfbfdkibdjinaaaGreatDoor
set_option maxRecDepth 20000
open Go.RowKit
set_option linter.unusedVariables false
set_option linter.unusedSimpArgs false

def lonelyE (room : ByteArray) : Ev := ⟨⟨#[36, 120]⟩, room, [], ⟨#[]⟩, ⟨#[64, 97, 58, 115, 49]⟩, 0⟩
/-- Which event is turned. -/
def baseE (room : ByteArray) (l : List Ev) (k : Int) : Ev := l.getD (aroundN k (l.length : Int)) (lonelyE room)
/-- What is turned. -/
def turnE (x r : Ev) : Nat → Ev
  | 0 => ⟨r.id, x.room, x.parents, x.thread, x.user, x.does⟩
  | 1 => ⟨x.id, r.room, x.parents, x.thread, x.user, x.does⟩
  | 2 => ⟨x.id, x.room, x.parents, x.thread, r.user, x.does⟩
  | 3 => ⟨x.id, x.room, x.parents, r.thread, x.user, x.does⟩
  | 4 => ⟨x.id, x.room, x.parents, x.thread, x.user, r.does⟩
  | 5 => ⟨x.id, x.room, r.parents, x.thread, x.user, x.does⟩
  | 6 => ⟨⟨#[36, 121]⟩, x.room, x.parents, eventS r.does, x.user, 0⟩
  | _ => ⟨⟨#[36, 122]⟩, x.room, [eventS r.does], x.thread, x.user, x.does⟩
def oddE (room : ByteArray) (l : List Ev) (k which : Int) (raw : Ev) : Ev := turnE (baseE room l k) (fewE raw) (aroundN which 8)
theorem eventS_size (n : Int) : (eventS n).size ≤ maxLen := by
  have h : ∀ k : Fin 9, (eventK k.val).size ≤ 3 := by decide +kernel
  have := h ⟨aroundN n 9, aroundN_lt n (m := 9) (by decide)⟩
  unfold maxLen
  exact Nat.le_trans this (by omega)
theorem six_at {wr : World} {b : Nat} {cs : Array Value} {t : TypeId} (h : wr.heap[b]? = some (.cells cs t (0, 0))) (hs : cs.size = 6) (a0 a1 a2 a3 a4 a5 : Value) : (wr.setCells b 0 [a0, a1, a2, a3, a4, a5]).heap[b]? = some (.cells #[a0, a1, a2, a3, a4, a5] t (0, 0)) := by
  obtain ⟨cur, z1, z2, z3⟩ := sm_at b t [a0, a1, a2, a3, a4, a5] 0 wr _ h (by rw [hs]; exact Nat.le_refl 6)
  rw [z1]
  have : cur = #[a0, a1, a2, a3, a4, a5] := by
    apply Array.toList_inj.1
    rw [z3, List.take_zero, List.nil_append, List.drop_of_length_le (by rw [Array.length_toList, hs]; exact Nat.le_refl 6), List.append_nil]
  rw [this]
theorem lit_mine (w : World) (s : ByteArray) : LT.Mine (w.alloc (.cells #[.string s] 9)) w.heap.size (.slice (some ⟨w.heap.size, 0, none⟩) 1 1) [s] :=
  .inr ⟨w.heap.size, 0, 1, #[.string s], rfl, Nat.le_refl _, heap_alloc_new w _, Nat.le_refl _, by unfold maxLen; omega, by simp [LT], rfl⟩
/-- The four blocks of Odd. -/
structure OdS (w wr : World) (B4 B7 B8 B9 : Nat) (room : ByteArray) (v : Value) (rs es : Array Value) : Prop where
  n47 : B4 ≠ B7
  n49 : B4 ≠ B9
  n78 : B7 ≠ B8
  n79 : B7 ≠ B9
  n89 : B8 ≠ B9
  lo7 : w.heap.size ≤ B7
  lo8 : w.heap.size ≤ B8
  lo9 : w.heap.size ≤ B9
  b4 : wr.heap[B4]? = some (.cells #[.string room, v] 26 (0, 0))
  b7 : wr.heap[B7]? = some (.cells rs 45 (0, 0))
  b8 : wr.heap[B8]? = some (.cells #[.string ⟨#[]⟩, .string ⟨#[]⟩, .slice none 0 0, .string ⟨#[]⟩, .string ⟨#[]⟩, .int .i64 0] 45 (0, 0))
  b9 : wr.heap[B9]? = some (.cells es 45 (0, 0))
  below : Below w.heap.size w wr
section
variable {w wr w2 : World} {B4 B7 B8 B9 : Nat} {room : ByteArray} {v : Value} {rs es : Array Value}
theorem OdS.on (h : OdS w wr B4 B7 B8 B9 room v rs es) (hb : Below wr.heap.size wr w2) : OdS w w2 B4 B7 B8 B9 room v rs es :=
  ⟨h.n47, h.n49, h.n78, h.n79, h.n89, h.lo7, h.lo8, h.lo9, (hb.block B4 (smem_lt h.b4)).trans h.b4, (hb.block B7 (smem_lt h.b7)).trans h.b7, (hb.block B8 (smem_lt h.b8)).trans h.b8, (hb.block B9 (smem_lt h.b9)).trans h.b9, h.below.trans (hb.mono h.below.size)⟩
theorem OdS.set (h : OdS w wr B4 B7 B8 B9 room v rs es) (i : Nat) (u : Value) : OdS w (wr.setCell ⟨B9, i, none⟩ u) B4 B7 B8 B9 room v rs (es.setIfInBounds i u) :=
  ⟨h.n47, h.n49, h.n78, h.n79, h.n89, h.lo7, h.lo8, h.lo9, (Below.heap_setCell wr _ u B4 h.n49).trans h.b4, (Below.heap_setCell wr _ u B7 h.n79).trans h.b7, (Below.heap_setCell wr _ u B8 h.n89).trans h.b8, heap_set h.b9 i u, h.below.grown (sm_grown wr B9 i [u]) h.below.size (fun k hk => by injection hk with hk; have := h.lo9; omega)⟩
theorem OdS.set9 (h : OdS w wr B4 B7 B8 B9 room v rs es) (hs : es.size = 6) (a0 a1 a2 a3 a4 a5 : Value) : OdS w (wr.setCells B9 0 [a0, a1, a2, a3, a4, a5]) B4 B7 B8 B9 room v rs #[a0, a1, a2, a3, a4, a5] :=
  ⟨h.n47, h.n49, h.n78, h.n79, h.n89, h.lo7, h.lo8, h.lo9, (sm_far B9 B4 h.n49 _ 0 wr).trans h.b4, (sm_far B9 B7 h.n79 _ 0 wr).trans h.b7, (sm_far B9 B8 h.n89 _ 0 wr).trans h.b8, six_at h.b9 hs .., h.below.grown (sm_grown wr B9 0 _) h.below.size (fun k hk => by injection hk with hk; have := h.lo9; omega)⟩
theorem OdS.set7 (h : OdS w wr B4 B7 B8 B9 room v rs es) (hs : rs.size = 6) (a0 a1 a2 a3 a4 a5 : Value) : OdS w (wr.setCells B7 0 [a0, a1, a2, a3, a4, a5]) B4 B7 B8 B9 room v #[a0, a1, a2, a3, a4, a5] es :=
  ⟨h.n47, h.n49, h.n78, h.n79, h.n89, h.lo7, h.lo8, h.lo9, (sm_far B7 B4 h.n47 _ 0 wr).trans h.b4, six_at h.b7 hs .., (sm_far B7 B8 h.n78.symm _ 0 wr).trans h.b8, (sm_far B7 B9 h.n79.symm _ 0 wr).trans h.b9, h.below.grown (sm_grown wr B7 0 _) h.below.size (fun k hk => by injection hk with hk; have := h.lo7; omega)⟩
theorem OdS.start (w : World) (room : ByteArray) (v : Value) (rs es : Array Value) : OdS w ((((w.alloc (.cells #[.string room, v] 26)).alloc (.cells rs 45)).alloc (.cells #[.string ⟨#[]⟩, .string ⟨#[]⟩, .slice none 0 0, .string ⟨#[]⟩, .string ⟨#[]⟩, .int .i64 0] 45)).alloc (.cells es 45)) w.heap.size (w.heap.size + 1) (w.heap.size + 1 + 1) (w.heap.size + 1 + 1 + 1) room v rs es := by
  have s1 : ∀ (u : World) (o : Obj), (u.alloc o).heap.size = u.heap.size + 1 := fun u o => by simp
  refine ⟨by omega, by omega, by omega, by omega, by omega, by omega, by omega, by omega, ?_, ?_, ?_, ?_, ((Gr.refl w).alloc _ |>.alloc _ |>.alloc _ |>.alloc _).below⟩
  · rw [heap_alloc_old _ _ (by simp only [s1]; omega), heap_alloc_old _ _ (by simp only [s1]; omega), heap_alloc_old _ _ (by simp only [s1]; omega)]
    exact heap_alloc_new _ _
  · rw [heap_alloc_old _ _ (by simp only [s1]; omega), heap_alloc_old _ _ (by simp only [s1]; omega), show w.heap.size + 1 = (w.alloc (.cells #[.string room, v] 26)).heap.size by simp only [s1]]
    exact heap_alloc_new _ _
  · rw [heap_alloc_old _ _ (by simp only [s1]; omega), show w.heap.size + 1 + 1 = ((w.alloc (.cells #[.string room, v] 26)).alloc (.cells rs 45)).heap.size by simp only [s1]]
    exact heap_alloc_new _ _
  · have := heap_alloc_new (((w.alloc (.cells #[.string room, v] 26)).alloc (.cells rs 45)).alloc (.cells #[.string ⟨#[]⟩, .string ⟨#[]⟩, .slice none 0 0, .string ⟨#[]⟩, .string ⟨#[]⟩, .int .i64 0] 45)) (.cells es 45)
    simp only [s1] at this
    exact this
/-- The answer is laid. -/
theorem OdS.answer (h : OdS w wr B4 B7 B8 B9 room v rs es) (a0 a1 a2 a3 a4 a5 : Value) : ∀ W, W = wr.setCells B8 0 [a0, a1, a2, a3, a4, a5] → W.cell? ⟨B8, 0, none⟩ = some a0 ∧ W.cell? ⟨B8, 1, none⟩ = some a1 ∧ W.cell? ⟨B8, 2, none⟩ = some a2 ∧ W.cell? ⟨B8, 3, none⟩ = some a3 ∧ W.cell? ⟨B8, 4, none⟩ = some a4 ∧ W.cell? ⟨B8, 5, none⟩ = some a5 ∧ Below w.heap.size w W ∧ wr.grownBy W (some B8) := by
  rintro W rfl
  have z1 := six_at h.b8 rfl a0 a1 a2 a3 a4 a5
  exact ⟨cell_at z1 0, cell_at z1 1, cell_at z1 2, cell_at z1 3, cell_at z1 4, cell_at z1 5, h.below.grown (sm_grown wr B8 0 _) h.below.size (fun k hk => by injection hk with hk; have := h.lo8; omega), sm_grown wr B8 0 _⟩
end

end Go.Proofs.YtfbfdkibdjinaaaGreatDoor

namespace Go.Proofs.YtfbfdkibdjinaaaGreatDoor
set_option maxRecDepth 20000
set_option linter.unusedVariables false
set_option linter.unusedSimpArgs false

/-- What an event is made of. -/
structure Gp where
  user : Int
  does : Int
  parents : List Int
  thread : Int
def onP (g : Gp) (i k : Nat) : Bool := (g.parents.take 3).any (fun p => decide (aroundN p (i : Int) = k))
def fromP (g : Gp) (i : Nat) : List Nat := (List.range i).filter (onP g i)
def thrM (l : List Ev) (g : Gp) : ByteArray :=
  if aroundI g.does 3 = 0 ∧ 0 < l.length then
    match l[aroundN g.thread ((2 * l.length : Nat) : Int)]? with
    | some t => if t.does = 0 ∧ t.thread = ⟨#[]⟩ then eventK (aroundN g.thread ((2 * l.length : Nat) : Int)) else ⟨#[]⟩
    | none => ⟨#[]⟩
  else ⟨#[]⟩
def madeE (room : ByteArray) (l : List Ev) (g : Gp) : Ev := ⟨eventK l.length, room, (fromP g l.length).map eventK, thrM l g, userS g.user, aroundI g.does 3⟩
def madeTo (room : ByteArray) (gs : List Gp) (n : Nat) : List Ev := (gs.take n).foldl (fun l g => l ++ [madeE room l g]) []
theorem madeTo_succ {room : ByteArray} {gs : List Gp} {n : Nat} {g : Gp} (h : gs[n]? = some g) : madeTo room gs (n + 1) = madeTo room gs n ++ [madeE room (madeTo room gs n) g] := by
  unfold madeTo
  rw [List.take_add_one, h, List.foldl_append]
  rfl
theorem eventK_inj : ∀ a b : Fin 9, eventK a.val = eventK b.val → a = b := by decide +kernel
theorem eventK_less : ∀ a b : Fin 9, a < b → Op.bytesLess (eventK a.val).toList (eventK b.val).toList = true := by decide +kernel
theorem eventK_some : ∀ a : Fin 9, eventK a.val ≠ ⟨#[]⟩ := by decide +kernel
theorem fil_or (p q : Nat → Bool) : ∀ L : List Nat, (L.filter (fun k => p k || q k)).length ≤ (L.filter p).length + (L.filter q).length
  | [] => Nat.le_refl _
  | x :: r => by
    have := fil_or p q r
    cases hp : p x <;> cases hq : q x <;> simp [List.filter_cons, hp, hq] <;> omega
theorem fil_one (a i : Nat) : ((List.range i).filter (fun k => decide (a = k))).length ≤ (if a < i then 1 else 0) := by
  induction i with
  | zero => simp
  | succ i ih =>
    rw [List.range_succ, List.filter_append, List.length_append]
    by_cases h : a = i
    · subst h
      simp at ih ⊢
      omega
    · have h1 : ([i].filter (fun k => decide (a = k))).length = 0 := by simp [h]
      rw [h1]
      split at ih <;> split <;> omega
theorem fil_any (i : Nat) (f : Int → Nat) : ∀ ps : List Int, ((List.range i).filter (fun k => ps.any (fun p => decide (f p = k)))).length ≤ ps.length
  | [] => by simp
  | p :: r => by
    have h1 := fil_any i f r
    have h2 := fil_one (f p) i
    have h3 := fil_or (fun k => decide (f p = k)) (fun k => r.any (fun p => decide (f p = k))) (List.range i)
    simp only [List.any_cons, List.length_cons]
    split at h2 <;> omega
theorem fromP_len (g : Gp) (i : Nat) : (fromP g i).length ≤ 3 := by
  refine Nat.le_trans (fil_any i (fun p => aroundN p (i : Int)) (g.parents.take 3)) ?_
  rw [List.length_take]
  omega
theorem fromP_lt {g : Gp} {i k : Nat} (h : k ∈ fromP g i) : k < i := List.mem_range.1 (List.mem_filter.1 h).1
theorem fromP_up (g : Gp) (i : Nat) : (fromP g i).Pairwise (· < ·) := List.Pairwise.filter _ List.pairwise_lt_range
/-- Its events are named in their row. -/
structure Rowed (room : ByteArray) (l : List Ev) : Prop where
  ids : ∀ (j : Nat) e, l[j]? = some e → e.id = eventK j
  le : l.length ≤ 9
  valid : Valid room l
theorem Rowed.has {room : ByteArray} {l : List Ev} (h : Rowed room l) {k : Nat} (hk : k < l.length) : idx l (eventK k) = some k := by
  refine idx_hit (x := l[k]) (List.getElem?_eq_getElem hk) (h.ids k _ (List.getElem?_eq_getElem hk)) (fun j y hj hy he => ?_)
  rw [h.ids j y hy] at he
  have h9 := h.le
  have := eventK_inj ⟨j, by omega⟩ ⟨k, by omega⟩ he
  simp only [Fin.mk.injEq] at this
  omega
theorem made_may {room : ByteArray} {l : List Ev} (hr : namedB 33 room = true) (h : Rowed room l) (hl : l.length < 9) (g : Gp) : mayE (madeE room l g) = true := by
  have hd := aroundI_bd g.does 3 (by decide)
  have h1 : headB (madeE room l g) = true := by
    unfold headB madeE
    simp only [List.length_map, Bool.and_eq_true, decide_eq_true_eq]
    have := fromP_len g l.length
    exact ⟨⟨⟨⟨⟨eventK_event ⟨l.length, hl⟩, hr⟩, userS_user _⟩, by omega⟩, by omega⟩, by omega⟩
  have h2 : thrB (madeE room l g) = true := by
    unfold thrB madeE thrM
    generalize aroundN g.thread ((2 * l.length : Nat) : Int) = k
    simp only
    split
    · rename_i h0
      cases ht : l[k]? with
      | none => simp
      | some t =>
        simp only
        have hk := (List.getElem?_eq_some_iff.1 ht).1
        split
        · have e1 := eventK_event ⟨k, by omega⟩
          simp only at e1
          rw [e1, h0.1]
          have e2 : ¬ eventK k = eventK l.length := fun he => by
            have := eventK_inj ⟨k, by omega⟩ ⟨l.length, hl⟩ he
            simp only [Fin.mk.injEq] at this
            omega
          simp [e2]
        · simp
    · simp
  have h3 : parTo (madeE room l g) (madeE room l g).parents.length = true := by
    unfold parTo
    rw [List.all_eq_true]
    intro i hi
    rw [List.mem_range] at hi
    have hp : (madeE room l g).parents = (fromP g l.length).map eventK := rfl
    rw [hp, List.length_map] at hi
    have gi : ∀ j, (hj : j < (fromP g l.length).length) → (madeE room l g).parents.getD j ⟨#[]⟩ = eventK (fromP g l.length)[j] := fun j hj => by
      rw [hp, List.getD_eq_getElem?_getD, List.getElem?_map, List.getElem?_eq_getElem hj]
      rfl
    have lt : ∀ j, (hj : j < (fromP g l.length).length) → (fromP g l.length)[j] < l.length := fun j hj => fromP_lt (List.getElem_mem hj)
    unfold parB
    rw [gi i hi]
    have l1 := lt i hi
    have e1 := eventK_event ⟨(fromP g l.length)[i], by omega⟩
    simp only at e1
    rw [e1]
    have e2 : ¬ eventK (fromP g l.length)[i] = (madeE room l g).id := fun he => by
      have := eventK_inj ⟨(fromP g l.length)[i], by omega⟩ ⟨l.length, hl⟩ he
      simp only [Fin.mk.injEq] at this
      omega
    rw [decide_eq_false e2]
    by_cases hi0 : i = 0
    · simp [hi0]
    · have l2 := lt (i - 1) (by omega)
      have l3 := List.pairwise_iff_getElem.1 (fromP_up g l.length) (i - 1) i (by omega) hi (by omega)
      rw [gi (i - 1) (by omega)]
      have e3 := eventK_less ⟨(fromP g l.length)[i - 1], by omega⟩ ⟨(fromP g l.length)[i], by omega⟩ l3
      simp only at e3
      rw [e3]
      simp
  unfold mayE
  rw [h1, h2, h3]
  rfl
theorem made_zero {room : ByteArray} {l : List Ev} (hr : namedB 33 room = true) (h : Rowed room l) (hl : l.length < 9) (g : Gp) : errA room l (madeE room l g) = 0 := by
  unfold errA
  rw [made_may hr h hl g]
  have hroom : (madeE room l g).room = room := rfl
  have hid : (madeE room l g).id = eventK l.length := rfl
  have h1 : hasE l (madeE room l g).id = false := by
    rw [Bool.eq_false_iff]
    intro hh
    obtain ⟨x, hx, he⟩ := has_iff.1 hh
    obtain ⟨j, hj, hxj⟩ := List.getElem_of_mem hx
    rw [h.ids j x (by rw [List.getElem?_eq_getElem hj, hxj]), hid] at he
    have := eventK_inj ⟨j, by omega⟩ ⟨l.length, hl⟩ he
    simp only [Fin.mk.injEq] at this
    omega
  have h2 : (madeE room l g).parents.all (hasE l) = true := by
    rw [List.all_eq_true]
    intro p hp
    obtain ⟨k, hk, rfl⟩ := List.mem_map.1 (show p ∈ (fromP g l.length).map eventK from hp)
    unfold hasE
    rw [h.has (fromP_lt hk)]
    rfl
  rw [h1, h2, hroom]
  simp only [decide_true, Bool.and_self, Bool.true_eq_false, Bool.false_eq_true, if_false]
  have ht : (madeE room l g).thread = thrM l g := rfl
  rw [ht]
  unfold thrM
  generalize aroundN g.thread ((2 * l.length : Nat) : Int) = k
  split
  · cases hk : l[k]? with
    | none => simp
    | some t =>
      simp only
      by_cases hh : t.does = 0 ∧ t.thread = ⟨#[]⟩
      · have hlt := (List.getElem?_eq_some_iff.1 hk).1
        rw [if_pos hh, if_neg (eventK_some ⟨k, by omega⟩), h.has hlt]
        simp only [hk]
        rw [if_pos ⟨hh.2, hh.1⟩]
      · rw [if_neg hh]
        simp
  · simp
theorem made_row {room : ByteArray} {l : List Ev} (hr : namedB 33 room = true) (h : Rowed room l) (hl : l.length < 9) (g : Gp) : Rowed room (l ++ [madeE room l g]) := by
  refine ⟨fun j e he => ?_, by rw [List.length_append]; simp only [List.length_cons, List.length_nil]; omega, valid_snoc h.valid (made_zero hr h hl g)⟩
  by_cases hj : j < l.length
  · rw [List.getElem?_append_left hj] at he
    exact h.ids j e he
  · have hl2 := (List.getElem?_eq_some_iff.1 he).1
    simp only [List.length_append, List.length_cons, List.length_nil] at hl2
    obtain rfl : j = l.length := by omega
    simp only [List.getElem?_concat_length, Option.some.injEq] at he
    rw [← he]
    rfl
theorem madeTo_row {room : ByteArray} (hr : namedB 33 room = true) (gs : List Gp) : ∀ n, n ≤ 9 → n ≤ gs.length → Rowed room (madeTo room gs n) ∧ (madeTo room gs n).length = n
  | 0, _, _ => ⟨⟨fun j e he => by simp [madeTo] at he, Nat.zero_le _, valid_nil room⟩, rfl⟩
  | n + 1, h9, hn => by
    obtain ⟨ih, hl⟩ := madeTo_row hr gs n (by omega) (by omega)
    rw [madeTo_succ (List.getElem?_eq_getElem (show n < gs.length by omega))]
    exact ⟨made_row hr ih (by omega) _, by rw [List.length_append, hl]; rfl⟩
end Go.Proofs.YtfbfdkibdjinaaaGreatDoor

namespace Go.Proofs.YtfbfdkibdjinaaaGreatDoor
set_option maxRecDepth 20000
set_option linter.unusedVariables false
set_option linter.unusedSimpArgs false

theorem pos_iff (a b : Po) : beforeP a b = true ↔ a.depth < b.depth ∨ (a.depth = b.depth ∧ a.id.toList < b.id.toList) := by
  simp [beforeP, Proofs.bytesLess_eq]
theorem pos_irrefl (a : Po) : beforeP a a = false := by
  rw [Bool.eq_false_iff]
  intro h
  rw [pos_iff] at h
  rcases h with h | ⟨_, h⟩
  · omega
  · exact List.lt_irrefl _ h
theorem pos_trans {a b c : Po} (h : beforeP a b = true) (k : beforeP b c = true) : beforeP a c = true := by
  rw [pos_iff] at *
  rcases h with h | ⟨h, h'⟩ <;> rcases k with k | ⟨k, k'⟩
  · exact .inl (by omega)
  · exact .inl (by omega)
  · exact .inl (by omega)
  · exact .inr ⟨by omega, List.lt_trans h' k'⟩
theorem pos_total {a b : Po} (h : a ≠ b) : beforeP a b = true ∨ beforeP b a = true := by
  rw [pos_iff, pos_iff]
  rcases Int.lt_trichotomy a.depth b.depth with ht | ht | ht
  · exact .inl (.inl ht)
  · by_cases hk : a.id.toList < b.id.toList
    · exact .inl (.inr ⟨ht, hk⟩)
    · by_cases hk' : b.id.toList < a.id.toList
      · exact .inr (.inr ⟨ht.symm, hk'⟩)
      · exfalso
        apply h
        obtain ⟨x, y⟩ := a
        obtain ⟨z, u⟩ := b
        simp only at ht hk hk'
        have : y = u := key_ext (List.le_antisymm (List.not_lt.1 hk') (List.not_lt.1 hk))
        rw [ht, this]
  · exact .inr (.inl ht)

/-- Where an event stands in a dag that may be. -/
theorem valid_idx {room : ByteArray} {l : List Ev} {i : Nat} {e : Ev} (hv : Valid room l) (he : l[i]? = some e) : idx l e.id = some i := by
  refine idx_hit he rfl (fun j y hj hy hh => ?_)
  have h0 := (err_zero (hv i e he)).2.2.1
  have : hasE (l.take i) e.id = true := has_iff.2 ⟨y, List.mem_of_getElem? (i := j) (by rw [List.getElem?_take, if_pos hj]; exact hy), hh⟩
  rw [h0] at this
  cases this
theorem valid_ids {room : ByteArray} {l : List Ev} {a b : Ev} (hv : Valid room l) (ha : a ∈ l) (hb : b ∈ l) (h : a.id = b.id) : a = b := by
  obtain ⟨i, hi, ei⟩ := List.getElem_of_mem ha
  obtain ⟨j, hj, ej⟩ := List.getElem_of_mem hb
  have h1 := valid_idx hv (List.getElem?_eq_getElem hi)
  have h2 := valid_idx hv (List.getElem?_eq_getElem hj)
  rw [ei] at h1
  rw [ej, ← h, h1] at h2
  injection h2 with h2
  subst h2
  rw [← ei, ← ej]
/-- An event's depth is one above its parents'. -/
theorem depth_rec {room : ByteArray} {l : List Ev} {e : Ev} (hv : Valid room l) (he : e ∈ l) : depthL l e.id = e.parents.foldl (fun m p => max m (depthL l p + 1)) 0 := by
  obtain ⟨i, hi, ei⟩ := List.getElem_of_mem he
  have hie : l[i]? = some e := by rw [List.getElem?_eq_getElem hi, ei]
  have h1 : depthL l e.id = (deps l).getD i 0 := by unfold depthL; rw [valid_idx hv hie]
  rw [h1, ← depTo_all hv hie]
  unfold depTo
  rw [List.take_length]
  obtain ⟨_, _, _, hp, _⟩ := err_zero (hv i e hie)
  have key : ∀ (ps : List ByteArray) (m : Nat), (∀ p ∈ ps, hasE (l.take i) p = true) → ps.foldl (fun m p => max m ((deps (l.take i)).getD ((idx l p).getD 0) 0 + 1)) m = ps.foldl (fun m p => max m (depthL l p + 1)) m := by
    intro ps
    induction ps with
    | nil => intro m _; rfl
    | cons p r ih =>
      intro m hq
      rw [List.foldl_cons, List.foldl_cons]
      have hpp := hq p List.mem_cons_self
      obtain ⟨e1, t, e2, ht⟩ := idx_take hpp
      have h3 : (deps (l.take i)).getD ((idx l p).getD 0) 0 = depthL l p := by
        unfold depthL
        rw [e1, e2, deps_take]
        simp only [Option.getD_some]
        rw [List.getD_eq_getElem?_getD, List.getD_eq_getElem?_getD, List.getElem?_take, if_pos ht]
      rw [h3]
      exact ih _ (fun q hq' => hq q (List.mem_cons_of_mem _ hq'))
  exact key _ _ hp
theorem depth_same {room room' : ByteArray} {l l' : List Ev} (hv : Valid room l) (hv' : Valid room' l') (hm : ∀ e, e ∈ l ↔ e ∈ l') (k : ByteArray) : depthL l k = depthL l' k := by
  have key : ∀ (n i : Nat) (e : Ev), i < n → l[i]? = some e → depthL l e.id = depthL l' e.id := by
    intro n
    induction n with
    | zero => intro i e hi; omega
    | succ n ih =>
      intro i e hi he
      have hel := List.mem_of_getElem? he
      rw [depth_rec hv hel, depth_rec hv' ((hm e).1 hel)]
      obtain ⟨_, _, _, hp, _⟩ := err_zero (hv i e he)
      have fold : ∀ (ps : List ByteArray) (m : Nat), (∀ p ∈ ps, hasE (l.take i) p = true) → ps.foldl (fun m p => max m (depthL l p + 1)) m = ps.foldl (fun m p => max m (depthL l' p + 1)) m := by
        intro ps
        induction ps with
        | nil => intro m _; rfl
        | cons p r ih2 =>
          intro m hq
          rw [List.foldl_cons, List.foldl_cons]
          obtain ⟨e1, t, e2, ht⟩ := idx_take (hq p List.mem_cons_self)
          obtain ⟨x, hx, hxe, _⟩ := idx_some (e1.trans e2)
          have := ih t x (by omega) hx
          rw [hxe] at this
          rw [this]
          exact ih2 _ (fun q hq' => hq q (List.mem_cons_of_mem _ hq'))
      exact fold _ _ hp
  cases h : idx l k with
  | some i =>
    obtain ⟨x, hx, hxe, _⟩ := idx_some h
    rw [← hxe]
    exact key (i + 1) i x (by omega) hx
  | none =>
    have h' : idx l' k = none := idx_miss (fun j y hy he => by
      have hy2 := (hm y).2 (List.mem_of_getElem? hy)
      have : hasE l k = true := has_iff.2 ⟨y, hy2, he⟩
      unfold hasE at this
      rw [h] at this
      cases this)
    unfold depthL
    rw [h, h']
theorem pos_same {room room' : ByteArray} {l l' : List Ev} (hv : Valid room l) (hv' : Valid room' l') (hm : ∀ e, e ∈ l ↔ e ∈ l') (k : ByteArray) : posL l k = posL l' k := by
  unfold posL
  rw [depth_same hv hv' hm]

/-- In its row. -/
def Sorted (l out : List Ev) : Prop := out.Pairwise (fun x y => beforeP (posL l x.id) (posL l y.id) = true)
theorem mem_insP {l : List Ev} {x y : Ev} : ∀ {out : List Ev}, y ∈ insP l x out ↔ y = x ∨ y ∈ out
  | [] => by simp [insP]
  | z :: r => by
    unfold insP
    cases beforeP (posL l z.id) (posL l x.id)
    · simp
    · simp only [cond_true, List.mem_cons, mem_insP (out := r)]
      constructor
      · rintro (h | h | h)
        · exact .inr (.inl h)
        · exact .inl h
        · exact .inr (.inr h)
      · rintro (h | h | h)
        · exact .inr (.inl h)
        · exact .inl h
        · exact .inr (.inr h)
theorem insP_row {l : List Ev} {x : Ev} : ∀ {out : List Ev}, Sorted l out → (∀ y ∈ out, y.id ≠ x.id) → Sorted l (insP l x out)
  | [], _, _ => by simp [insP, Sorted]
  | z :: r, h, hk => by
    have hz := (List.pairwise_cons.1 h).1
    unfold insP
    cases hb : beforeP (posL l z.id) (posL l x.id)
    · rw [cond_false]
      have hx : beforeP (posL l x.id) (posL l z.id) = true := by
        rcases pos_total (a := posL l x.id) (b := posL l z.id) (fun e => hk z List.mem_cons_self (by have := congrArg Po.id e; exact this.symm)) with h1 | h1
        · exact h1
        · rw [hb] at h1; cases h1
      refine List.pairwise_cons.2 ⟨fun y hy => ?_, h⟩
      rcases List.mem_cons.1 hy with rfl | hy
      · exact hx
      · exact pos_trans hx (hz y hy)
    · rw [cond_true]
      refine List.pairwise_cons.2 ⟨fun y hy => ?_, insP_row (List.pairwise_cons.1 h).2 (fun y hy => hk y (List.mem_cons_of_mem _ hy))⟩
      rcases mem_insP.1 hy with rfl | hy
      · exact hb
      · exact hz y hy
theorem allL_row {room : ByteArray} {l : List Ev} (hv : Valid room l) : Sorted l (allL l) ∧ ∀ x, x ∈ allL l ↔ x ∈ l := by
  have key : ∀ n, n ≤ l.length → Sorted l (allTo l n) ∧ ∀ x, x ∈ allTo l n ↔ x ∈ l.take n := by
    intro n
    induction n with
    | zero => intro _; exact ⟨List.Pairwise.nil, fun x => by simp [allTo]⟩
    | succ n ih =>
      intro hn
      obtain ⟨h1, h2⟩ := ih (by omega)
      have he : l[n]? = some l[n] := List.getElem?_eq_getElem (by omega)
      rw [allTo_succ he]
      refine ⟨insP_row h1 (fun y hy hh => ?_), fun x => ?_⟩
      · have h0 := (err_zero (hv n _ he)).2.2.1
        have : hasE (l.take n) l[n].id = true := has_iff.2 ⟨y, (h2 y).1 hy, hh⟩
        rw [h0] at this
        cases this
      · rw [mem_insP, h2, List.take_add_one, he, List.mem_append]
        simp only [Option.toList_some, List.mem_singleton]
        exact Or.comm
  have := key l.length (Nat.le_refl _)
  rw [allTo_all, List.take_length] at this
  exact this
theorem sorted_unique {l : List Ev} : ∀ {a b : List Ev}, Sorted l a → Sorted l b → (∀ x, x ∈ a ↔ x ∈ b) → a = b
  | [], [], _, _, _ => rfl
  | [], y :: r, _, _, h => by have := (h y).2 List.mem_cons_self; cases this
  | x :: r, [], _, _, h => by have := (h x).1 List.mem_cons_self; cases this
  | x :: r, y :: r', h1, h2, h => by
    have a1 := List.pairwise_cons.1 h1
    have a2 := List.pairwise_cons.1 h2
    have hno : ∀ {u v : Ev}, beforeP (posL l u.id) (posL l v.id) = true → beforeP (posL l v.id) (posL l u.id) = true → False := fun hu hv => by
      have := pos_trans hu hv
      rw [pos_irrefl] at this
      cases this
    have e : x = y := by
      rcases List.mem_cons.1 ((h x).1 List.mem_cons_self) with e | hx
      · exact e
      · rcases List.mem_cons.1 ((h y).2 List.mem_cons_self) with e | hy
        · exact e.symm
        · exact (hno (a1.1 y hy) (a2.1 x hx)).elim
    subst e
    congr 1
    refine sorted_unique a1.2 a2.2 (fun z => ?_)
    constructor
    · intro hz
      rcases List.mem_cons.1 ((h z).1 (List.mem_cons_of_mem _ hz)) with rfl | hz'
      · exact (hno (a1.1 z hz) (a1.1 z hz)).elim
      · exact hz'
    · intro hz
      rcases List.mem_cons.1 ((h z).2 (List.mem_cons_of_mem _ hz)) with rfl | hz'
      · exact (hno (a2.1 z hz) (a2.1 z hz)).elim
      · exact hz'
/-- In whatever order events came: the same row. -/
theorem allL_same {room room' : ByteArray} {l l' : List Ev} (hv : Valid room l) (hv' : Valid room' l') (hm : ∀ e, e ∈ l ↔ e ∈ l') : allL l = allL l' := by
  obtain ⟨h1, h2⟩ := allL_row hv
  obtain ⟨h3, h4⟩ := allL_row hv'
  have h5 : Sorted l (allL l') := by
    unfold Sorted at *
    simp only [pos_same hv hv' hm]
    exact h3
  exact sorted_unique h1 h5 (fun x => by rw [h2, h4, hm])
theorem isHead_same {l l' : List Ev} (hm : ∀ e, e ∈ l ↔ e ∈ l') (k : ByteArray) : isHead l k = isHead l' k := by
  unfold isHead
  rw [Bool.eq_iff_iff, List.all_eq_true, List.all_eq_true]
  exact ⟨fun h e he => h e ((hm e).2 he), fun h e he => h e ((hm e).1 he)⟩
theorem headsL_same {room room' : ByteArray} {l l' : List Ev} (hv : Valid room l) (hv' : Valid room' l') (hm : ∀ e, e ∈ l ↔ e ∈ l') : headsL l = headsL l' := by
  unfold headsL
  rw [allL_same hv hv' hm]
  congr 1
  exact List.filter_congr (fun e _ => isHead_same hm e.id)
/-- Those of the same events are as many. -/
theorem len_same {room room' : ByteArray} {l l' : List Ev} (hv : Valid room l) (hv' : Valid room' l') (hm : ∀ e, e ∈ l ↔ e ∈ l') : l.length = l'.length := by
  rw [← allL_len l, ← allL_len l', allL_same hv hv' hm]
/-- A parent's depth is lesser. -/
theorem depth_less {room : ByteArray} {l : List Ev} {e : Ev} {p : ByteArray} (hv : Valid room l) (he : e ∈ l) (hp : p ∈ e.parents) : depthL l p < depthL l e.id := by
  rw [depth_rec hv he]
  have up : ∀ (ps : List ByteArray) (m : Nat), m ≤ ps.foldl (fun m p => max m (depthL l p + 1)) m := by
    intro ps
    induction ps with
    | nil => intro m; exact Nat.le_refl _
    | cons q r ih => intro m; rw [List.foldl_cons]; exact Nat.le_trans (Nat.le_max_left _ _) (ih _)
  have key : ∀ (ps : List ByteArray) (m : Nat), p ∈ ps → depthL l p < ps.foldl (fun m p => max m (depthL l p + 1)) m := by
    intro ps
    induction ps with
    | nil => intro m h; cases h
    | cons q r ih =>
      intro m h
      rw [List.foldl_cons]
      rcases List.mem_cons.1 h with rfl | h
      · have := up r (max m (depthL l p + 1))
        omega
      · exact ih _ h
  exact key _ _ hp
end Go.Proofs.YtfbfdkibdjinaaaGreatDoor
