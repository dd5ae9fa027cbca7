/-
  What a heap of the code keeps to, told short: its entries in their row, the blocks that are its own; what each call does. The statements' walks go by these alone.
-/
import Derived.Test.YtkbmkbmbkmeenaaEntSame
namespace Go.Proofs.Ytkbmkbmbkmeenaa
set_option maxRecDepth 20000
open Go.RowKit
set_option linter.unusedVariables false
set_option linter.unusedSimpArgs false

/-- From w to w' only the heap's own blocks have turned, and new ones have come. -/
structure TurnC (own : World → Nat → Nat → Prop) (w w' : World) (g : Nat) : Prop where
  os : w'.os = w.os
  tape : w'.tape = w.tape
  output : w'.output = w.output
  size : w.heap.size ≤ w'.heap.size
  block : ∀ k, k < w.heap.size → ¬ own w g k → w'.heap[k]? = w.heap[k]?
  owns : ∀ k, own w' g k → own w g k ∨ w.heap.size ≤ k
/-- What is told is new memory, and not the heap's. -/
def ToldC (own : World → Nat → Nat → Prop) (w : World) (g : Nat) (v : Value) : Prop := ∀ k, v.ownBlock = some k → ¬ own w g k
/-- An entry as a value. -/
def Ent.val (x : Ent) : Value := .agg #[.int .i64 x.tick, .string x.key]
def firstE (l : List Ent) : Ent := (l[0]?).getD ⟨0, ⟨#[]⟩⟩

structure Heaps where
  CH : World → Nat → List Ent → Prop
  own : World → Nat → Nat → Prop
  old : ∀ {w g l k}, CH w g l → own w g k → k < w.heap.size
  typed : ∀ {w g l k}, CH w g l → own w g k → ∀ (cur : Array Value) (T : TypeId) (fr : Nat × Nat), T = 44 ∨ T = 28 → w.heap[k]? ≠ some (Obj.cells cur T fr)
  keep : ∀ {w w' : World} {g l}, CH w g l → w.heap.size ≤ w'.heap.size → (∀ k, own w g k → w'.heap[k]? = w.heap[k]?) → CH w' g l ∧ ∀ k, own w' g k → own w g k
  new : ∀ w, Calls Try.prog 8 #[] w fun e w' => ∃ g, e = .returned (.pointer (some ⟨g, 0, none⟩)) ∧ CH w' g [] ∧ Below w.heap.size w w' ∧ ∀ k, own w' g k → w.heap.size ≤ k
  put : ∀ {w g l} (x : Ent), CH w g l → l.length ≤ 100 → x.ok → Calls Try.prog 23 #[.pointer (some ⟨g, 0, none⟩), .int .i64 x.tick, .string x.key] w fun e w' => e = .returned (.tuple #[]) ∧ CH w' g (putL x l) ∧ TurnC own w w' g
  drop : ∀ {w g l} (k : ByteArray), CH w g l → l.length ≤ 100 → k.size ≤ maxLen → Calls Try.prog 21 #[.pointer (some ⟨g, 0, none⟩), .string k] w fun e w' => e = .returned (.bool (hasL k l)) ∧ CH w' g (dropL k l) ∧ TurnC own w w' g
  due : ∀ {w g l} (t : Int), CH w g l → l.length ≤ 100 → Calls Try.prog 25 #[.pointer (some ⟨g, 0, none⟩), .int .i64 t] w fun e w' => (∃ v, e = .returned v ∧ LT.Mine w' w.heap.size v ((dueL t l).map Ent.key) ∧ ToldC own w' g v) ∧ CH w' g (leftL t l) ∧ TurnC own w w' g
  clear : ∀ {w g l}, CH w g l → l.length ≤ 100 → Calls Try.prog 28 #[.pointer (some ⟨g, 0, none⟩)] w fun e w' => e = .returned (.tuple #[]) ∧ CH w' g [] ∧ TurnC own w w' g
  len : ∀ {w g l}, CH w g l → l.length ≤ 100 → Calls Try.prog 15 #[.pointer (some ⟨g, 0, none⟩)] w fun e w' => e = .returned (.int .i64 (l.length : Int)) ∧ CH w' g l ∧ TurnC own w w' g
  all : ∀ {w g l}, CH w g l → l.length ≤ 100 → Calls Try.prog 14 #[.pointer (some ⟨g, 0, none⟩)] w fun e w' => (∃ v, e = .returned v ∧ LC.Mine w' w.heap.size v l ∧ ToldC own w' g v) ∧ CH w' g l ∧ TurnC own w w' g
  at' : ∀ {w g l} (k : ByteArray), CH w g l → l.length ≤ 100 → k.size ≤ maxLen → Calls Try.prog 19 #[.pointer (some ⟨g, 0, none⟩), .string k] w fun e w' => e = .returned (.tuple #[.int .i64 (tickL k l), .bool (hasL k l)]) ∧ CH w' g l ∧ TurnC own w w' g
  first : ∀ {w g l}, CH w g l → l.length ≤ 100 → Calls Try.prog 18 #[.pointer (some ⟨g, 0, none⟩)] w fun e w' => e = .returned (.tuple #[(firstE l).val, .bool (decide (l ≠ []))]) ∧ CH w' g l ∧ TurnC own w w' g

section
variable (C : Heaps) {w0 w w' : World} {gc gr : Nat} {lc lr : List Ent}
/-- A heap of the code and one of the document, all of it new since w0. -/
structure Heaps.Joint (w0 w : World) (gc gr : Nat) (lc lr : List Ent) : Prop where
  code : C.CH w gc lc
  ref : RefH w gr lr
  below : Below w0.heap.size w0 w
  fresh : ∀ k, C.own w gc k → w0.heap.size ≤ k
  base : w0.heap.size ≤ gr
variable {C}
theorem RefH.keepB {l : List Ent} {g : Nat} (h : RefH w g l) (hk : ∀ (k : Nat) (cur : Array Value) (T : TypeId) (fr : Nat × Nat), T = 44 ∨ T = 28 → w.heap[k]? = some (Obj.cells cur T fr) → w'.heap[k]? = w.heap[k]?) : RefH w' g l := by
  obtain ⟨⟨v, hh, hm⟩, hok⟩ := h
  refine ⟨⟨v, (hk g _ _ _ (.inr rfl) hh).trans hh, hm.keep fun k hkk => ?_⟩, hok⟩
  rcases hm with ⟨rfl, _⟩ | ⟨g', off, cap, cur, rfl, _, hh', _⟩
  · cases hkk
  · simp only [Value.ownBlock, Option.some.injEq] at hkk
    subst hkk
    exact hk _ _ _ _ (.inl rfl) hh'
theorem Heaps.Joint.codes {lc' : List Ent} (h : C.Joint w0 w gc gr lc lr) (hc : C.CH w' gc lc') (ht : TurnC C.own w w' gc) : C.Joint w0 w' gc gr lc' lr :=
  ⟨hc, h.ref.keepB fun k cur T fr hT hh => ht.block k (smem_lt hh) (fun ho => C.typed h.code ho cur T fr hT hh),
   ⟨ht.os.trans h.below.os, ht.tape.trans h.below.tape, ht.output.trans h.below.output, Nat.le_trans h.below.size ht.size, fun k hk => (ht.block k (Nat.lt_of_lt_of_le hk h.below.size) (fun ho => by have := h.fresh k ho; omega)).trans (h.below.block k hk)⟩,
   fun k hk => by rcases ht.owns k hk with ho | ho; exact h.fresh k ho; exact Nat.le_trans h.below.size ho, h.base⟩
theorem Heaps.Joint.refs {lr' : List Ent} (h : C.Joint w0 w gc gr lc lr) (hr : RefH w' gr lr') (hg : w.grownBy w' (some gr)) : C.Joint w0 w' gc gr lc lr' := by
  obtain ⟨hc, ho⟩ := C.keep h.code hg.size (fun k hk => hg.block k (C.old h.code hk) (fun e => by
    injection e with e
    subst e
    obtain ⟨⟨v, hh, _⟩, _⟩ := h.ref
    exact C.typed h.code hk _ _ _ (.inr rfl) hh))
  exact ⟨hc, hr, h.below.grown hg h.below.size (fun k hk => by injection hk with hk; have := h.base; omega), fun k hk => h.fresh k (ho k hk), h.base⟩
theorem Heaps.Joint.later (h : C.Joint w0 w gc gr lc lr) (hb : Below w.heap.size w w') : C.Joint w0 w' gc gr lc lr := by
  obtain ⟨hc, ho⟩ := C.keep h.code hb.size (fun k hk => hb.block k (C.old h.code hk))
  exact ⟨hc, h.ref.keepB fun k cur T fr hT hh => hb.block k (smem_lt hh), h.below.trans (hb.mono h.below.size), fun k hk => h.fresh k (ho k hk), h.base⟩
theorem Heaps.Joint.drewN (h : C.Joint w0 w gc gr lc lr) (d : Nat) : C.Joint w0 (w.drewN d) gc gr lc lr := h.later ⟨rfl, rfl, rfl, Nat.le_refl _, fun _ _ => rfl⟩
theorem Heaps.Joint.drew (h : C.Joint w0 w gc gr lc lr) : C.Joint w0 w.drew gc gr lc lr := h.later ⟨rfl, rfl, rfl, Nat.le_refl _, fun _ _ => rfl⟩
end
end Go.Proofs.Ytkbmkbmbkmeenaa
