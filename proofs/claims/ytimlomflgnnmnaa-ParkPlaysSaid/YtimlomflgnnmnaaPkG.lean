/-
  Things that lie in memory: rows, boxes; which blocks have turned.
-/
import Derived.Test.YtimlomflgnnmnaaWD
import Derived.Test.YtimlomflgnnmnaaSPut
import Derived.BigQuiet
namespace Go.Proofs.Ytimlomflgnnmnaa
set_option maxRecDepth 20000
open Go.RowKit
set_option linter.unusedVariables false
set_option linter.unusedSimpArgs false

theorem Lies.Slice.stay0 {α : Type} {L : Lies α} {w w' : World} {v : Value} {xs : List α} (h : L.Slice w v xs) (hs : w.heap.size ≤ w'.heap.size) (hb : ∀ k, k < w.heap.size → 0 < xs.length → v.ownBlock = some k → w'.heap[k]? = w.heap[k]?) : L.Slice w' v xs := by
  obtain ⟨A, cap, rfl, h1, h2, h3, h4⟩ := h
  refine ⟨A, cap, rfl, h1, h2, h3, fun h0 => ?_⟩
  obtain ⟨b, off, rfl, hl, hr⟩ := h4 h0
  refine ⟨b, off, rfl, Nat.lt_of_lt_of_le hl hs, fun j u hu => ?_⟩
  exact (World.cell?_of_block (a := ⟨b, off + j, none⟩) (hb b hl h0 rfl)).trans (hr j u hu)
theorem Lies.Slice.stay {α : Type} {L : Lies α} {w w' : World} {v : Value} {xs : List α} (h : L.Slice w v xs) (hs : w.heap.size ≤ w'.heap.size) (hb : ∀ k, k < w.heap.size → v.ownBlock = some k → w'.heap[k]? = w.heap[k]?) : L.Slice w' v xs :=
  h.stay0 hs (fun k hk _ hv => hb k hk hv)
theorem Lies.Slice.foot {α : Type} {L : Lies α} {w : World} {v : Value} {xs : List α} (h : L.Slice w v xs) {k : Nat} (h0 : 0 < xs.length) (hk : v.ownBlock = some k) : k < w.heap.size := by
  obtain ⟨A, cap, rfl, h1, h2, h3, h4⟩ := h
  obtain ⟨b, off, rfl, hl, hr⟩ := h4 h0
  have h5 : b = k := by simpa [Value.ownBlock] using hk
  rw [← h5]; exact hl
theorem lit_slice {α : Type} {L : Lies α} (w : World) (x : α) (B : Nat) (hB : B = w.heap.size) (cs : Array Value) (hc : cs.toList = L.cl x) : L.Slice (w.alloc (.cells cs L.e)) (.slice (some ⟨B, 0, none⟩) 1 1) [x] := by
  subst hB
  refine ⟨_, 1, rfl, Nat.le_refl _, by unfold maxLen; omega, (fun e => by cases e), fun _ => ⟨_, 0, rfl, by simp, fun j u hu => ?_⟩⟩
  rw [Nat.zero_add, cell_of_row _ _ _ _ _ _ (heap_alloc_new w _), ← Array.getElem?_toList, hc]
  rw [L.vs_sing] at hu
  exact hu
theorem lit_many {α : Type} {L : Lies α} (w : World) (xs : List α) (B n : Nat) (hB : B = w.heap.size) (hn : xs.length = n) (hm : n ≤ maxLen) (cs : Array Value) (hc : cs.toList = L.vs xs) : L.Slice (w.alloc (.cells cs L.e)) (.slice (some ⟨B, 0, none⟩) n n) xs := by
  subst hB hn
  refine ⟨_, _, rfl, Nat.le_refl _, hm, (fun e => by cases e), fun _ => ⟨_, 0, rfl, by simp, fun j u hu => ?_⟩⟩
  rw [Nat.zero_add, cell_of_row _ _ _ _ _ _ (heap_alloc_new w _), ← Array.getElem?_toList, hc]
  exact hu
/-- Only these blocks have turned, and new ones have come. -/
structure TurnP (P : Nat → Prop) (w w' : World) : Prop where
  os : w'.os = w.os
  tape : w'.tape = w.tape
  output : w'.output = w.output
  size : w.heap.size ≤ w'.heap.size
  block : ∀ k, k < w.heap.size → ¬ P k → w'.heap[k]? = w.heap[k]?
theorem TurnP.below {P : Nat → Prop} {w w' : World} {B : Nat} (h : TurnP P w w') (hf : ∀ k, P k → B ≤ k) (hB : B ≤ w.heap.size) : Below B w w' := ⟨h.os, h.tape, h.output, h.size, fun k hk => h.block k (Nat.lt_of_lt_of_le hk hB) (fun hh => by have := hf k hh; omega)⟩
theorem below_drew (w : World) : Below w.heap.size w w.drew := (Below.refl _ w).drew

/-- A thing that lies in memory: which blocks it takes, what it says. -/
structure Th where
  P : Nat → Prop
  I : World → Prop
  lt : ∀ w k, I w → P k → k < w.heap.size
  st : ∀ w w' : World, I w → w.heap.size ≤ w'.heap.size → (∀ k, k < w.heap.size → P k → w'.heap[k]? = w.heap[k]?) → I w'
def Th.box (B : Nat) (o : Obj) : Th := ⟨fun k => k = B, fun w => w.heap[B]? = some o, fun w k h e => by rw [e]; exact smem_lt h, fun w w' h hs hb => (hb B (smem_lt h) rfl).trans h⟩
def Th.low (B : Nat) : Th := ⟨fun _ => False, fun w => B ≤ w.heap.size, fun w k h e => e.elim, fun w w' h hs hb => Nat.le_trans h hs⟩
def Th.mark (B : Nat) : Th := ⟨fun k => k = B, fun w => B < w.heap.size, fun w k h e => by rw [e]; exact h, fun w w' h hs hb => Nat.lt_of_lt_of_le h hs⟩
def Th.row {α : Type} (L : Lies α) (v : Value) (us : List α) : Th := ⟨fun k => 0 < us.length ∧ v.ownBlock = some k, fun w => L.Slice w v us, fun w k h hk => h.foot hk.1 hk.2, fun w w' h hs hb => h.stay0 hs (fun k hk h0 hv => hb k hk ⟨h0, hv⟩)⟩
def Th.mine {α : Type} (L : Lies α) (B : Nat) (v : Value) (us : List α) : Th := ⟨fun k => v.ownBlock = some k, fun w => L.Mine w B v us, fun w k h hk => (h.lt k hk).2, fun w w' h hs hb => h.keep (fun k hk => hb k (h.lt k hk).2 hk)⟩
end Go.Proofs.Ytimlomflgnnmnaa
