/-
  The document's Few: an event's texts cut to 30 bytes, its first six parents.
-/
import Derived.Test.YtjiecjpepiknmaaDagHeads
namespace Go.Proofs.Ytjiecjpepiknmaa
set_option maxRecDepth 20000
open Go.RowKit
set_option linter.unusedVariables false
set_option linter.unusedSimpArgs false

def fewE (e : Ev) : Ev := ⟨fewS e.id 30, fewS e.room 30, (e.parents.take 6).map (fun p => fewS p 30), fewS e.thread 30, fewS e.user 30, e.does⟩
theorem fewE_ok {e : Ev} (h : e.ok) : (fewE e).ok := by
  have k : ∀ s : ByteArray, (fewS s 30).size ≤ maxLen := fun s => Nat.le_trans (fewS_size s 30) (by unfold maxLen; omega)
  refine ⟨k _, k _, k _, k _, fun p hp => ?_, h.2.2.2.2.2⟩
  obtain ⟨q, _, rfl⟩ := List.mem_map.1 hp
  exact k _
theorem few_succ {ps : List ByteArray} {p : ByteArray} {a : Nat} (h : ps[a]? = some p) : (ps.take (a + 1)).map (fun p => fewS p 30) = (ps.take a).map (fun p => fewS p 30) ++ [fewS p 30] := by
  rw [List.take_add_one, h, List.map_append]
  rfl
/-- Two blocks for events: one in hand, one for the answer. -/
structure BxS (w wr : World) (B1 B2 : Nat) (cs : Array Value) : Prop where
  ne : B1 ≠ B2
  lo1 : w.heap.size ≤ B1
  lo2 : w.heap.size ≤ B2
  box : wr.heap[B1]? = some (.cells cs 42 (0, 0))
  res : wr.heap[B2]? = some (.cells #[.string ⟨#[]⟩, .string ⟨#[]⟩, .slice none 0 0, .string ⟨#[]⟩, .string ⟨#[]⟩, .int .i64 0] 42 (0, 0))
  below : Below w.heap.size w wr
theorem BxS.on {w wr w2 : World} {B1 B2 : Nat} {cs : Array Value} (h : BxS w wr B1 B2 cs) (hb : Below wr.heap.size wr w2) : BxS w w2 B1 B2 cs :=
  ⟨h.ne, h.lo1, h.lo2, (hb.block B1 (smem_lt h.box)).trans h.box, (hb.block B2 (smem_lt h.res)).trans h.res, h.below.trans (hb.mono h.below.size)⟩
theorem BxS.set {w wr : World} {B1 B2 : Nat} {cs : Array Value} (h : BxS w wr B1 B2 cs) (i : Nat) (u : Value) : BxS w (wr.setCell ⟨B1, i, none⟩ u) B1 B2 (cs.setIfInBounds i u) :=
  ⟨h.ne, h.lo1, h.lo2, heap_set h.box i u, (Below.heap_setCell wr _ u B2 h.ne.symm).trans h.res, h.below.grown (sm_grown wr B1 i [u]) h.below.size (fun k hk => by injection hk with hk; have := h.lo1; omega)⟩
theorem BxS.start (w : World) (cs : Array Value) : BxS w ((w.alloc (.cells cs 42)).alloc (.cells #[.string ⟨#[]⟩, .string ⟨#[]⟩, .slice none 0 0, .string ⟨#[]⟩, .string ⟨#[]⟩, .int .i64 0] 42)) w.heap.size (w.heap.size + 1) cs := by
  have s1 : ∀ (u : World) (o : Obj), (u.alloc o).heap.size = u.heap.size + 1 := fun u o => by simp
  have h2 := heap_alloc_new w (.cells cs 42)
  have h3 := heap_alloc_new (w.alloc (.cells cs 42)) (.cells #[.string ⟨#[]⟩, .string ⟨#[]⟩, .slice none 0 0, .string ⟨#[]⟩, .string ⟨#[]⟩, .int .i64 0] 42)
  rw [s1] at h3
  refine ⟨by omega, Nat.le_refl _, by omega, ?_, h3, ((Gr.refl w).alloc _ |>.alloc _).below⟩
  rw [heap_alloc_old _ _ (by rw [s1]; omega)]
  exact h2
/-- The answer is laid. -/
theorem BxS.answer {w wr : World} {B1 B2 : Nat} {cs : Array Value} (h : BxS w wr B1 B2 cs) (a0 a1 a2 a3 a4 a5 : Value) : ∀ W, W = wr.setCells B2 0 [a0, a1, a2, a3, a4, a5] → W.cell? ⟨B2, 0, none⟩ = some a0 ∧ W.cell? ⟨B2, 1, none⟩ = some a1 ∧ W.cell? ⟨B2, 2, none⟩ = some a2 ∧ W.cell? ⟨B2, 3, none⟩ = some a3 ∧ W.cell? ⟨B2, 4, none⟩ = some a4 ∧ W.cell? ⟨B2, 5, none⟩ = some a5 ∧ Below w.heap.size w W ∧ wr.grownBy W (some B2) := by
  rintro W rfl
  obtain ⟨cur, z1, z2, z3⟩ := sm_at B2 42 [a0, a1, a2, a3, a4, a5] 0 wr _ h.res (Nat.le_refl 6)
  refine ⟨?_, ?_, ?_, ?_, ?_, ?_, h.below.grown (sm_grown wr B2 0 _) h.below.size (fun k hk => by injection hk with hk; have := h.lo2; omega), sm_grown wr B2 0 _⟩
  · rw [cell_at z1 0, ← Array.getElem?_toList, z3]; rfl
  · rw [cell_at z1 1, ← Array.getElem?_toList, z3]; rfl
  · rw [cell_at z1 2, ← Array.getElem?_toList, z3]; rfl
  · rw [cell_at z1 3, ← Array.getElem?_toList, z3]; rfl
  · rw [cell_at z1 4, ← Array.getElem?_toList, z3]; rfl
  · rw [cell_at z1 5, ← Array.getElem?_toList, z3]; rfl

end Go.Proofs.Ytjiecjpepiknmaa
