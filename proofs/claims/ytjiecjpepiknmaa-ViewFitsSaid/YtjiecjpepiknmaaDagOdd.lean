/-
  The document's Odd: an event of a dag with one thing another one.
-/
import Derived.Test.YtjiecjpepiknmaaDagFew
namespace Go.Proofs.Ytjiecjpepiknmaa
set_option maxRecDepth 20000
open Go.RowKit
set_option linter.unusedVariables false
set_option linter.unusedSimpArgs false

def lonelyE (room : ByteArray) : Ev := ⟨⟨#[36, 120]⟩, room, [], ⟨#[]⟩, ⟨#[64, 97, 58, 115, 49]⟩, 0⟩
/-- Which event is turned. -/
def baseE (room : ByteArray) (l : List Ev) (k : Int) : Ev := l.getD (aroundN k (l.length : Int)) (lonelyE room)
/-- What is turned. -/
def turnE (x r : Ev) : Nat → Ev
  | 0 => ⟨r.id, x.room, x.parents, x.thread, x.user, x.does⟩
  | 1 => ⟨x.id, r.room, x.parents, x.thread, x.user, x.does⟩
  | 2 => ⟨x.id, x.room, x.parents, x.thread, r.user, x.does⟩
  | 3 => ⟨x.id, x.room, x.parents, r.thread, x.user, x.does⟩
  | 4 => ⟨x.id, x.room, x.parents, x.thread, x.user, r.does⟩
  | 5 => ⟨x.id, x.room, r.parents, x.thread, x.user, x.does⟩
  | 6 => ⟨⟨#[36, 121]⟩, x.room, x.parents, eventS r.does, x.user, 0⟩
  | _ => ⟨⟨#[36, 122]⟩, x.room, [eventS r.does], x.thread, x.user, x.does⟩
def oddE (room : ByteArray) (l : List Ev) (k which : Int) (raw : Ev) : Ev := turnE (baseE room l k) (fewE raw) (aroundN which 8)
theorem eventS_size (n : Int) : (eventS n).size ≤ maxLen := by
  have h : ∀ k : Fin 9, (eventK k.val).size ≤ 3 := by decide +kernel
  have := h ⟨aroundN n 9, aroundN_lt n (m := 9) (by decide)⟩
  unfold maxLen
  exact Nat.le_trans this (by omega)
theorem six_at {wr : World} {b : Nat} {cs : Array Value} {t : TypeId} (h : wr.heap[b]? = some (.cells cs t (0, 0))) (hs : cs.size = 6) (a0 a1 a2 a3 a4 a5 : Value) : (wr.setCells b 0 [a0, a1, a2, a3, a4, a5]).heap[b]? = some (.cells #[a0, a1, a2, a3, a4, a5] t (0, 0)) := by
  obtain ⟨cur, z1, z2, z3⟩ := sm_at b t [a0, a1, a2, a3, a4, a5] 0 wr _ h (by rw [hs]; exact Nat.le_refl 6)
  rw [z1]
  have : cur = #[a0, a1, a2, a3, a4, a5] := by
    apply Array.toList_inj.1
    rw [z3, List.take_zero, List.nil_append, List.drop_of_length_le (by rw [Array.length_toList, hs]; exact Nat.le_refl 6), List.append_nil]
  rw [this]
theorem lit_mine (w : World) (s : ByteArray) : LT.Mine (w.alloc (.cells #[.string s] 9)) w.heap.size (.slice (some ⟨w.heap.size, 0, none⟩) 1 1) [s] :=
  .inr ⟨w.heap.size, 0, 1, #[.string s], rfl, Nat.le_refl _, heap_alloc_new w _, Nat.le_refl _, by unfold maxLen; omega, by simp [LT], rfl⟩
/-- The four blocks of Odd. -/
structure OdS (w wr : World) (B4 B7 B8 B9 : Nat) (room : ByteArray) (v : Value) (rs es : Array Value) : Prop where
  n47 : B4 ≠ B7
  n49 : B4 ≠ B9
  n78 : B7 ≠ B8
  n79 : B7 ≠ B9
  n89 : B8 ≠ B9
  lo7 : w.heap.size ≤ B7
  lo8 : w.heap.size ≤ B8
  lo9 : w.heap.size ≤ B9
  b4 : wr.heap[B4]? = some (.cells #[.string room, v] 51 (0, 0))
  b7 : wr.heap[B7]? = some (.cells rs 42 (0, 0))
  b8 : wr.heap[B8]? = some (.cells #[.string ⟨#[]⟩, .string ⟨#[]⟩, .slice none 0 0, .string ⟨#[]⟩, .string ⟨#[]⟩, .int .i64 0] 42 (0, 0))
  b9 : wr.heap[B9]? = some (.cells es 42 (0, 0))
  below : Below w.heap.size w wr
section
variable {w wr w2 : World} {B4 B7 B8 B9 : Nat} {room : ByteArray} {v : Value} {rs es : Array Value}
theorem OdS.on (h : OdS w wr B4 B7 B8 B9 room v rs es) (hb : Below wr.heap.size wr w2) : OdS w w2 B4 B7 B8 B9 room v rs es :=
  ⟨h.n47, h.n49, h.n78, h.n79, h.n89, h.lo7, h.lo8, h.lo9, (hb.block B4 (smem_lt h.b4)).trans h.b4, (hb.block B7 (smem_lt h.b7)).trans h.b7, (hb.block B8 (smem_lt h.b8)).trans h.b8, (hb.block B9 (smem_lt h.b9)).trans h.b9, h.below.trans (hb.mono h.below.size)⟩
theorem OdS.set (h : OdS w wr B4 B7 B8 B9 room v rs es) (i : Nat) (u : Value) : OdS w (wr.setCell ⟨B9, i, none⟩ u) B4 B7 B8 B9 room v rs (es.setIfInBounds i u) :=
  ⟨h.n47, h.n49, h.n78, h.n79, h.n89, h.lo7, h.lo8, h.lo9, (Below.heap_setCell wr _ u B4 h.n49).trans h.b4, (Below.heap_setCell wr _ u B7 h.n79).trans h.b7, (Below.heap_setCell wr _ u B8 h.n89).trans h.b8, heap_set h.b9 i u, h.below.grown (sm_grown wr B9 i [u]) h.below.size (fun k hk => by injection hk with hk; have := h.lo9; omega)⟩
theorem OdS.set9 (h : OdS w wr B4 B7 B8 B9 room v rs es) (hs : es.size = 6) (a0 a1 a2 a3 a4 a5 : Value) : OdS w (wr.setCells B9 0 [a0, a1, a2, a3, a4, a5]) B4 B7 B8 B9 room v rs #[a0, a1, a2, a3, a4, a5] :=
  ⟨h.n47, h.n49, h.n78, h.n79, h.n89, h.lo7, h.lo8, h.lo9, (sm_far B9 B4 h.n49 _ 0 wr).trans h.b4, (sm_far B9 B7 h.n79 _ 0 wr).trans h.b7, (sm_far B9 B8 h.n89 _ 0 wr).trans h.b8, six_at h.b9 hs .., h.below.grown (sm_grown wr B9 0 _) h.below.size (fun k hk => by injection hk with hk; have := h.lo9; omega)⟩
theorem OdS.set7 (h : OdS w wr B4 B7 B8 B9 room v rs es) (hs : rs.size = 6) (a0 a1 a2 a3 a4 a5 : Value) : OdS w (wr.setCells B7 0 [a0, a1, a2, a3, a4, a5]) B4 B7 B8 B9 room v #[a0, a1, a2, a3, a4, a5] es :=
  ⟨h.n47, h.n49, h.n78, h.n79, h.n89, h.lo7, h.lo8, h.lo9, (sm_far B7 B4 h.n47 _ 0 wr).trans h.b4, six_at h.b7 hs .., (sm_far B7 B8 h.n78.symm _ 0 wr).trans h.b8, (sm_far B7 B9 h.n79.symm _ 0 wr).trans h.b9, h.below.grown (sm_grown wr B7 0 _) h.below.size (fun k hk => by injection hk with hk; have := h.lo7; omega)⟩
theorem OdS.start (w : World) (room : ByteArray) (v : Value) (rs es : Array Value) : OdS w ((((w.alloc (.cells #[.string room, v] 51)).alloc (.cells rs 42)).alloc (.cells #[.string ⟨#[]⟩, .string ⟨#[]⟩, .slice none 0 0, .string ⟨#[]⟩, .string ⟨#[]⟩, .int .i64 0] 42)).alloc (.cells es 42)) w.heap.size (w.heap.size + 1) (w.heap.size + 1 + 1) (w.heap.size + 1 + 1 + 1) room v rs es := by
  have s1 : ∀ (u : World) (o : Obj), (u.alloc o).heap.size = u.heap.size + 1 := fun u o => by simp
  refine ⟨by omega, by omega, by omega, by omega, by omega, by omega, by omega, by omega, ?_, ?_, ?_, ?_, ((Gr.refl w).alloc _ |>.alloc _ |>.alloc _ |>.alloc _).below⟩
  · rw [heap_alloc_old _ _ (by simp only [s1]; omega), heap_alloc_old _ _ (by simp only [s1]; omega), heap_alloc_old _ _ (by simp only [s1]; omega)]
    exact heap_alloc_new _ _
  · rw [heap_alloc_old _ _ (by simp only [s1]; omega), heap_alloc_old _ _ (by simp only [s1]; omega), show w.heap.size + 1 = (w.alloc (.cells #[.string room, v] 51)).heap.size by simp only [s1]]
    exact heap_alloc_new _ _
  · rw [heap_alloc_old _ _ (by simp only [s1]; omega), show w.heap.size + 1 + 1 = ((w.alloc (.cells #[.string room, v] 51)).alloc (.cells rs 42)).heap.size by simp only [s1]]
    exact heap_alloc_new _ _
  · have := heap_alloc_new (((w.alloc (.cells #[.string room, v] 51)).alloc (.cells rs 42)).alloc (.cells #[.string ⟨#[]⟩, .string ⟨#[]⟩, .slice none 0 0, .string ⟨#[]⟩, .string ⟨#[]⟩, .int .i64 0] 42)) (.cells es 42)
    simp only [s1] at this
    exact this
/-- The answer is laid. -/
theorem OdS.answer (h : OdS w wr B4 B7 B8 B9 room v rs es) (a0 a1 a2 a3 a4 a5 : Value) : ∀ W, W = wr.setCells B8 0 [a0, a1, a2, a3, a4, a5] → W.cell? ⟨B8, 0, none⟩ = some a0 ∧ W.cell? ⟨B8, 1, none⟩ = some a1 ∧ W.cell? ⟨B8, 2, none⟩ = some a2 ∧ W.cell? ⟨B8, 3, none⟩ = some a3 ∧ W.cell? ⟨B8, 4, none⟩ = some a4 ∧ W.cell? ⟨B8, 5, none⟩ = some a5 ∧ Below w.heap.size w W ∧ wr.grownBy W (some B8) := by
  rintro W rfl
  have z1 := six_at h.b8 rfl a0 a1 a2 a3 a4 a5
  exact ⟨cell_at z1 0, cell_at z1 1, cell_at z1 2, cell_at z1 3, cell_at z1 4, cell_at z1 5, h.below.grown (sm_grown wr B8 0 _) h.below.size (fun k hk => by injection hk with hk; have := h.lo8; omega), sm_grown wr B8 0 _⟩
end

end Go.Proofs.Ytjiecjpepiknmaa
