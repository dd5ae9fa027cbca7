/-
  The document's Made: how it lies, what its loops have done so far.
-/
import Derived.Test.YtjiecjpepiknmaaGreatDagArg
namespace Go.Proofs.YtjiecjpepiknmaaGreat
set_option maxRecDepth 20000
open Go.RowKit
set_option linter.unusedVariables false
set_option linter.unusedSimpArgs false

theorem knG : Kn Tryz.prog LG 22 (.agg #[.int .i64 0, .int .i64 0, .slice none 0 0, .int .i64 0]) 48 := ⟨Tryz.underlying22, by kernel_rfl, rfl, by decide⟩
abbrev gps (xs : List GV) : List Gp := xs.map GV.g
/-- While events are made: the answer's block, the dag's block. -/
structure MdS (w wr : World) (B4 B5 : Nat) (room : ByteArray) (v : Value) (xs : List EvV) : Prop where
  ne : B4 ≠ B5
  lo4 : w.heap.size ≤ B4
  lo5 : w.heap.size ≤ B5
  b4 : wr.heap[B4]? = some (.cells #[.string ⟨#[]⟩, .slice none 0 0] 36 (0, 0))
  b5 : wr.heap[B5]? = some (.cells #[.string room, v] 36 (0, 0))
  row : EvsS wr v xs
  below : Below w.heap.size w wr
theorem MdS.on {w wr w2 : World} {B4 B5 : Nat} {room : ByteArray} {v : Value} {xs : List EvV} (h : MdS w wr B4 B5 room v xs) (hb : Below wr.heap.size wr w2) : MdS w w2 B4 B5 room v xs :=
  ⟨h.ne, h.lo4, h.lo5, (hb.block B4 (smem_lt h.b4)).trans h.b4, (hb.block B5 (smem_lt h.b5)).trans h.b5, h.row.below hb, h.below.trans (hb.mono h.below.size)⟩
theorem MdS.start (w : World) (room : ByteArray) : MdS w ((w.alloc (.cells #[.string ⟨#[]⟩, .slice none 0 0] 36)).alloc (.cells #[.string room, .slice none 0 0] 36)) w.heap.size (w.heap.size + 1) room (.slice none 0 0) [] := by
  have s1 : ∀ (u : World) (o : Obj), (u.alloc o).heap.size = u.heap.size + 1 := fun u o => by simp
  refine ⟨by omega, Nat.le_refl _, by omega, ?_, ?_, ⟨Lies.Slice.nil _, fun x hx => absurd hx List.not_mem_nil⟩, ((Gr.refl w).alloc _ |>.alloc _).below⟩
  · rw [heap_alloc_old _ _ (by simp only [s1]; omega)]
    exact heap_alloc_new _ _
  · have := heap_alloc_new (w.alloc (.cells #[.string ⟨#[]⟩, .slice none 0 0] 36)) (.cells #[.string room, .slice none 0 0] 36)
    rw [s1] at this
    exact this

/-- Which of those ahead are parents, of the first n numbers. -/
def onTo (g : Gp) (i n : Nat) : List Bool := (List.range 9).map (fun j => (g.parents.take (min n 3)).any (fun p => decide (aroundN p (i : Int) = j)))
theorem onTo_zero (g : Gp) (i : Nat) : onTo g i 0 = List.replicate 9 false := by
  unfold onTo
  simp only [Nat.zero_min, List.take_zero, List.any_nil]
  rfl
theorem onTo_len (g : Gp) (i n : Nat) : (onTo g i n).length = 9 := by simp [onTo]
theorem onTo_succ {g : Gp} {i n : Nat} {p : Int} (hn : n < 3) (h : g.parents[n]? = some p) (ha : aroundN p (i : Int) < 9) : onTo g i (n + 1) = (onTo g i n).set (aroundN p (i : Int)) true := by
  apply List.ext_getElem?
  intro j
  unfold onTo
  rw [List.getElem?_set, List.getElem?_map, List.getElem?_map, List.length_map, List.length_range, Nat.min_eq_left (by omega), Nat.min_eq_left (by omega), List.take_add_one, h]
  by_cases hj : j < 9
  · rw [List.getElem?_range hj]
    by_cases he : aroundN p (i : Int) = j
    · subst he
      simp [hj]
    · simp [he]
  · rw [List.getElem?_eq_none (by simpa using hj)]
    have : aroundN p (i : Int) ≠ j := by omega
    simp [this]
theorem onTo_all {g : Gp} {i n j : Nat} (hn : n = 3 ∨ n = g.parents.length) (hj : j < 9) (h3 : n ≤ 3) : (onTo g i n)[j]? = some (onP g i j) := by
  unfold onTo onP
  rw [List.getElem?_map, List.getElem?_range hj, Nat.min_eq_left h3]
  simp only [Option.map_some]
  congr 2
  rcases hn with rfl | rfl
  · rfl
  · rw [List.take_length, List.take_of_length_le h3]
/-- Its parents so far. -/
def parsTo (g : Gp) (i k : Nat) : List ByteArray := ((List.range k).filter (onP g i)).map eventK
theorem parsTo_yes {g : Gp} {i k : Nat} (h : onP g i k = true) : parsTo g i (k + 1) = parsTo g i k ++ [eventK k] := by
  unfold parsTo
  rw [List.range_succ, List.filter_append, List.map_append]
  simp [h]
theorem parsTo_no {g : Gp} {i k : Nat} (h : onP g i k = false) : parsTo g i (k + 1) = parsTo g i k := by
  unfold parsTo
  rw [List.range_succ, List.filter_append, List.map_append]
  simp [h]
theorem parsTo_all (g : Gp) (i : Nat) : parsTo g i i = (fromP g i).map eventK := rfl
end Go.Proofs.YtjiecjpepiknmaaGreat
