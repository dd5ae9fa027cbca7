/-
  Whether two lists of texts, two events, two lists of events are the same.
-/
import Derived.Test.YtjiecjpepiknmaaDagAdd
namespace Go.Proofs.Ytjiecjpepiknmaa
set_option maxRecDepth 20000
open Go.RowKit
set_option linter.unusedVariables false
set_option linter.unusedSimpArgs false

theorem same_miss {α : Type} {xs ys : List α} {j : Nat} {x y : α} (hx : xs[j]? = some x) (hy : ys[j]? = some y) (h : x ≠ y) : xs ≠ ys := by
  rintro rfl
  rw [hx] at hy
  injection hy with hy
  exact h hy
theorem same_all {α : Type} {xs ys : List α} (hl : xs.length = ys.length) (h : ∀ (j : Nat) x y, xs[j]? = some x → ys[j]? = some y → x = y) : xs = ys := by
  refine List.ext_getElem? fun j => ?_
  by_cases hj : j < xs.length
  · rw [List.getElem?_eq_getElem hj, List.getElem?_eq_getElem (by omega)]
    exact congrArg some (h j _ _ (List.getElem?_eq_getElem hj) (List.getElem?_eq_getElem (by omega)))
  · rw [List.getElem?_eq_none (by omega), List.getElem?_eq_none (by omega)]
theorem drewN_slice {α : Type} {L : Lies α} {w : World} {v : Value} {xs : List α} (h : L.Slice w v xs) (d : Nat) : L.Slice (w.drewN d) v xs := h


theorem same_ev (a b : Ev) : decide (a = b) = (decide (a.parents = b.parents) && (a.id.toList == b.id.toList) && (a.room.toList == b.room.toList) && (a.thread.toList == b.thread.toList) && (a.user.toList == b.user.toList) && (a.does == b.does)) := by
  rw [Bool.eq_iff_iff]
  simp only [keyB, Bool.and_eq_true, decide_eq_true_eq, beq_iff_eq]
  cases a; cases b
  simp only [Ev.mk.injEq]
  constructor
  · rintro ⟨h1, h2, h3, h4, h5, h6⟩
    exact ⟨⟨⟨⟨⟨h3, h1⟩, h2⟩, h4⟩, h5⟩, h6⟩
  · rintro ⟨⟨⟨⟨⟨h3, h1⟩, h2⟩, h4⟩, h5⟩, h6⟩
    exact ⟨h1, h2, h3, h4, h5, h6⟩
theorem two_boxes (w : World) (c1 c2 : Array Value) (t : TypeId) : ((w.alloc (.cells c1 t)).alloc (.cells c2 t)).heap[w.heap.size]? = some (.cells c1 t (0, 0)) ∧ ((w.alloc (.cells c1 t)).alloc (.cells c2 t)).heap[w.heap.size + 1]? = some (.cells c2 t (0, 0)) := by
  have h2 := heap_alloc_new w (.cells c1 t)
  have h3 := heap_alloc_new (w.alloc (.cells c1 t)) (.cells c2 t)
  rw [show (w.alloc (.cells c1 t)).heap.size = w.heap.size + 1 by simp] at h3
  exact ⟨(heap_alloc_old _ _ (smem_lt h2)).trans h2, h3⟩
theorem val_of {x : EvV} {A : Option Addr} {n cap : Nat} (h : x.pv = .slice A n cap) : x.val = .agg #[.string x.ev.id, .string x.ev.room, .slice A n cap, .string x.ev.thread, .string x.ev.user, .int .i64 x.ev.does] := by unfold EvV.val; rw [h]


theorem evs_len (xs : List EvV) : (evs xs).length = xs.length := by simp [evs]
end Go.Proofs.Ytjiecjpepiknmaa
