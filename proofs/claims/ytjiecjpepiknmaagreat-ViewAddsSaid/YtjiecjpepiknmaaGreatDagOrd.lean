/-
  Worlds to which blocks have come; positions: the document's Before, Compare.
-/
import Derived.Test.YtjiecjpepiknmaaGreatDagMay
namespace Go.Proofs.YtjiecjpepiknmaaGreat
set_option maxRecDepth 20000
open Go.RowKit
set_option linter.unusedVariables false
set_option linter.unusedSimpArgs false

/-- Blocks have come, and it was drawn; nothing else. -/
def Gr (w w' : World) : Prop := ∃ q os, w' = Sort.grow (w.drewN q) os
variable {w w' w'' : World}
theorem Gr.refl (w : World) : Gr w w := ⟨0, #[], by rw [Sort.grow_empty]; rfl⟩
theorem Gr.trans (h : Gr w w') (h' : Gr w' w'') : Gr w w'' := by
  obtain ⟨q, os, rfl⟩ := h
  obtain ⟨q', os', rfl⟩ := h'
  exact ⟨q + q', os ++ os', by show Sort.grow (Sort.grow ((w.drewN q).drewN q') os) os' = _; rw [Sort.grow_grow, World.drewN_drewN]⟩
theorem Gr.alloc (h : Gr w w') (o : Obj) : Gr w (w'.alloc o) := h.trans ⟨0, #[o], by rw [Sort.alloc_eq_grow]; rfl⟩
theorem Gr.drewN (h : Gr w w') (n : Nat) : Gr w (w'.drewN n) := h.trans ⟨n, #[], by rw [Sort.grow_empty]⟩
theorem Gr.drew (h : Gr w w') : Gr w w'.drew := h.drewN 1
theorem Gr.setCell (h : Gr w w') {b : Nat} (hb : w.heap.size ≤ b) (i : Nat) (u : Value) : Gr w (w'.setCell ⟨b, i, none⟩ u) := by
  obtain ⟨q, os, rfl⟩ := h
  exact ⟨q, _, by rw [Sort.setCell_eq, Sort.mapBlock_grow_new (w.drewN q) os b _ hb]⟩
theorem Gr.below (h : Gr w w') : Below w.heap.size w w' := by
  obtain ⟨q, os, rfl⟩ := h
  exact ⟨rfl, rfl, rfl, by rw [Sort.size_grow]; exact Nat.le_add_right _ _, fun k hk => Sort.heap_grow_old (w.drewN q) os hk⟩

/-- A position. -/
structure Po where
  depth : Int
  id : ByteArray
def beforeP (a b : Po) : Bool := decide (a.depth < b.depth) || (decide (a.depth = b.depth) && Op.bytesLess a.id.toList b.id.toList)
def cmpP (a b : Po) : Int := bif beforeP a b then -1 else bif beforeP b a then 1 else 0
def Po.val (p : Po) : Value := .agg #[.int .i64 p.depth, .string p.id]

theorem refBefore_any (a b : Po) (w : World) : Calls Tryz.prog 57 #[.agg #[.int .i64 a.depth, .string a.id], .agg #[.int .i64 b.depth, .string b.id]] w fun e w' => e = .returned (.bool (beforeP a b)) ∧ Gr w w' := by
  have hu : beforeP a b = (decide (a.depth < b.depth) || (decide (a.depth = b.depth) && Op.bytesLess a.id.toList b.id.toList)) := rfl
  have hg := fun o1 o2 => ((Gr.refl w).alloc o1).alloc o2
  by_cases h1 : a.depth < b.depth
  · have q1 : decide (a.depth < b.depth) = true := decide_eq_true h1
    rw [hu, q1, Bool.true_or]
    clear hu h1
    go_enter Tryz.func57, Tryz.ntmps57
    go_wp2_with fail
    go_ret
    exact ⟨rfl, hg _ _⟩
  · have q1 : decide (a.depth < b.depth) = false := decide_eq_false h1
    rw [hu, q1, Bool.false_or]
    clear hu h1
    by_cases h2 : a.depth = b.depth
    · have q2 : (a.depth == b.depth) = true := by rw [beq_iff_eq]; exact h2
      rw [decide_eq_true h2, Bool.true_and]
      clear h2
      go_enter Tryz.func57, Tryz.ntmps57
      go_wp2_with fail
      go_ret
      exact ⟨rfl, hg _ _⟩
    · have q2 : (a.depth == b.depth) = false := by rw [beq_eq_false_iff_ne]; exact h2
      rw [decide_eq_false h2, Bool.false_and]
      clear h2
      go_enter Tryz.func57, Tryz.ntmps57
      go_wp2_with fail
      go_ret
      exact ⟨rfl, hg _ _⟩

end Go.Proofs.YtjiecjpepiknmaaGreat
