/-
  Worlds to which blocks have come; positions: the document's Before, Compare.
-/
import Derived.Test.YtgeinmokkmipjaaDagMay
namespace Go.Proofs.Ytgeinmokkmipjaa
set_option maxRecDepth 20000
open Go.RowKit
set_option linter.unusedVariables false
set_option linter.unusedSimpArgs false

/-- Blocks have come, and it was drawn; nothing else. -/
def Gr (w w' : World) : Prop := ∃ q os, w' = Sort.grow (w.drewN q) os
variable {w w' w'' : World}
theorem Gr.refl (w : World) : Gr w w := ⟨0, #[], by rw [Sort.grow_empty]; rfl⟩
theorem Gr.trans (h : Gr w w') (h' : Gr w' w'') : Gr w w'' := by
  obtain ⟨q, os, rfl⟩ := h
  obtain ⟨q', os', rfl⟩ := h'
  exact ⟨q + q', os ++ os', by show Sort.grow (Sort.grow ((w.drewN q).drewN q') os) os' = _; rw [Sort.grow_grow, World.drewN_drewN]⟩
theorem Gr.alloc (h : Gr w w') (o : Obj) : Gr w (w'.alloc o) := h.trans ⟨0, #[o], by rw [Sort.alloc_eq_grow]; rfl⟩
theorem Gr.drewN (h : Gr w w') (n : Nat) : Gr w (w'.drewN n) := h.trans ⟨n, #[], by rw [Sort.grow_empty]⟩
theorem Gr.drew (h : Gr w w') : Gr w w'.drew := h.drewN 1
theorem Gr.setCell (h : Gr w w') {b : Nat} (hb : w.heap.size ≤ b) (i : Nat) (u : Value) : Gr w (w'.setCell ⟨b, i, none⟩ u) := by
  obtain ⟨q, os, rfl⟩ := h
  exact ⟨q, _, by rw [Sort.setCell_eq, Sort.mapBlock_grow_new (w.drewN q) os b _ hb]⟩
theorem Gr.below (h : Gr w w') : Below w.heap.size w w' := by
  obtain ⟨q, os, rfl⟩ := h
  exact ⟨rfl, rfl, rfl, by rw [Sort.size_grow]; exact Nat.le_add_right _ _, fun k hk => Sort.heap_grow_old (w.drewN q) os hk⟩

/-- A position. -/
structure Po where
  depth : Int
  id : ByteArray
def beforeP (a b : Po) : Bool := decide (a.depth < b.depth) || (decide (a.depth = b.depth) && Op.bytesLess a.id.toList b.id.toList)
def cmpP (a b : Po) : Int := bif beforeP a b then -1 else bif beforeP b a then 1 else 0
def Po.val (p : Po) : Value := .agg #[.int .i64 p.depth, .string p.id]

theorem refBefore_any (a b : Po) (w : World) : Calls Try.prog 43 #[.agg #[.int .i64 a.depth, .string a.id], .agg #[.int .i64 b.depth, .string b.id]] w fun e w' => e = .returned (.bool (beforeP a b)) ∧ Gr w w' := by
  have hu : beforeP a b = (decide (a.depth < b.depth) || (decide (a.depth = b.depth) && Op.bytesLess a.id.toList b.id.toList)) := rfl
  have hg := fun o1 o2 => ((Gr.refl w).alloc o1).alloc o2
  by_cases h1 : a.depth < b.depth
  · have q1 : decide (a.depth < b.depth) = true := decide_eq_true h1
    rw [hu, q1, Bool.true_or]
    clear hu h1
    go_enter Try.func43, Try.ntmps43
    go_wp2_with fail
    go_ret
    exact ⟨rfl, hg _ _⟩
  · have q1 : decide (a.depth < b.depth) = false := decide_eq_false h1
    rw [hu, q1, Bool.false_or]
    clear hu h1
    by_cases h2 : a.depth = b.depth
    · have q2 : (a.depth == b.depth) = true := by rw [beq_iff_eq]; exact h2
      rw [decide_eq_true h2, Bool.true_and]
      clear h2
      go_enter Try.func43, Try.ntmps43
      go_wp2_with fail
      go_ret
      exact ⟨rfl, hg _ _⟩
    · have q2 : (a.depth == b.depth) = false := by rw [beq_eq_false_iff_ne]; exact h2
      rw [decide_eq_false h2, Bool.false_and]
      clear h2
      go_enter Try.func43, Try.ntmps43
      go_wp2_with fail
      go_ret
      exact ⟨rfl, hg _ _⟩

theorem refCompare_any (a b : Po) (w : World) : Calls Try.prog 19 #[.agg #[.int .i64 a.depth, .string a.id], .agg #[.int .i64 b.depth, .string b.id]] w fun e w' => e = .returned (.int .i64 (cmpP a b)) ∧ Gr w w' := by
  have hu : cmpP a b = bif beforeP a b then -1 else bif beforeP b a then 1 else 0 := rfl
  have e1 := fun W => refBefore_any a b W
  have e2 := fun W => refBefore_any b a W
  have hg := Lib.hid (fun o1 o2 => ((Gr.refl w).alloc o1).alloc o2)
  rw [hu]
  clear hu
  go_enter Try.func19, Try.ntmps19
  have HB2 := Lib.hid (heap_alloc_new w (.cells #[.int .i64 a.depth, .string a.id] 39))
  have HB3 := Lib.hid (heap_alloc_new (w.alloc (.cells #[.int .i64 a.depth, .string a.id] 39)) (.cells #[.int .i64 b.depth, .string b.id] 39))
  replace HB2 := Lib.hid ((heap_alloc_old (w.alloc (.cells #[.int .i64 a.depth, .string a.id] 39)) (.cells #[.int .i64 b.depth, .string b.id] 39) (smem_lt HB2.out)).trans HB2.out)
  rw [show (w.alloc (.cells #[.int .i64 a.depth, .string a.id] 39)).heap.size = w.heap.size + 1 by simp] at HB3
  replace hg := Lib.hid (hg.out (.cells #[.int .i64 a.depth, .string a.id] 39) (.cells #[.int .i64 b.depth, .string b.id] 39))
  go_wp2_with fail
  generalize World.alloc _ _ = w1 at HB2 HB3 hg ⊢
  generalize w.heap.size + 1 = B3 at HB3 ⊢
  generalize w.heap.size = B2 at HB2 ⊢
  refine (e1 _).mono ?_
  rintro e w2 ⟨rfl, g2⟩
  replace HB2 := Lib.hid ((g2.below.block B2 (smem_lt HB2.out)).trans HB2.out)
  replace HB3 := Lib.hid ((g2.below.block B3 (smem_lt HB3.out)).trans HB3.out)
  replace hg := Lib.hid (hg.out.trans g2)
  have c0 : w2.cell? ⟨B2, 0, none⟩ = some (.int .i64 a.depth) := cell_at HB2.out 0
  have c1 : w2.cell? ⟨B2, 1, none⟩ = some (.string a.id) := cell_at HB2.out 1
  have c2 : w2.cell? ⟨B3, 0, none⟩ = some (.int .i64 b.depth) := cell_at HB3.out 0
  have c3 : w2.cell? ⟨B3, 1, none⟩ = some (.string b.id) := cell_at HB3.out 1
  clear g2
  cases hab : beforeP a b
  · go_wp2_with fail
    refine (e2 _).mono ?_
    rintro e w3 ⟨rfl, g3⟩
    replace hg := Lib.hid (hg.out.trans g3)
    clear g3
    cases hba : beforeP b a
    all_goals
      go_wp2_with fail
      go_ret
      rw [hab, hba]
      exact ⟨rfl, hg.out⟩
  · go_wp2_with fail
    go_ret
    rw [hab]
    exact ⟨rfl, hg.out⟩
end Go.Proofs.Ytgeinmokkmipjaa
