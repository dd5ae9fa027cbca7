/-
  A heap of the code, one of the document, and two rows of texts that a statement makes beside them.
-/
import Derived.Test.YtkbmkbmbkmeenaaHeapMoves
namespace Go.Proofs.Ytkbmkbmbkmeenaa
set_option maxRecDepth 20000
open Go.RowKit
set_option linter.unusedVariables false
set_option linter.unusedSimpArgs false

structure Heaps.Rows (C : Heaps) (w0 w : World) (gc gr : Nat) (lc lr : List Ent) (vw : Value) (ws : List ByteArray) (vg : Value) (gs : List ByteArray) : Prop where
  J : C.Joint w0 w gc gr lc lr
  mw : LT.Mine w w0.heap.size vw ws
  mg : LT.Mine w w0.heap.size vg gs
  aw : ToldC C.own w gc vw
  ag : ToldC C.own w gc vg
  ne : ∀ k, vg.ownBlock = some k → vw.ownBlock ≠ some k
section
variable {C : Heaps} {w0 w w' : World} {gc gr : Nat} {lc lc' lr : List Ent} {vw vg vg' : Value} {ws gs gs' : List ByteArray}
theorem told_nil (own : World → Nat → Nat → Prop) (w : World) (g : Nat) : ToldC own w g (.slice none 0 0) := fun k hk => by cases hk
theorem Heaps.Rows.start (h : C.Joint w0 w gc gr lc lr) : C.Rows w0 w gc gr lc lr (.slice none 0 0) [] (.slice none 0 0) [] :=
  ⟨h, Lies.Mine.nil _ _, Lies.Mine.nil _ _, told_nil _ _ _, told_nil _ _ _, fun k hk => by cases hk⟩
theorem Heaps.Rows.swap (h : C.Rows w0 w gc gr lc lr vw ws vg gs) : C.Rows w0 w gc gr lc lr vg gs (.slice none 0 0) [] :=
  ⟨h.J, h.mg, Lies.Mine.nil _ _, h.ag, told_nil _ _ _, fun k hk => by cases hk⟩
theorem Heaps.Rows.codes (h : C.Rows w0 w gc gr lc lr vw ws vg gs) (hc : C.CH w' gc lc') (ht : TurnC C.own w w' gc) : C.Rows w0 w' gc gr lc' lr vw ws vg gs :=
  ⟨h.J.codes hc ht, h.mw.keep fun k hk => ht.block k (h.mw.lt k hk).2 (h.aw k hk), h.mg.keep fun k hk => ht.block k (h.mg.lt k hk).2 (h.ag k hk),
   fun k hk ho => by rcases ht.owns k ho with h1 | h1; exact h.aw k hk h1; have := (h.mw.lt k hk).2; omega,
   fun k hk ho => by rcases ht.owns k ho with h1 | h1; exact h.ag k hk h1; have := (h.mg.lt k hk).2; omega, h.ne⟩
theorem Heaps.Rows.later (h : C.Rows w0 w gc gr lc lr vw ws vg gs) (hb : Below w.heap.size w w') : C.Rows w0 w' gc gr lc lr vw ws vg gs := by
  obtain ⟨_, ho⟩ := C.keep h.J.code hb.size (fun k hk => hb.block k (C.old h.J.code hk))
  exact ⟨h.J.later hb, h.mw.below hb, h.mg.below hb, fun k hk hw => h.aw k hk (ho k hw), fun k hk hw => h.ag k hk (ho k hw), h.ne⟩
theorem Heaps.Rows.drewN (h : C.Rows w0 w gc gr lc lr vw ws vg gs) (d : Nat) : C.Rows w0 (w.drewN d) gc gr lc lr vw ws vg gs := h.later ⟨rfl, rfl, rfl, Nat.le_refl _, fun _ _ => rfl⟩
theorem Heaps.Rows.put (h : C.Rows w0 w gc gr lc lr vw ws vg gs) (hg : w.grownBy w' vg.ownBlock) (hm : LT.Mine w' w0.heap.size vg' gs') (hv : ∀ k, vg'.ownBlock = some k → vg.ownBlock = some k ∨ w.heap.size ≤ k) : C.Rows w0 w' gc gr lc lr vw ws vg' gs' := by
  obtain ⟨hc, ho⟩ := C.keep h.J.code hg.size (fun k hk => hg.block k (C.old h.J.code hk) (fun e => h.ag k e.symm hk))
  refine ⟨⟨hc, h.J.ref.keepB fun k cur T fr hT hh => hg.block k (smem_lt hh) (fun e => ?_), h.J.below.grown hg h.J.below.size (fun k hk => (h.mg.lt k hk).1), fun k hk => h.J.fresh k (ho k hk), h.J.base⟩,
    h.mw.grown hg (fun k hk e => h.ne k e.symm hk), hm, fun k hk hw => h.aw k hk (ho k hw), fun k hk hw => ?_, fun k hk e => ?_⟩
  · rcases h.mg with ⟨rfl, _⟩ | ⟨g, off, cap, cur', rfl, _, hh', _⟩
    · cases e
    · simp only [Value.ownBlock, Option.some.injEq] at e
      subst e
      rw [hh] at hh'
      injection hh' with hh'
      injection hh' with _ hh'
      rcases hT with rfl | rfl
      · exact absurd hh' (by decide)
      · exact absurd hh' (by decide)
  · rcases hv k hk with h1 | h1
    · exact h.ag k h1 (ho k hw)
    · have := C.old h.J.code (ho k hw); omega
  · rcases hv k hk with h1 | h1
    · exact h.ne k h1 e
    · have := (h.mw.lt k e).2; omega
end
theorem due_all {t : Int} : ∀ {l : List Ent}, (∀ x ∈ l, x.tick ≤ t) → dueL t l = l ∧ leftL t l = []
  | [], _ => ⟨rfl, rfl⟩
  | x :: r, h => by
    obtain ⟨h1, h2⟩ := due_all (l := r) (fun y hy => h y (List.mem_cons_of_mem _ hy))
    obtain ⟨e1, e2⟩ := due_step (r := r) (h x List.mem_cons_self)
    rw [e1, e2, h1, h2]
    exact ⟨rfl, rfl⟩
end Go.Proofs.Ytkbmkbmbkmeenaa
