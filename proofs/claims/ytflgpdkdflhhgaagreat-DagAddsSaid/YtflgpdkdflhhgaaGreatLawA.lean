/-
  What a statement keeps beside a dag of the code: boxes, events, lists of events, that are none of the dag's own.
-/
import Derived.Test.YtflgpdkdflhhgaaGreatLike
import Derived.Test.YtflgpdkdflhhgaaGreatDagMade
import Derived.Test.YtflgpdkdflhhgaaGreatDagOdd
namespace Go.Proofs.YtflgpdkdflhhgaaGreat
set_option maxRecDepth 20000
open Go.RowKit
set_option linter.unusedVariables false
set_option linter.unusedSimpArgs false

def roomR : ByteArray := ⟨#[33, 114, 58, 115, 49]⟩
theorem roomR_room : namedB 33 roomR = true := by decide +kernel
theorem roomR_size : roomR.size ≤ maxLen := by decide
/-- An event is stored in its box. -/
theorem evk_stored {w0 wr : World} {B7 : Nat} (hb : Below w0.heap.size w0 wr) (hlo : w0.heap.size ≤ B7) (hr : wr.heap[B7]? = some (.cells #[.string ⟨#[]⟩, .string ⟨#[]⟩, .slice none 0 0, .string ⟨#[]⟩, .string ⟨#[]⟩, .int .i64 0] 33 (0, 0))) (y : EvV) :
    ∀ W, W = wr.setCells B7 0 [.string y.ev.id, .string y.ev.room, .slice y.A y.ev.parents.length y.cap, .string y.ev.thread, .string y.ev.user, .int .i64 y.ev.does] → Below w0.heap.size w0 W ∧ W.heap[B7]? = some (.cells #[.string y.ev.id, .string y.ev.room, .slice y.A y.ev.parents.length y.cap, .string y.ev.thread, .string y.ev.user, .int .i64 y.ev.does] 33 (0, 0)) ∧ wr.grownBy W (some B7) := by
  rintro W rfl
  obtain ⟨cur, z1, z2, z3⟩ := sm_at B7 33 [.string y.ev.id, .string y.ev.room, .slice y.A y.ev.parents.length y.cap, .string y.ev.thread, .string y.ev.user, .int .i64 y.ev.does] 0 wr _ hr (Nat.le_refl 6)
  have z5 : cur = #[.string y.ev.id, .string y.ev.room, .slice y.A y.ev.parents.length y.cap, .string y.ev.thread, .string y.ev.user, .int .i64 y.ev.does] := Array.toList_inj.1 z3
  rw [z5] at z1
  exact ⟨hb.grown (sm_grown wr B7 0 _) hb.size (fun k hk => by injection hk with hk; omega), z1, sm_grown wr B7 0 _⟩
section
variable {C : Dags} {w W W' : World} {g B : Nat} {room : ByteArray} {l l' : List Ev} {v : Value} {xs : List EvV} {x : EvV} {o : Obj}
theorem Dags.grow (hc : C.CD W g room l) (hb : Below W.heap.size W W') : C.CD W' g room l ∧ TurnD C.own W W' g ∧ ∀ k, C.own W' g k → k < W.heap.size := by
  obtain ⟨h1, h2⟩ := C.keep hc hb.size (fun k hk => hb.block k (C.old hc hk))
  exact ⟨h1, ⟨hb.os, hb.tape, hb.output, hb.size, fun k hk _ => hb.block k hk, fun k hk => .inl (h2 k hk)⟩, fun k hk => C.old hc (h2 k hk)⟩
/-- A box that is none of the dag's own. -/
def BoxK (C : Dags) (W : World) (g B : Nat) (o : Obj) : Prop := W.heap[B]? = some o ∧ ¬ C.own W g B
theorem BoxK.turn (h : BoxK C W g B o) (ht : TurnD C.own W W' g) : BoxK C W' g B o := by
  have hl := smem_lt h.1
  refine ⟨(ht.block B hl h.2).trans h.1, fun ho => ?_⟩
  rcases ht.owns B ho with hh | hh
  · exact h.2 hh
  · omega
/-- An event that is none of the dag's own. -/
def EvK (C : Dags) (W : World) (g : Nat) (x : EvV) : Prop := x.at W ∧ ∀ k, footV x k → ¬ C.own W g k
theorem EvK.turn (h : EvK C W g x) (ht : TurnD C.own W W' g) : EvK C W' g x := by
  refine ⟨h.1.stay0 ht.size (fun k hk hf => ht.block k hk (h.2 k hf)), fun k hf ho => ?_⟩
  have hl := h.1.foot hf
  rcases ht.owns k ho with hh | hh
  · exact h.2 k hf hh
  · omega
/-- Events that are none of the dag's own. -/
def EvsK (C : Dags) (W : World) (g : Nat) (v : Value) (xs : List EvV) : Prop := EvsS W v xs ∧ ∀ k, footE v xs k → ¬ C.own W g k
theorem EvsK.turn (h : EvsK C W g v xs) (ht : TurnD C.own W W' g) : EvsK C W' g v xs := by
  refine ⟨(Dags.stays h.1 h.2 ht).1, fun k hf ho => ?_⟩
  have hl := h.1.foot hf
  rcases ht.owns k ho with hh | hh
  · exact h.2 k hf hh
  · omega
theorem EvsK.ev (h : EvsK C W g v xs) (hx : x ∈ xs) : EvK C W g x := ⟨h.1.2 x hx, fun k hk => h.2 k (.inr ⟨x, hx, hk⟩)⟩
/-- What the document makes lies beside. -/
theorem EvK.odd (h : EvsK C W g v xs) (hc : C.CD W g room l) (hb : Below W.heap.size W W') (hx : x.at W') (hf : ∀ j, x.pv.ownBlock = some j → (∃ z ∈ xs, z.pv.ownBlock = some j ∧ z.ev.parents = x.ev.parents) ∨ W.heap.size ≤ j) : EvK C W' g x := by
  obtain ⟨h1, h2, h3⟩ := Dags.grow hc hb
  refine ⟨hx, fun k hk ho => ?_⟩
  have h4 := h3 k ho
  rcases hf k hk.2 with ⟨z, hz, hzk, hzp⟩ | hh
  · exact (h.turn h2).2 k (.inr ⟨z, hz, by rw [hzp]; exact hk.1, hzk⟩) ho
  · omega
theorem BoxK.new (hc : C.CD W g room l) (hb : Below W.heap.size W W') (h : W'.heap[B]? = some o) (hB : W.heap.size ≤ B) : BoxK C W' g B o := ⟨h, fun ho => by
  have := (Dags.grow hc hb).2.2 B ho
  omega⟩
theorem BdS.kept (h : BdS C w W g room l) (he : EvsS w v xs) : EvsK C W g v xs := ⟨he.below h.below, fun k hk ho => by
  have h1 := he.foot hk
  have h2 := h.fresh k ho
  omega⟩
theorem BdS.box (h : BdS C w W g room l) (he : w.heap[B]? = some o) : BoxK C W g B o := ⟨(h.below.block B (smem_lt he)).trans he, fun ho => by
  have h1 := smem_lt he
  have h2 := h.fresh B ho
  omega⟩
theorem BdS.ev (h : BdS C w W g room l) (he : x.at w) : EvK C W g x := ⟨he.below h.below, fun k hk ho => by
  have h1 := he.foot hk
  have h2 := h.fresh k ho
  omega⟩
end
end Go.Proofs.YtflgpdkdflhhgaaGreat
