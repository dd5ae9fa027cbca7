/-
  How events, texts and dags of the document lie in memory.
-/
import Derived.Test.YtjiecjpepiknmaaGreatDagP
import Derived.Test.YtjiecjpepiknmaaGreatSPut
namespace Go.Proofs.YtjiecjpepiknmaaGreat
set_option maxRecDepth 20000
open Go.RowKit
set_option linter.unusedVariables false
set_option linter.unusedSimpArgs false

/-- How texts lie. -/
def LT : Lies ByteArray := ⟨9, 1, fun x => [.string x], fun _ => rfl, fun x u hu => by
  simp only [List.mem_cons, List.not_mem_nil, or_false] at hu
  subst hu; rfl⟩
theorem knT : Kn Tryz.prog LT 31 (.string ⟨#[]⟩) 16 := ⟨Tryz.underlying31, by kernel_rfl, rfl, by decide⟩
/-- An event, and where its parents lie. -/
structure EvV where
  ev : Ev
  A : Option Addr
  cap : Nat
def EvV.pv (x : EvV) : Value := .slice x.A x.ev.parents.length x.cap
def EvV.cells (x : EvV) : List Value := [.string x.ev.id, .string x.ev.room, x.pv, .string x.ev.thread, .string x.ev.user, .int .i64 x.ev.does]
def EvV.val (x : EvV) : Value := .agg #[.string x.ev.id, .string x.ev.room, x.pv, .string x.ev.thread, .string x.ev.user, .int .i64 x.ev.does]
def LV : Lies EvV := ⟨33, 6, EvV.cells, fun _ => rfl, fun x u hu => by
  simp only [EvV.cells, EvV.pv, List.mem_cons, List.not_mem_nil, or_false] at hu
  rcases hu with rfl | rfl | rfl | rfl | rfl | rfl <;> rfl⟩
theorem knV : Kn Tryz.prog LV 23 (.agg #[.string ⟨#[]⟩, .string ⟨#[]⟩, .slice none 0 0, .string ⟨#[]⟩, .string ⟨#[]⟩, .int .i64 0]) 96 := ⟨Tryz.underlying23, by kernel_rfl, rfl, by decide⟩
/-- Its parents lie there, and it is as it can be. -/
def EvV.at (x : EvV) (w : World) : Prop := LT.Slice w x.pv x.ev.parents ∧ x.ev.ok
theorem EvV.at.below {x : EvV} {w w' : World} (h : x.at w) (hb : Below w.heap.size w w') : x.at w' := ⟨h.1.below hb, h.2⟩
/-- A list of events, of whatever memory. -/
def EvsS (w : World) (v : Value) (xs : List EvV) : Prop := LV.Slice w v xs ∧ ∀ x ∈ xs, x.at w
theorem EvsS.below {w w' : World} {v : Value} {xs : List EvV} (h : EvsS w v xs) (hb : Below w.heap.size w w') : EvsS w' v xs := ⟨h.1.below hb, fun x hx => (h.2 x hx).below hb⟩
theorem EvsS.drewN {w : World} {v : Value} {xs : List EvV} (h : EvsS w v xs) (n : Nat) : EvsS (w.drewN n) v xs := h.below ⟨rfl, rfl, rfl, Nat.le_refl _, fun _ _ => rfl⟩
abbrev evs (xs : List EvV) : List Ev := xs.map EvV.ev
/-- A text of a list. -/
theorem text_at {w : World} {A : Option Addr} {n cap i : Nat} {xs : List ByteArray} {x : ByteArray} (h : LT.Slice w (.slice A n cap) xs) (hi : xs[i]? = some x) : ∃ b off, A = some ⟨b, off, none⟩ ∧ b < w.heap.size ∧ w.cell? ⟨b, off + i, none⟩ = some (.string x) := by
  obtain ⟨b, off, hA, hb, hr⟩ := h.at hi
  refine ⟨b, off, hA, hb, ?_⟩
  have := hr 0 _ rfl
  simpa [LT] using this
/-- An event's cells. -/
theorem ev_cells {w : World} {b o : Nat} {x : EvV} (h : w.rangeAt b o x.cells) : w.cell? ⟨b, o, none⟩ = some (.string x.ev.id) ∧ w.cell? ⟨b, o + 1, none⟩ = some (.string x.ev.room) ∧ w.cell? ⟨b, o + 2, none⟩ = some x.pv ∧ w.cell? ⟨b, o + 3, none⟩ = some (.string x.ev.thread) ∧ w.cell? ⟨b, o + 4, none⟩ = some (.string x.ev.user) ∧ w.cell? ⟨b, o + 5, none⟩ = some (.int .i64 x.ev.does) :=
  ⟨h 0 _ rfl, h 1 _ rfl, h 2 _ rfl, h 3 _ rfl, h 4 _ rfl, h 5 _ rfl⟩
theorem ev_at {w : World} {A : Option Addr} {n cap i : Nat} {xs : List EvV} {x : EvV} (h : EvsS w (.slice A n cap) xs) (hi : xs[i]? = some x) : ∃ b off, A = some ⟨b, off, none⟩ ∧ b < w.heap.size ∧ w.rangeAt b (off + i * 6) x.cells := h.1.at hi
/-- A struct that is boxed. -/
theorem box_new {w : World} (cs : Array Value) (t : TypeId) : (w.alloc (.cells cs t)).heap[w.heap.size]? = some (.cells cs t (0, 0)) := heap_alloc_new w _
theorem lit_slice {α : Type} {L : Lies α} (w : World) (x : α) (B : Nat) (hB : B = w.heap.size) (cs : Array Value) (hc : cs.toList = L.cl x) : L.Slice (w.alloc (.cells cs L.e)) (.slice (some ⟨B, 0, none⟩) 1 1) [x] := by
  subst hB
  refine ⟨_, 1, rfl, Nat.le_refl _, by unfold maxLen; omega, (fun e => by cases e), fun _ => ⟨_, 0, rfl, by simp, fun j u hu => ?_⟩⟩
  rw [Nat.zero_add, cell_of_row _ _ _ _ _ _ (heap_alloc_new w _), ← Array.getElem?_toList, hc]
  rw [L.vs_sing] at hu
  exact hu
end Go.Proofs.YtjiecjpepiknmaaGreat
