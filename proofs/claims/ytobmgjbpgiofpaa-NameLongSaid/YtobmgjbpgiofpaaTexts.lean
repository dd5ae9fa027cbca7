/-
  Small facts for statements that go through a list of texts: the list's cells, a text of one byte, and that nothing that was there is turned.
-/
import Derived.Test.YtobmgjbpgiofpaaMade
namespace Go.Proofs.Ytobmgjbpgiofpaa
open Go.RowKit
set_option linter.unusedVariables false
set_option linter.unusedSimpArgs false

theorem later {w a b : World} (h : Below w.heap.size w a) (k : Below a.heap.size a b) : Below w.heap.size w b := h.trans (k.mono h.size)

/-- The cells of a block hold so many texts of at most 60 bytes each. -/
def TextsAt (w : World) (b n : Nat) : Prop := ∀ j, j < n → ∃ t : ByteArray, w.cell? ⟨b, j, none⟩ = some (.string t) ∧ t.size ≤ 60
theorem TextsAt.later {w w' : World} {b n : Nat} (h : TextsAt w b n) (hb : Below w.heap.size w w') : TextsAt w' b n := fun j hj => by
  obtain ⟨t, hc, hz⟩ := h j hj
  exact ⟨t, cell_later hb hc, hz⟩

/-- Behind all that a round does: the texts are there still, and nothing that was there is turned. -/
def Keeps (w : World) (n : Nat) (w' : World) : Prop := TextsAt w' w.heap.size n ∧ Below w.heap.size w w'
theorem keep_call {w w0 w1 : World} {n : Nat} {p : Addr} {v : Value} (h : w0.cell? p = some v ∧ Keeps w n w0) (hb : Below w0.heap.size w0 w1) : w1.cell? p = some v ∧ Keeps w n w1 :=
  ⟨cell_later hb h.1, h.2.1.later hb, h.2.2.trans (hb.mono h.2.2.size)⟩
theorem keep_drew {w w0 : World} {n : Nat} {p : Addr} {v : Value} (h : w0.cell? p = some v ∧ Keeps w n w0) : w0.drew.cell? p = some v ∧ Keeps w n w0.drew :=
  ⟨h.1, h.2.1, h.2.2.drew⟩

theorem size1 (a : UInt8) : (ByteArray.mk #[a]).size = 1 := rfl
theorem size2 (a b : UInt8) : (ByteArray.mk #[a, b]).size = 2 := rfl

theorem conv_cell (b : Nat) (c : Int) (w : World) (h : w.cell? ⟨b, 0, none⟩ = some (.int .u8 c)) : (convert 25 9 (.slice (some ⟨b, 0, none⟩) 1 1)).run Try.prog w = .ok (.string (byteS c)) w :=
  run_convert_bytes_arg (P := Try.prog) _ 25 5 Try.underlying25 Try.underlying5 b 0 1 1 [c] rfl (fun i hi => by
    obtain rfl : i = 0 := by omega
    exact h) 9 Try.underlying9
theorem conv_1 (c : Int) (w : World) : (convert 25 9 (.slice (some ⟨w.heap.size, 0, none⟩) 1 1)).run Try.prog (w.alloc (.cells #[.int .u8 c] 5)).drew = .ok (.string (byteS c)) (w.alloc (.cells #[.int .u8 c] 5)).drew :=
  conv_cell _ c _ (by simp)
theorem conv_2 (c : Int) (w : World) : (convert 25 9 (.slice (some ⟨w.heap.size, 0, none⟩) 1 1)).run Try.prog ((w.alloc (.cells #[.int .u8 c] 5)).alloc (.cells #[.int .u8 c] 5)).drew = .ok (.string (byteS c)) ((w.alloc (.cells #[.int .u8 c] 5)).alloc (.cells #[.int .u8 c] 5)).drew :=
  conv_cell _ c _ (by simp [World.cell?_alloc_past])
theorem conv_3 (c : Int) (w : World) : (convert 25 9 (.slice (some ⟨w.heap.size + 1, 0, none⟩) 1 1)).run Try.prog ((w.alloc (.cells #[.int .u8 c] 5)).alloc (.cells #[.int .u8 c] 5)).drew = .ok (.string (byteS c)) ((w.alloc (.cells #[.int .u8 c] 5)).alloc (.cells #[.int .u8 c] 5)).drew :=
  conv_cell _ c _ (by simp [World.cell?_alloc_at])
theorem add_any (p q : ByteArray) (hp : p.size ≤ 1000) (hq : q.size ≤ 1000) (w : World) : (Op.stringOp .add p q).run Try.prog w = .ok (.string (p ++ q)) w := run_string_add_sum w p q (by omega)
/-- The same, the block's number given. -/
def KeepsAt (w : World) (b n : Nat) (w' : World) : Prop := TextsAt w' b n ∧ Below w.heap.size w w'
theorem keepAt_call {w w0 w1 : World} {b n : Nat} {p : Addr} {v : Value} (h : w0.cell? p = some v ∧ KeepsAt w b n w0) (hb : Below w0.heap.size w0 w1) : w1.cell? p = some v ∧ KeepsAt w b n w1 :=
  ⟨cell_later hb h.1, h.2.1.later hb, h.2.2.trans (hb.mono h.2.2.size)⟩
theorem keepAt_drew {w w0 : World} {b n : Nat} {p : Addr} {v : Value} (h : w0.cell? p = some v ∧ KeepsAt w b n w0) : w0.drew.cell? p = some v ∧ KeepsAt w b n w0.drew :=
  ⟨h.1, h.2.1, h.2.2.drew⟩
theorem cells_three (w : World) (c : Int) (o : Obj) : (((w.alloc (.cells #[.int .u8 c] 5)).alloc (.cells #[.int .u8 c] 5)).alloc o).drew.cell? ⟨w.heap.size, 0, none⟩ = some (.int .u8 c) ∧ (((w.alloc (.cells #[.int .u8 c] 5)).alloc (.cells #[.int .u8 c] 5)).alloc o).drew.cell? ⟨w.heap.size + 1, 0, none⟩ = some (.int .u8 c) := by
  constructor
  · rw [World.cell?_drew, World.cell?_alloc_past _ _ _ (by simp; omega), World.cell?_alloc_past _ _ _ (by simp), World.cell?_alloc_at _ _ _ _ rfl]; rfl
  · rw [World.cell?_drew, World.cell?_alloc_past _ _ _ (by simp), World.cell?_alloc_at _ _ _ _ (by simp)]; rfl
theorem texts3 (w : World) (ty : TypeId) (b : Nat) (t0 t1 t2 : ByteArray) (hb : b = w.heap.size) (h0 : t0.size ≤ 60) (h1 : t1.size ≤ 60) (h2 : t2.size ≤ 60) :
    TextsAt (w.alloc (.cells #[.string t0, .string t1, .string t2] ty)).drew b 3 := by
  subst hb
  intro j hj
  rcases (show j = 0 ∨ j = 1 ∨ j = 2 by omega) with rfl | rfl | rfl
  · exact ⟨t0, by simp, h0⟩
  · exact ⟨t1, by simp, h1⟩
  · exact ⟨t2, by simp, h2⟩
end Go.Proofs.Ytobmgjbpgiofpaa
