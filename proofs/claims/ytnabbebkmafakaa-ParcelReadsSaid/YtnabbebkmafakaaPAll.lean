/-
  A slice of parcels that a statement makes: its elements, wherever they lie.
-/
import Derived.Test.YtnabbebkmafakaaPKit
namespace Go.Proofs.Ytnabbebkmafakaa
set_option maxRecDepth 20000
open Go.RowKit
set_option linter.unusedVariables false
set_option linter.unusedSimpArgs false

def parCells (p : Par) (A : Option Addr) (c : Nat) : List Value := [.bool p.ack, .string p.frm, .string p.dest, .int .i64 p.id, .slice A p.edus.length c]
/-- Each of the first n elements lies there, and its EDUs. -/
def AllP (w : World) (b n : Nat) (F : Nat → Par) (Av : Nat → Option Addr) (Cv : Nat → Nat) (w' : World) : Prop :=
  Below w.heap.size w w' ∧ ∀ j, j < n → w'.rangeAt b (j * 5) (parCells (F j) (Av j) (Cv j)) ∧ MadeE w' w.heap.size (.slice (Av j) (F j).edus.length (Cv j)) (F j).edus
section
variable {w w' w'' : World} {b n : Nat} {F : Nat → Par} {Av : Nat → Option Addr} {Cv : Nat → Nat}
theorem AllP.later (h : AllP w b n F Av Cv w') (hb : Below w'.heap.size w' w'') : AllP w b n F Av Cv w'' :=
  ⟨Go.Proofs.Ytnabbebkmafakaa.later h.1 hb, fun j hj => ⟨range_below (h.2 j hj).1 hb, (h.2 j hj).2.below hb⟩⟩
theorem AllP.drew (h : AllP w b n F Av Cv w') : AllP w b n F Av Cv w'.drew := ⟨h.1.drew, h.2⟩
theorem AllP.below (h : AllP w b n F Av Cv w') : Below w.heap.size w w' := h.1
theorem AllP.at (h : AllP w b n F Av Cv w') {j : Nat} (hj : j < n) : w'.cell? ⟨b, j * 5, none⟩ = some (.bool (F j).ack) ∧ w'.cell? ⟨b, j * 5 + 1, none⟩ = some (.string (F j).frm) ∧ w'.cell? ⟨b, j * 5 + 2, none⟩ = some (.string (F j).dest) ∧ w'.cell? ⟨b, j * 5 + 3, none⟩ = some (.int .i64 (F j).id) ∧ w'.cell? ⟨b, j * 5 + 4, none⟩ = some (.slice (Av j) (F j).edus.length (Cv j)) :=
  ⟨(h.2 j hj).1 0 _ rfl, (h.2 j hj).1 1 _ rfl, (h.2 j hj).1 2 _ rfl, (h.2 j hj).1 3 _ rfl, (h.2 j hj).1 4 _ rfl⟩
theorem AllP.edus (h : AllP w b n F Av Cv w') {j : Nat} (hj : j < n) : EdusAt w' (Av j) (F j).edus.length (F j).edus ∧ (F j).edus.length ≤ maxLen := made_at (h.2 j hj).2
end
theorem index_par {b len cap i : Nat} (hi : i < len) (w : World) : (Instr.indexAt 27 (.slice (some ⟨b, 0, none⟩) len cap) (.int .i64 (i : Int))).run Try.prog w = .ok (.pointer (some ⟨b, i * 5, none⟩)) w := by
  obtain ⟨i0, hi0, hz0⟩ := Option.map_eq_some_iff.1 parR_size
  have h1 : (0 : Int) ≤ (i : Int) ∧ (i : Int) < (len : Int) := by omega
  simp [Instr.indexAt, asIntOf, run_underlying Try.underlying27, sizeOf, typeInfo, hi0, hz0, h1, Addr.add_lit]
  intro h
  omega
/-- One of four. -/
def sel4 {α : Type} (a b c d : α) : Nat → α
  | 0 => a
  | 1 => b
  | 2 => c
  | _ => d
theorem range_of {w : World} {b : Nat} {cur : Array Value} {t : TypeId} (h : w.heap[b]? = some (.cells cur t (0, 0))) {o : Nat} {cs : List Value} (hc : ∀ j, j < cs.length → cur[o + j]? = cs[j]?) : w.rangeAt b o cs := by
  intro j v hv
  rw [cell_at h (o + j), hc j (List.getElem?_eq_some_iff.1 hv).1, hv]
theorem all4 {w w' : World} {b : Nat} {t : TypeId} (p0 p1 p2 p3 : Par) (A0 A1 A2 A3 : Option Addr) (c0 c1 c2 c3 : Nat) (hb : Below w.heap.size w w')
    (h : w'.heap[b]? = some (.cells #[.bool p0.ack, .string p0.frm, .string p0.dest, .int .i64 p0.id, .slice A0 p0.edus.length c0, .bool p1.ack, .string p1.frm, .string p1.dest, .int .i64 p1.id, .slice A1 p1.edus.length c1, .bool p2.ack, .string p2.frm, .string p2.dest, .int .i64 p2.id, .slice A2 p2.edus.length c2, .bool p3.ack, .string p3.frm, .string p3.dest, .int .i64 p3.id, .slice A3 p3.edus.length c3] t (0, 0)))
    (m0 : MadeE w' w.heap.size (.slice A0 p0.edus.length c0) p0.edus) (m1 : MadeE w' w.heap.size (.slice A1 p1.edus.length c1) p1.edus) (m2 : MadeE w' w.heap.size (.slice A2 p2.edus.length c2) p2.edus) (m3 : MadeE w' w.heap.size (.slice A3 p3.edus.length c3) p3.edus) :
    AllP w b 4 (sel4 p0 p1 p2 p3) (sel4 A0 A1 A2 A3) (sel4 c0 c1 c2 c3) w' := by
  refine ⟨hb, fun j hj => ?_⟩
  rcases (show j = 0 ∨ j = 1 ∨ j = 2 ∨ j = 3 by omega) with rfl | rfl | rfl | rfl
  · exact ⟨range_of h (fun j hj => by
      rcases (show j = 0 ∨ j = 1 ∨ j = 2 ∨ j = 3 ∨ j = 4 by simp [parCells] at hj; omega) with rfl | rfl | rfl | rfl | rfl <;> rfl), m0⟩
  · exact ⟨range_of h (fun j hj => by
      rcases (show j = 0 ∨ j = 1 ∨ j = 2 ∨ j = 3 ∨ j = 4 by simp [parCells] at hj; omega) with rfl | rfl | rfl | rfl | rfl <;> rfl), m1⟩
  · exact ⟨range_of h (fun j hj => by
      rcases (show j = 0 ∨ j = 1 ∨ j = 2 ∨ j = 3 ∨ j = 4 by simp [parCells] at hj; omega) with rfl | rfl | rfl | rfl | rfl <;> rfl), m2⟩
  · exact ⟨range_of h (fun j hj => by
      rcases (show j = 0 ∨ j = 1 ∨ j = 2 ∨ j = 3 ∨ j = 4 by simp [parCells] at hj; omega) with rfl | rfl | rfl | rfl | rfl <;> rfl), m3⟩
theorem all3 {w w' : World} {b : Nat} {t : TypeId} (p0 p1 p2 : Par) (A0 A1 A2 : Option Addr) (c0 c1 c2 : Nat) (hb : Below w.heap.size w w')
    (h : w'.heap[b]? = some (.cells #[.bool p0.ack, .string p0.frm, .string p0.dest, .int .i64 p0.id, .slice A0 p0.edus.length c0, .bool p1.ack, .string p1.frm, .string p1.dest, .int .i64 p1.id, .slice A1 p1.edus.length c1, .bool p2.ack, .string p2.frm, .string p2.dest, .int .i64 p2.id, .slice A2 p2.edus.length c2] t (0, 0)))
    (m0 : MadeE w' w.heap.size (.slice A0 p0.edus.length c0) p0.edus) (m1 : MadeE w' w.heap.size (.slice A1 p1.edus.length c1) p1.edus) (m2 : MadeE w' w.heap.size (.slice A2 p2.edus.length c2) p2.edus) :
    AllP w b 3 (sel4 p0 p1 p2 p2) (sel4 A0 A1 A2 A2) (sel4 c0 c1 c2 c2) w' := by
  refine ⟨hb, fun j hj => ?_⟩
  rcases (show j = 0 ∨ j = 1 ∨ j = 2 by omega) with rfl | rfl | rfl
  · exact ⟨range_of h (fun j hj => by
      rcases (show j = 0 ∨ j = 1 ∨ j = 2 ∨ j = 3 ∨ j = 4 by simp [parCells] at hj; omega) with rfl | rfl | rfl | rfl | rfl <;> rfl), m0⟩
  · exact ⟨range_of h (fun j hj => by
      rcases (show j = 0 ∨ j = 1 ∨ j = 2 ∨ j = 3 ∨ j = 4 by simp [parCells] at hj; omega) with rfl | rfl | rfl | rfl | rfl <;> rfl), m1⟩
  · exact ⟨range_of h (fun j hj => by
      rcases (show j = 0 ∨ j = 1 ∨ j = 2 ∨ j = 3 ∨ j = 4 by simp [parCells] at hj; omega) with rfl | rfl | rfl | rfl | rfl <;> rfl), m2⟩
end Go.Proofs.Ytnabbebkmafakaa
