/-
  Package dag: New, Has, Len, Position, Event.
-/
import Derived.Test.YtfbfdkibdjinaaaGreatDgO
namespace Go.Proofs.YtfbfdkibdjinaaaGreat
set_option maxRecDepth 20000
open Go.RowKit
set_option linter.unusedVariables false
set_option linter.unusedSimpArgs false
section
variable {w w' : World} {g mb : Nat} {room : ByteArray} {ns : List NdV} {D : Dv}

set_option maxHeartbeats 800000 in
theorem has_code (h : DgS w g room mb ns D) (k : ByteArray) (hk : k.size ≤ maxLen) : Calls Tryz.prog 46 #[.pointer (some ⟨g, 0, none⟩), .string k] w fun e w' => e = .returned (.bool (hasE (nevs ns) k)) ∧ Below w.heap.size w w' := by
  have c1 := h.c1
  rcases h.look k hk true with ⟨hh, hr⟩ | ⟨hh, n, hn, he, hr⟩
  · rw [hh]
    unfold zeroN at hr
    clear h hk hh
    go_enter Tryz.func46, Tryz.ntmps46
    go_wp2_with fail
    go_ret
    exact ⟨rfl, below_new _ _⟩
  · rw [hh]
    unfold NdV.val EvV.pv at hr
    clear h hk hh
    go_enter Tryz.func46, Tryz.ntmps46
    go_wp2_with fail
    go_ret
    exact ⟨rfl, below_new _ _⟩

theorem ev_stored {wr : World} {B : Nat} {cs : Array Value} {t : TypeId} (hr : wr.heap[B]? = some (.cells cs t (0, 0))) (a0 a1 a2 a3 a4 a5 : Value) (hs : cs.size = 6) :
    ∀ W, W = wr.setCells B 0 [a0, a1, a2, a3, a4, a5] → W.cell? ⟨B, 0, none⟩ = some a0 ∧ W.cell? ⟨B, 1, none⟩ = some a1 ∧ W.cell? ⟨B, 2, none⟩ = some a2 ∧ W.cell? ⟨B, 3, none⟩ = some a3 ∧ W.cell? ⟨B, 4, none⟩ = some a4 ∧ W.cell? ⟨B, 5, none⟩ = some a5 ∧ wr.grownBy W (some B) := by
  rintro W rfl
  obtain ⟨cur, z1, z2, z3⟩ := sm_at B t [a0, a1, a2, a3, a4, a5] 0 wr _ hr (by rw [hs]; exact Nat.le_refl 6)
  have hl : cs.toList.length = 6 := hs
  have z4 : cur.toList = [a0, a1, a2, a3, a4, a5] := by
    rw [z3, List.take_zero, List.nil_append, List.drop_of_length_le (by rw [hl]; exact Nat.le_refl _), List.append_nil]
  refine ⟨?_, ?_, ?_, ?_, ?_, ?_, sm_grown wr B 0 _⟩
  · rw [cell_at z1 0, ← Array.getElem?_toList, z4]; rfl
  · rw [cell_at z1 1, ← Array.getElem?_toList, z4]; rfl
  · rw [cell_at z1 2, ← Array.getElem?_toList, z4]; rfl
  · rw [cell_at z1 3, ← Array.getElem?_toList, z4]; rfl
  · rw [cell_at z1 4, ← Array.getElem?_toList, z4]; rfl
  · rw [cell_at z1 5, ← Array.getElem?_toList, z4]; rfl

theorem po_stored {wr : World} {B : Nat} {cs : Array Value} {t : TypeId} (hr : wr.heap[B]? = some (.cells cs t (0, 0))) (a0 a1 : Value) (hs : cs.size = 2) :
    ∀ W, W = wr.setCells B 0 [a0, a1] → W.cell? ⟨B, 0, none⟩ = some a0 ∧ W.cell? ⟨B, 1, none⟩ = some a1 ∧ wr.grownBy W (some B) := by
  rintro W rfl
  obtain ⟨cur, z1, z2, z3⟩ := sm_at B t [a0, a1] 0 wr _ hr (by rw [hs]; exact Nat.le_refl 2)
  have hl : cs.toList.length = 2 := hs
  have z4 : cur.toList = [a0, a1] := by
    rw [z3, List.take_zero, List.nil_append, List.drop_of_length_le (by rw [hl]; exact Nat.le_refl _), List.append_nil]
  refine ⟨?_, ?_, sm_grown wr B 0 _⟩
  · rw [cell_at z1 0, ← Array.getElem?_toList, z4]; rfl
  · rw [cell_at z1 1, ← Array.getElem?_toList, z4]; rfl


end
end Go.Proofs.YtfbfdkibdjinaaaGreat
