/-
  The code's Room and Len, as the statements' walks go by them.
-/
import Derived.Test.YtflgpdkdflhhgaaGreatDgF
namespace Go.Proofs.YtflgpdkdflhhgaaGreat
set_option maxRecDepth 20000
open Go.RowKit
set_option linter.unusedVariables false
set_option linter.unusedSimpArgs false
section
variable {w : World} {g mb : Nat} {room : ByteArray} {ns : List NdV} {D : Dv}
theorem room_code7 (h : DgS w g room mb ns D) : Calls Tryz.prog 20 #[.pointer (some ⟨g, 0, none⟩)] w fun e w' => e = .returned (.string room) ∧ Below w.heap.size w w' := by
  have c0 : w.cell? ⟨g, 0, none⟩ = some (.string room) := cell_at h.hd 0
  have hs := h.rs
  have HC := Lib.hid (fun W => clone_any room W (by omega))
  clear h hs
  go_enter Tryz.func20, Tryz.ntmps20
  go_wp2_with fail
  go_at_call 37
  refine (HC.out _).mono ?_
  rintro e w1 ⟨rfl, hb⟩
  go_wp2_with fail
  go_ret
  exact ⟨rfl, hb⟩
end
theorem codeRms : DagRms codeDags := ⟨fun {w g room l} h hl => by
  obtain ⟨mb, ns, D, h, rfl⟩ := h
  refine (room_code7 h).mono ?_
  rintro e w' ⟨rfl, hb⟩
  exact ⟨rfl, h.still hb⟩⟩
theorem codeLns : DagLns codeDags := ⟨fun {w g room l} h hl => by
  obtain ⟨mb, ns, D, h, rfl⟩ := h
  refine (len_code h (by rw [nevs_len] at hl; omega)).mono ?_
  rintro e w' ⟨rfl, rfl⟩
  exact ⟨by rw [nevs_len], h.still ⟨rfl, rfl, rfl, Nat.le_refl _, fun _ _ => rfl⟩⟩⟩
end Go.Proofs.YtflgpdkdflhhgaaGreat
