/-
  The code's Room and Len, as the statements' walks go by them.
-/
import Derived.Test.YtjiecjpepiknmaaDgF
namespace Go.Proofs.Ytjiecjpepiknmaa
set_option maxRecDepth 20000
open Go.RowKit
set_option linter.unusedVariables false
set_option linter.unusedSimpArgs false
section
variable {w : World} {g mb : Nat} {room : ByteArray} {ns : List NdV} {D : Dv}
theorem room_code7 (h : DgS w g room mb ns D) : Calls Try.prog 25 #[.pointer (some ⟨g, 0, none⟩)] w fun e w' => e = .returned (.string room) ∧ Below w.heap.size w w' := by
  have c0 : w.cell? ⟨g, 0, none⟩ = some (.string room) := cell_at h.hd 0
  have hs := h.rs
  have HC := Lib.hid (fun W => clone_any room W (by omega))
  clear h hs
  go_enter Try.func25, Try.ntmps25
  go_wp2_with fail
  go_at_call 35
  refine (HC.out _).mono ?_
  rintro e w1 ⟨rfl, hb⟩
  go_wp2_with fail
  go_ret
  exact ⟨rfl, hb⟩
end
theorem codeRms : DagRms codeDags := ⟨fun {w g room l} h hl => by
  obtain ⟨mb, ns, D, h, rfl⟩ := h
  refine (room_code7 h).mono ?_
  rintro e w' ⟨rfl, hb⟩
  exact ⟨rfl, h.still hb⟩⟩
end Go.Proofs.Ytjiecjpepiknmaa
