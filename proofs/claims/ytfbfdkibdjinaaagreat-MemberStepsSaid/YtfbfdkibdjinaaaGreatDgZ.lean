/-
  The code's All, as the statements' walks go by it.
-/
import Derived.Test.YtfbfdkibdjinaaaGreatDgY
namespace Go.Proofs.YtfbfdkibdjinaaaGreat
set_option maxRecDepth 20000
open Go.RowKit
set_option linter.unusedVariables false
set_option linter.unusedSimpArgs false
theorem codeAlls : DagAlls codeDags := ⟨fun {w g room l} h hl => by
  obtain ⟨mb, ns, D, h, rfl⟩ := h
  refine (all_any7 h (by rw [nevs_len] at hl; omega)).mono ?_
  rintro e w' ⟨v, ys, rfl, ha, hev⟩
  have hst := h.still ha.below
  have hno : ∀ k, w.heap.size ≤ k → ¬ ownC w' g k := fun k hk ho => by
    have h3 := h.old ((h.own k).2 (((h.below ha.below).own k).1 ho))
    omega
  refine ⟨v, rfl, ys, ha.row, fun k hk => hno k (ha.row.lt k hk).1, fun y hy => ⟨⟨(ha.each y hy).slice, ?_⟩, ha.each y hy, fun k hk => hno k ((ha.each y hy).lt k hk).1⟩, hev, hst.1, hst.2⟩
  have hm : y.ev ∈ allL (nevs ns) := by rw [← hev]; exact List.mem_map.2 ⟨y, hy, rfl⟩
  obtain ⟨n, hn, he⟩ := List.mem_map.1 (((allL_row h.val).2 y.ev).1 hm)
  rw [← he]
  exact may_ok (h.node hn).1⟩
end Go.Proofs.YtfbfdkibdjinaaaGreat
