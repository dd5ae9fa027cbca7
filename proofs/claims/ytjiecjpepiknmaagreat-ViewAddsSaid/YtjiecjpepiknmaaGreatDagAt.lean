/-
  The document's At, May of events.
-/
import Derived.Test.YtjiecjpepiknmaaGreatDagM
import Derived.LoopTactic
import Derived.Deep.QuietTactic
import Derived.BigQuiet
import Derived.BigRegion
import Derived.Shelf.SlSortCmp.QuietGrown
namespace Go.Proofs.YtjiecjpepiknmaaGreat
set_option maxRecDepth 20000
open Go.RowKit
set_option linter.unusedVariables false
set_option linter.unusedSimpArgs false

theorem evs_get {xs : List EvV} {i : Nat} {x : EvV} (h : xs[i]? = some x) : (evs xs)[i]? = some x.ev := by simp [evs, h]
theorem evs_of {xs : List EvV} {i : Nat} {y : Ev} (h : (evs xs)[i]? = some y) : ∃ x, xs[i]? = some x ∧ x.ev = y := by
  simp only [evs, List.getElem?_map, Option.map_eq_some_iff] at h
  exact h

theorem idxI_some {l : List Ev} {k : ByteArray} {i : Nat} (h : idx l k = some i) : idxI l k = (i : Int) := by simp [idxI, h]
theorem idxI_none {l : List Ev} {k : ByteArray} (h : idx l k = none) : idxI l k = -1 := by simp [idxI, h]

theorem refAt_any (room key : ByteArray) (v : Value) (xs : List EvV) (w : World) (h : EvsS w v xs) :
    Calls Tryz.prog 64 #[.agg #[.string room, v], .string key] w fun e w' => e = .returned (.int .i64 (idxI (evs xs) key)) ∧ ∃ q os, w' = Sort.grow (w.drewN q) os := by
  have hl := h.1.len
  have h0 := h.1
  obtain ⟨A, cap, rfl, h1, h2, h3, h4⟩ := h0
  unfold maxLen at hl h2
  have hb := below_new w (.cells #[.string room, .slice A xs.length cap] 36)
  have HB := Lib.hid (box_new (w := w) #[.string room, .slice A xs.length cap] 36)
  have H := Lib.hid (h.below hb)
  clear h h1 h3 h4 hb
  go_enter Tryz.func64, Tryz.ntmps64
  go_wp2_with fail
  generalize hw1 : w.alloc _ = w1 at HB H ⊢
  have HW : Hid (∃ q os, w1 = Sort.grow (w.drewN q) os) := Lib.hid ⟨0, _, by rw [← hw1, Sort.alloc_eq_grow]; rfl⟩
  clear hw1
  generalize w.heap.size = B at HB ⊢
  have c1 : w1.cell? ⟨B, 1, none⟩ = some (.slice A xs.length cap) := cell_at HB.out 1
  go_loop [5] (fun i => ∃ j : Nat, j ≤ xs.length ∧ i = .int .i64 (j : Int) ∧ Hid (∀ (a : Nat) y, a < j → (evs xs)[a]? = some y → y.id ≠ key)) (fun i => xs.length - (intOf i).toNat)
  case atStart => exact ⟨0, by omega, rfl, Lib.hid (fun a y ha _ => by omega)⟩
  case round =>
    obtain ⟨j, hj, rfl, HJ⟩ := hrel
    by_cases hlt : j < xs.length
    · have q1 : decide ((j : Int) < (xs.length : Int)) = true := decide_eq_true (by omega)
      have hx : xs[j]? = some xs[j] := List.getElem?_eq_getElem hlt
      generalize xs[j] = x at hx
      obtain ⟨b, off, rfl, hb, hr⟩ := ev_at H.out hx
      obtain ⟨d0, _⟩ := ev_cells hr
      have hi := index_any (P := Tryz.prog) knV (by decide) (b := b) (off := off) (cap := cap) hlt
      have Hx := Lib.hid (evs_get hx)
      clear hx hr
      simp only [LV] at hi
      by_cases hk : x.ev.id = key
      · have q2 : (x.ev.id.toList == key.toList) = true := by rw [keyB]; exact decide_eq_true hk
        have HE := Lib.hid (idx_hit Hx.out hk HJ.out)
        replace hk := Lib.hid hk
        go_wp2_with fail
        go_ret
        rw [idxI_some HE.out]
        exact ⟨rfl, HW.out⟩
      · have q2 : (x.ev.id.toList == key.toList) = false := by rw [keyB]; exact decide_eq_false hk
        have HJ2 : Hid (∀ (a : Nat) y, a < j + 1 → (evs xs)[a]? = some y → y.id ≠ key) := Lib.hid (fun a y ha hy => by
          by_cases haj : a < j
          · exact HJ.out a y haj hy
          · obtain rfl : a = j := by omega
            rw [Hx.out] at hy
            injection hy with hy
            rw [← hy]
            exact hk)
        replace hk := Lib.hid hk
        go_wp2_with fail
        refine ⟨⟨j + 1, by omega, by go_num, HJ2⟩, ?_⟩
        simp [intOf]; omega
    · have q1 : decide ((j : Int) < (xs.length : Int)) = false := decide_eq_false (by omega)
      have HE := Lib.hid (idx_miss (l := evs xs) (id := key) (fun a y hy => HJ.out a y (by have := (List.getElem?_eq_some_iff.1 hy).1; simp [evs] at this; omega) hy))
      go_wp2_with fail
      go_ret
      rw [idxI_none HE.out]
      exact ⟨rfl, HW.out⟩
end Go.Proofs.YtjiecjpepiknmaaGreat
