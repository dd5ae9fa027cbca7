/-
  The heap's compare, before, own: what they answer; what they make is new memory.
-/
import Derived.Test.YtkbmkbmbkmeenaaHpMap
import Derived.Test.YtkbmkbmbkmeenaaShelf
import Derived.Test.YtkbmkbmbkmeenaaEntRef
import Derived.Sort.Grow
namespace Go.Proofs.Ytkbmkbmbkmeenaa
set_option maxRecDepth 20000
open Go.RowKit
set_option linter.unusedVariables false
set_option linter.unusedSimpArgs false

theorem cmpB_lt : ∀ a b : List UInt8, decide (Lib.compareBytes a b < 0) = Op.bytesLess a b
  | [], [] => by simp [Lib.compareBytes, Op.bytesLess]
  | [], _ :: _ => by simp [Lib.compareBytes, Op.bytesLess]
  | _ :: _, [] => by simp [Lib.compareBytes, Op.bytesLess]
  | a :: x, b :: y => by
    unfold Lib.compareBytes Op.bytesLess
    by_cases h : a < b
    · simp [h]
    · by_cases h2 : b < a
      · have : ¬ a = b := fun e => by rw [e] at h2; exact absurd h2 (by rw [e] at h; exact h)
        simp [h, h2, this]
      · have : a = b := by
          apply UInt8.toNat_inj.1
          rw [UInt8.lt_iff_toNat_lt] at h h2
          omega
        simp [h, h2, this, cmpB_lt x y]
/-- How two entries stand. -/
def cmpE (x y : Ent) : Int := if x.tick < y.tick then -1 else if y.tick < x.tick then 1 else Lib.compareBytes x.key.data.toList y.key.data.toList
theorem cmpE_lt (x y : Ent) : decide (cmpE x y < 0) = beforeB x y := by
  unfold cmpE beforeB
  by_cases h : x.tick < y.tick
  · simp [h]
  · by_cases h2 : y.tick < x.tick
    · have : ¬ x.tick = y.tick := by omega
      simp [h, h2, this]
    · have : x.tick = y.tick := by omega
      simp [this, cmpB_lt, ByteArray.toList_eq]

set_option maxHeartbeats 1000000 in
theorem compare_any (x y : Ent) (w : World) : Calls Try.prog 32 #[.agg #[.int .i64 x.tick, .string x.key], .agg #[.int .i64 y.tick, .string y.key]] w fun e w' => e = .returned (.int .i64 (cmpE x y)) ∧ ∃ q os', w' = Sort.grow (w.drewN q) os' := by
  have hc := fun W => Try.strings_Compare x.key y.key W
  have hu : cmpE x y = if x.tick < y.tick then -1 else if y.tick < x.tick then 1 else Lib.compareBytes x.key.data.toList y.key.data.toList := rfl
  generalize Lib.compareBytes x.key.data.toList y.key.data.toList = r at hc hu
  rw [hu]
  clear hu
  by_cases h : x.tick < y.tick
  · have q1 : decide (x.tick < y.tick) = true := decide_eq_true h
    rw [if_pos h]
    go_enter Try.func32, Try.ntmps32
    go_wp2_with fail
    go_ret
    exact ⟨rfl, 0, _, by rw [Sort.alloc_eq_grow, Sort.alloc_eq_grow, Sort.grow_grow]; rfl⟩
  · have q1 : decide (x.tick < y.tick) = false := decide_eq_false h
    rw [if_neg h]
    by_cases h2 : y.tick < x.tick
    · have q2 : decide (y.tick < x.tick) = true := decide_eq_true h2
      rw [if_pos h2]
      go_enter Try.func32, Try.ntmps32
      go_wp2_with fail
      go_ret
      exact ⟨rfl, 0, _, by rw [Sort.alloc_eq_grow, Sort.alloc_eq_grow, Sort.grow_grow]; rfl⟩
    · have q2 : decide (y.tick < x.tick) = false := decide_eq_false h2
      rw [if_neg h2]
      go_enter Try.func32, Try.ntmps32
      go_wp2_with (go_at_call 38; refine (hc _).mono ?_; rintro e w' ⟨rfl, rfl⟩)
      go_ret
      exact ⟨rfl, 0, _, by rw [Sort.alloc_eq_grow, Sort.alloc_eq_grow, Sort.grow_grow]; rfl⟩
set_option maxHeartbeats 1000000 in
theorem before_any (x y : Ent) (w : World) : Calls Try.prog 54 #[.agg #[.int .i64 x.tick, .string x.key], .agg #[.int .i64 y.tick, .string y.key]] w fun e w' => e = .returned (.bool (beforeB x y)) ∧ ∃ q os', w' = Sort.grow (w.drewN q) os' := by
  have hc := fun W => compare_any x y W
  rw [← cmpE_lt]
  generalize cmpE x y = r at hc
  go_enter Try.func54, Try.ntmps54
  go_wp2_with (go_at_call 32; refine (hc _).mono ?_; rintro e w' ⟨rfl, q, os, rfl⟩)
  go_ret
  exact ⟨rfl, q, _, by rw [Sort.alloc_eq_grow, Sort.alloc_eq_grow, Sort.grow_grow]; show Sort.grow (Sort.grow (w.drewN q) _) _ = _; rw [Sort.grow_grow]⟩

theorem clone_any (s : ByteArray) (w : World) (hs : s.size ≤ 281474976710656) :
    Calls Try.prog 35 #[.string s] w fun e w' => e = .returned (.string s) ∧ Below w.heap.size w w' := by
  go_enter Try.func35, Try.ntmps35
  go_wp2_with fail
  refine (Try.stringslite_Clone s _ hs).mono ?_
  rintro e w' ⟨rfl, hb⟩
  go_wp2
  go_ret
  exact ⟨rfl, hb⟩
end Go.Proofs.Ytkbmkbmbkmeenaa
