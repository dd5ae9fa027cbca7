/-
  The document's counter.
-/
import Derived.Test.YtnehcmlaoginiaaClkAdd
import Derived.Deep.QuietTactic
import Derived.BigQuiet
import Derived.RegionTactic
import Derived.BigRegion
import Derived.StillTailTactics
namespace Go.Proofs.Ytnehcmlaoginiaa
set_option maxRecDepth 20000
open Go.RowKit
set_option linter.unusedVariables false
set_option linter.unusedSimpArgs false

theorem refNew_no (n m : Int) (w : World) (hf : fitB n m = false) :
    Calls Try.prog 9 #[.int .i64 n, .int .i64 m] w fun e w' => e = .returned (.tuple #[.agg #[.int .i64 0, .int .i64 0], .int .i64 1]) ∧ Below w.heap.size w w' := by
  have hn : ¬ (1 ≤ m ∧ m ≤ 1099511627776 ∧ 0 ≤ n ∧ n ≤ m) := fun h => by have := fitB_fit.2 h; rw [hf] at this; cases this
  clear hf
  go_enter Try.func9, Try.ntmps9
  go_wp2_with fail
  all_goals first
    | (refine bodyPost_ret (v := .tuple #[.agg #[.int .i64 0, .int .i64 0], .int .i64 1]) ?_ rfl ⟨rfl, (Below.refl w.heap.size w).alloc (Nat.le_refl _) _⟩; simp [results, Try.results9, go_sem])
    | (exfalso; omega)
theorem refNew_yes (n m : Int) (w : World) (hf : fitB n m = true) :
    Calls Try.prog 9 #[.int .i64 n, .int .i64 m] w fun e w' => e = .returned (.tuple #[.agg #[.int .i64 n, .int .i64 m], .int .i64 0]) ∧ Below w.heap.size w w' := by
  obtain ⟨h1, h2, h3, h4⟩ := fitB_fit.1 hf
  have q1 : decide (m < 1) = false := decide_eq_false (by omega)
  have q2 : decide (1099511627776 < m) = false := decide_eq_false (by omega)
  have q3 : decide (n < 0) = false := decide_eq_false (by omega)
  have q4 : decide (m < n) = false := decide_eq_false (by omega)
  clear hf
  go_enter Try.func9, Try.ntmps9
  go_wp2_with fail
  refine bodyPost_ret (v := .tuple #[.agg #[.int .i64 n, .int .i64 m], .int .i64 0]) ?_ rfl ⟨rfl, (Below.refl w.heap.size w).alloc (Nat.le_refl _) _⟩
  simp [results, Try.results9, go_sem]

theorem grown_drew (w : World) (g d : Nat) : w.grownBy (w.drewN d) (some g) := ⟨rfl, rfl, rfl, Nat.le_refl _, fun _ _ _ => rfl⟩
theorem Cnt.drewN {w : World} {g : Nat} {T : TypeId} {n m : Int} (h : Cnt w g T n m) (d : Nat) : Cnt (w.drewN d) g T n m := h

theorem refAdd_any (g : Nat) (n m k : Int) (w : World) (h : Cnt w g 29 n m) (hf : Fit n m) (k0 : -9223372036854775808 ≤ k) (k1 : k ≤ 9223372036854775807) :
    Calls Try.prog 11 #[.pointer (some ⟨g, 0, none⟩), .int .i64 k] w (AddPost w g 29 n m k) := by
  have c0 : w.cell? ⟨g, 0, none⟩ = some (.int .i64 n) := cell_at h 0
  have c1 : w.cell? ⟨g, 1, none⟩ = some (.int .i64 m) := cell_at h 1
  have f0 : w.frozen? ⟨g, 0, none⟩ = false := free_at h 0
  have H := Lib.hid h
  obtain ⟨m1, m2, n1, n2⟩ := hf
  by_cases hk : k < 0
  · have HX := Lib.hid (show addX n m k = 0 by simp [addX, hk])
    have HE := Lib.hid (show addE n m k = 1 by simp [addE, hk])
    have HN := Lib.hid (show addN n m k = n by simp [addN, hk])
    clear h
    go_enter Try.func11, Try.ntmps11
    go_wp2_with fail
    go_ret2
    rw [AddPost, HX.out, HE.out, HN.out]
    exact ⟨rfl, H.out, grown_refl _ _⟩
  · have q1 : decide (k < 0) = false := decide_eq_false hk
    by_cases hz : 0 < k ∧ n = m
    · obtain ⟨kp, rfl⟩ := hz
      have HX := Lib.hid (show addX n n k = 0 by simp [addX, hk, kp])
      have HE := Lib.hid (show addE n n k = 11 by simp [addE, hk, kp])
      have HN := Lib.hid (show addN n n k = n by rw [addN, if_neg hk]; omega)
      have q2 : decide (0 < k) = true := decide_eq_true kp
      clear h
      go_enter Try.func11, Try.ntmps11
      go_wp2_with fail
      go_quiet (fail)
      go_wp2_with fail
      go_ret2
      rw [AddPost, HX.out, HE.out, HN.out]
      exact ⟨rfl, H.out.drewN _, grown_drew _ _ _⟩
    · have HX := Lib.hid (show addX n m k = n + min k (m - n) by rw [addX, if_neg hk, if_neg hz])
      have HE := Lib.hid (show addE n m k = 0 by rw [addE, if_neg hk, if_neg hz])
      have HN := Lib.hid (show addN n m k = n + min k (m - n) by rw [addN, if_neg hk])
      by_cases kp : 0 < k
      · have q2 : (n == m) = false := by rw [beq_eq_false_iff_ne]; omega
        have q3 : decide (0 < k) = true := decide_eq_true kp
        clear h hz
        by_cases hm : m - n < k
        · have q4 : decide (m - n < k) = true := decide_eq_true hm
          go_enter Try.func11, Try.ntmps11
          go_wp2_with fail
          go_quiet (fail)
          go_wp2_with fail
          have HG := Lib.hid (grown_drew w g nq)
          replace H := Lib.hid (H.out.drewN nq)
          replace c0 : (w.drewN nq).cell? ⟨g, 0, none⟩ = some (.int .i64 n) := c0
          replace c1 : (w.drewN nq).cell? ⟨g, 1, none⟩ = some (.int .i64 m) := c1
          replace f0 : (w.drewN nq).frozen? ⟨g, 0, none⟩ = false := f0
          generalize w.drewN nq = w3 at H HG c0 c1 f0 ⊢
          go_region
          go_wp2_with fail
          go_ret2
          rw [AddPost, HX.out, HE.out, HN.out, show n + min k (m - n) = n + (m - n) by omega]
          exact ⟨rfl, (H.out.set _).drewN 1, grown_trans (grown_trans HG.out (grown_set _ _ _ _)) (grown_drew _ _ 1)⟩
        · have q4 : decide (m - n < k) = false := decide_eq_false hm
          go_enter Try.func11, Try.ntmps11
          go_wp2_with fail
          go_quiet (fail)
          go_wp2_with fail
          have HG := Lib.hid (grown_drew w g nq)
          replace H := Lib.hid (H.out.drewN nq)
          replace c0 : (w.drewN nq).cell? ⟨g, 0, none⟩ = some (.int .i64 n) := c0
          replace c1 : (w.drewN nq).cell? ⟨g, 1, none⟩ = some (.int .i64 m) := c1
          replace f0 : (w.drewN nq).frozen? ⟨g, 0, none⟩ = false := f0
          generalize w.drewN nq = w3 at H HG c0 c1 f0 ⊢
          go_region
          go_wp2_with fail
          go_ret2
          rw [AddPost, HX.out, HE.out, HN.out, show n + min k (m - n) = n + k by omega]
          exact ⟨rfl, (H.out.set _).drewN 1, grown_trans (grown_trans HG.out (grown_set _ _ _ _)) (grown_drew _ _ 1)⟩
      · obtain rfl : k = 0 := by omega
        have q4 : decide (m - n < 0) = false := decide_eq_false (by omega)
        have q3 : decide ((0 : Int) < 0) = false := by decide
        clear h hz kp
        go_enter Try.func11, Try.ntmps11
        go_wp2_with fail
        go_quiet (fail)
        go_wp2_with fail
        have HG := Lib.hid (grown_drew w g nq)
        replace H := Lib.hid (H.out.drewN nq)
        replace c0 : (w.drewN nq).cell? ⟨g, 0, none⟩ = some (.int .i64 n) := c0
        replace c1 : (w.drewN nq).cell? ⟨g, 1, none⟩ = some (.int .i64 m) := c1
        replace f0 : (w.drewN nq).frozen? ⟨g, 0, none⟩ = false := f0
        generalize w.drewN nq = w3 at H HG c0 c1 f0 ⊢
        go_region
        go_wp2_with fail
        go_ret2
        rw [AddPost, HX.out, HE.out, HN.out, show n + min 0 (m - n) = n by omega]
        exact ⟨rfl, (H.out.set _).drewN 1, grown_trans (grown_trans HG.out (grown_set _ _ _ _)) (grown_drew _ _ 1)⟩
end Go.Proofs.Ytnehcmlaoginiaa
