/-
  Package clock: Add, Next, New.
-/
import Derived.Test.YtnehcmlaoginiaaClk
namespace Go.Proofs.Ytnehcmlaoginiaa
set_option maxRecDepth 20000
open Go.RowKit
set_option linter.unusedVariables false
set_option linter.unusedSimpArgs false

theorem swap_any (g : Nat) (n m x : Int) (w : World) (h : Cnt w g 48 n m) :
    Calls Try.prog 19 #[.pointer (some ⟨g, 0, none⟩), .int .i64 n, .int .i64 x] w fun e w' => e = .returned (.bool true) ∧ w' = w.setCell ⟨g, 0, none⟩ (.int .i64 x) := by
  have c0 : w.cell? ⟨g, 0, none⟩ = some (.int .i64 n) := cell_at h 0
  have f0 : w.frozen? ⟨g, 0, none⟩ = false := free_at h 0
  have hcas := run_call_cas_hit (P := Try.prog) Try.func22 (by kernel_rfl) (by kernel_rfl) (by kernel_rfl) .i64 (by kernel_rfl) (y := x) c0 f0
  clear h
  go_enter Try.func19, Try.ntmps19
  go_wp2
  go_ret
  exact ⟨rfl, rfl⟩
theorem put_any (g : Nat) (n m x : Int) (w : World) (h : Cnt w g 48 n m) :
    Calls Try.prog 18 #[.pointer (some ⟨g, 0, none⟩), .int .i64 x] w fun e w' => e = .returned (.tuple #[]) ∧ w' = w.setCell ⟨g, 0, none⟩ (.int .i64 x) := by
  have c0 : w.cell? ⟨g, 0, none⟩ = some (.int .i64 n) := cell_at h 0
  have f0 : w.frozen? ⟨g, 0, none⟩ = false := free_at h 0
  have hst := run_call_store (P := Try.prog) Try.func21 (by kernel_rfl) (by kernel_rfl) (by kernel_rfl) (by kernel_rfl) (k := .i64) (y := x) c0 f0
  clear h
  go_enter Try.func18, Try.ntmps18
  go_wp2
  go_end0
  exact ⟨rfl, rfl⟩

theorem add_any (g : Nat) (n m k : Int) (w : World) (h : Cnt w g 48 n m) (hf : Fit n m) (k0 : -9223372036854775808 ≤ k) (k1 : k ≤ 9223372036854775807) :
    Calls Try.prog 10 #[.pointer (some ⟨g, 0, none⟩), .int .i64 k] w (AddPost w g 48 n m k) := by
  have c0 : w.cell? ⟨g, 0, none⟩ = some (.int .i64 n) := cell_at h 0
  have c1 : w.cell? ⟨g, 1, none⟩ = some (.int .i64 m) := cell_at h 1
  have f0 : w.frozen? ⟨g, 0, none⟩ = false := free_at h 0
  have H := Lib.hid h
  obtain ⟨m1, m2, n1, n2⟩ := hf
  by_cases hk : k < 0
  · have HX := Lib.hid (show addX n m k = 0 by simp [addX, hk])
    have HE := Lib.hid (show addE n m k = 1 by simp [addE, hk])
    have HN := Lib.hid (show addN n m k = n by simp [addN, hk])
    clear h
    go_enter Try.func10, Try.ntmps10
    go_wp2_with fail
    go_ret2
    rw [AddPost, HX.out, HE.out, HN.out]
    exact ⟨rfl, H.out, grown_refl _ _⟩
  · have q1 : decide (k < 0) = false := decide_eq_false hk
    by_cases hz : 0 < k ∧ n = m
    · obtain ⟨kp, rfl⟩ := hz
      have HX := Lib.hid (show addX n n k = 0 by simp [addX, hk, kp])
      have HE := Lib.hid (show addE n n k = 11 by simp [addE, hk, kp])
      have HN := Lib.hid (show addN n n k = n by rw [addN, if_neg hk]; omega)
      have q2 : decide (0 < k) = true := decide_eq_true kp
      clear h
      go_enter Try.func10, Try.ntmps10
      go_wp2_with fail
      go_loop [6] (fun _ => True) (fun _ => 0)
      case atStart => trivial
      case round =>
        go_wp2_with (go_at_call 13; refine (at_any g n n _ H.out).mono ?_; rintro e wz ⟨rfl, rfl⟩)
        go_ret2
        rw [AddPost, HX.out, HE.out, HN.out]
        exact ⟨rfl, H.out, grown_refl _ _⟩
    · have HX := Lib.hid (show addX n m k = n + min k (m - n) by rw [addX, if_neg hk, if_neg hz])
      have HE := Lib.hid (show addE n m k = 0 by rw [addE, if_neg hk, if_neg hz])
      have HN := Lib.hid (show addN n m k = n + min k (m - n) by rw [addN, if_neg hk])
      have q2 : 0 < k → (m - n == 0) = false := fun kp => by rw [beq_eq_false_iff_ne]; omega
      clear h hz
      go_enter Try.func10, Try.ntmps10
      go_wp2_with fail
      go_loop [6] (fun _ => True) (fun _ => 0)
      case atStart => trivial
      case round =>
        by_cases kp : 0 < k
        · replace q2 := q2 kp
          have q3 : decide (0 < k) = true := decide_eq_true kp
          go_wp2_with (first | (go_at_call 13; refine (at_any g n m _ H.out).mono ?_; rintro e wz ⟨rfl, rfl⟩) | (go_at_call 19; refine (swap_any g n m _ _ H.out).mono ?_; rintro e wz ⟨rfl, rfl⟩))
          all_goals go_ret2
          all_goals rw [AddPost, HX.out, HE.out, HN.out]
          · rw [show n + min k (m - n) = n + (m - n) by omega]
            exact ⟨rfl, H.out.set _, grown_set _ _ _ _⟩
          · rw [show n + min k (m - n) = n + k by omega]
            exact ⟨rfl, H.out.set _, grown_set _ _ _ _⟩
        · obtain rfl : k = 0 := by omega
          clear q2 kp
          go_wp2_with (first | (go_at_call 13; refine (at_any g n m _ H.out).mono ?_; rintro e wz ⟨rfl, rfl⟩) | (go_at_call 19; refine (swap_any g n m _ _ H.out).mono ?_; rintro e wz ⟨rfl, rfl⟩))
          go_ret2
          rw [AddPost, HX.out, HE.out, HN.out, show n + min 0 (m - n) = n by omega]
          exact ⟨rfl, H.out.set _, grown_set _ _ _ _⟩

theorem next_any (g : Nat) (n m : Int) (w : World) (h : Cnt w g 48 n m) (hf : Fit n m) :
    Calls Try.prog 12 #[.pointer (some ⟨g, 0, none⟩)] w (AddPost w g 48 n m 1) := by
  have H := Lib.hid h
  clear h
  go_enter Try.func12, Try.ntmps12
  go_wp2_with (go_at_call 10; refine (add_any g n m 1 _ H.out hf (by decide) (by decide)).mono ?_; rintro e wz ⟨rfl, hc, hg⟩)
  go_ret2
  exact ⟨rfl, hc, hg⟩

theorem told {f : FuncId} {args : Array Value} {w : World} {g : Nat} {T : TypeId} {n m k : Int} (h : Calls Try.prog f args w (AddPost w g T n m k)) (x er n' : Int) (hx : addX n m k = x) (he : addE n m k = er) (hn : addN n m k = n') :
    Calls Try.prog f args w fun e w' => e = .returned (.tuple #[.int .i64 x, .int .i64 er]) ∧ Cnt w' g T n' m ∧ w.grownBy w' (some g) := by
  subst hx he hn
  exact h

/-- Whether a counter may be so. -/
def fitB (n m : Int) : Bool := decide (1 ≤ m) && decide (m ≤ 1099511627776) && decide (0 ≤ n) && decide (n ≤ m)
theorem fitB_fit {n m : Int} : fitB n m = true ↔ Fit n m := by simp [fitB, Fit, and_assoc]

theorem new_no (n m : Int) (w : World) (hf : fitB n m = false) :
    Calls Try.prog 8 #[.int .i64 n, .int .i64 m] w fun e w' => e = .returned (.tuple #[.pointer none, .int .i64 1]) ∧ w = w' := by
  have hn : ¬ (1 ≤ m ∧ m ≤ 1099511627776 ∧ 0 ≤ n ∧ n ≤ m) := fun h => by have := fitB_fit.2 h; rw [hf] at this; cases this
  clear hf
  go_enter Try.func8, Try.ntmps8
  go_wp2_with fail
  all_goals first | (go_ret2; exact ⟨rfl, rfl⟩) | (exfalso; simp at *; omega) | go_show
theorem new_yes (n m : Int) (w : World) (hf : fitB n m = true) :
    Calls Try.prog 8 #[.int .i64 n, .int .i64 m] w fun e w' => e = .returned (.tuple #[.pointer (some ⟨w.heap.size, 0, none⟩), .int .i64 0]) ∧ Cnt w' w.heap.size 48 n m ∧ Below w.heap.size w w' := by
  obtain ⟨h1, h2, h3, h4⟩ := fitB_fit.1 hf
  have q1 : decide (m < 1) = false := decide_eq_false (by omega)
  have q2 : decide (1099511627776 < m) = false := decide_eq_false (by omega)
  have q3 : decide (n < 0) = false := decide_eq_false (by omega)
  have q4 : decide (m < n) = false := decide_eq_false (by omega)
  clear hf
  go_enter Try.func8, Try.ntmps8
  have hc : Cnt (w.alloc (.cells #[.int .i64 0, .int .i64 m] 48)) w.heap.size 48 0 m := heap_alloc_new w _
  have HC := Lib.hid hc
  clear hc
  go_wp2_with (go_at_call 18; refine (put_any w.heap.size 0 m n _ HC.out).mono ?_; rintro e wz ⟨rfl, rfl⟩)
  go_ret2
  exact ⟨rfl, heap_alloc_new w _, (Below.refl w.heap.size w).alloc (Nat.le_refl _) _⟩
end Go.Proofs.Ytnehcmlaoginiaa
