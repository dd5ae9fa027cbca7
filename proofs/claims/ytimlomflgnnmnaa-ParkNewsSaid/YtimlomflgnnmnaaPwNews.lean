/-
  Which bounds may be: ParkNews, walked.
-/
import Derived.Test.YtimlomflgnnmnaaPkK
namespace Go.Proofs.Ytimlomflgnnmnaa
set_option maxRecDepth 20000
open Go.RowKit
set_option linter.unusedVariables false
set_option linter.unusedSimpArgs false

/-- How numbers lie. -/
def LI2 : Lies Int := ⟨3, 1, fun x => [.int .i64 x], fun _ => rfl, fun x u hu => by
  simp only [List.mem_cons, List.not_mem_nil, or_false] at hu
  subst hu; rfl⟩
theorem knI2 : Kn Try.prog LI2 46 (.int .i64 0) 8 := ⟨Try.underlying46, by kernel_rfl, rfl, by decide⟩

set_option maxHeartbeats 3200000 in
theorem parkNews_walk (n : Int) (w : World) (h0 : -9223372036854775808 ≤ n) (h1 : n ≤ 9223372036854775807) :
    Calls Try.prog 4 #[.int .i64 n] w fun e w' => e = .returned (.bool true) ∧ Below w.heap.size w w' := by
  have HA := Lib.hid (fun W => around_any n 1003 W h0 h1 (by decide) (by decide))
  have ha := aroundI_bd n 1003 (by decide)
  have HNN := Lib.hid (fun W x (hx : x < 1 ∨ 1000 < x) => pkNew_no x W hx)
  have HNY := Lib.hid (fun W (m : Nat) h1 h2 => pkNew_yes m W h1 h2)
  have HLV := Lib.hid (fun W => lives_any W)
  generalize aroundI n 1003 = a at *
  go_enter Try.func4, Try.ntmps4
  go_wp2_with fail
  go_at_call 8
  refine (HA.out _).mono ?_
  rintro e w1 ⟨rfl, rfl⟩
  have HX := Lib.hid (heap_alloc_new w (.cells #[.int .i64 n, .int .i64 a] 3))
  have HB := Lib.hid (below_new w (.cells #[.int .i64 n, .int .i64 a] 3))
  go_upto_region 2 with (fail)
  generalize World.alloc _ _ = w2 at HX HB ⊢
  obtain ⟨g, hg⟩ : ∃ g, w.heap.size = g := ⟨_, rfl⟩
  rw [hg] at HX ⊢
  clear hg
  go_wp2_with fail
  go_loopw [4, 5, 6, 7] (fun i _ _ _ wr => ∃ k : Nat, i = .int .i64 (k : Int) ∧ k ≤ 2 ∧ Hid (wr.heap[g]? = some (.cells #[.int .i64 n, .int .i64 a] 3 (0, 0)) ∧ Below w.heap.size w wr)) (fun i _ _ _ _ => 2 - (intOf i).toNat)
  case atStart => exact ⟨0, rfl, by decide, Lib.hid ⟨HX.out, HB.out⟩⟩
  case round =>
    obtain ⟨k, rfl, hk, HS⟩ := hrel
    clear HX HB
    by_cases hk2 : k < 2
    · have q1 : decide ((k : Int) < 2) = true := decide_eq_true (by omega)
      have hix := index_any (P := Try.prog) knI2 (by decide) (b := g) (off := 0) (cap := 2) (len := 2) hk2
      simp only [LI2, Nat.mul_one, Nat.zero_add] at hix
      obtain ⟨x, hx⟩ : ∃ x : Int, (#[.int .i64 n, .int .i64 a] : Array Value)[k]? = some (.int .i64 x) := by
        rcases (show k = 0 ∨ k = 1 by omega) with rfl | rfl
        · exact ⟨n, rfl⟩
        · exact ⟨a, rfl⟩
      have HC := Lib.hid (fun (W : World) (h : W.heap[g]? = some (.cells #[.int .i64 n, .int .i64 a] 3 (0, 0))) => (cell_at h k).trans hx)
      have c0 := HC.out wr HS.out.1
      clear hx
      by_cases hx1 : x < 1
      · have q2 : decide (1 ≤ x) = false := decide_eq_false (by omega)
        have HW := Lib.hid (fun W => HNN.out W x (.inl hx1))
        go_wp2_with fail
        go_at_call 9
        refine (HW.out _).mono ?_
        rintro e w4 ⟨rfl, hb⟩
        replace HS := Lib.hid (And.intro ((hb.block g (smem_lt HS.out.1)).trans HS.out.1) (HS.out.2.trans (hb.mono HS.out.2.size)))
        clear hb c0 HW
        have c0 := HC.out w4 HS.out.1
        go_wp2_with fail
        refine ⟨⟨k + 1, by go_num, by omega, HS⟩, ?_⟩
        simp [intOf]; omega
      · have q2 : decide (1 ≤ x) = true := decide_eq_true (by omega)
        by_cases hx2 : 1000 < x
        · have q3 : decide (x ≤ 1000) = false := decide_eq_false (by omega)
          have HW := Lib.hid (fun W => HNN.out W x (.inr hx2))
          go_wp2_with fail
          go_at_call 9
          refine (HW.out _).mono ?_
          rintro e w4 ⟨rfl, hb⟩
          replace HS := Lib.hid (And.intro ((hb.block g (smem_lt HS.out.1)).trans HS.out.1) (HS.out.2.trans (hb.mono HS.out.2.size)))
          clear hb c0 HW
          have c0 := HC.out w4 HS.out.1
          go_wp2_with fail
          refine ⟨⟨k + 1, by go_num, by omega, HS⟩, ?_⟩
          simp [intOf]; omega
        · have q3 : decide (x ≤ 1000) = true := decide_eq_true (by omega)
          have HW : Hid (∀ W : World, Calls Try.prog 9 #[.int .i64 x] W fun e w' => ∃ b, e = .returned (.tuple #[.pointer (some ⟨b, 0, none⟩), .int .i64 0]) ∧ Below W.heap.size W w') := Lib.hid (fun W => by
            obtain ⟨m, rfl⟩ : ∃ m : Nat, x = (m : Int) := ⟨x.toNat, by omega⟩
            refine (HNY.out W m (by omega) (by omega)).mono ?_
            rintro e w' ⟨b, he, hk⟩
            exact ⟨b, he, hk.below⟩)
          go_wp2_with fail
          go_at_call 9
          refine (HW.out _).mono ?_
          rintro e w4 ⟨b, rfl, hb⟩
          replace HS := Lib.hid (And.intro ((hb.block g (smem_lt HS.out.1)).trans HS.out.1) (HS.out.2.trans (hb.mono HS.out.2.size)))
          clear hb c0 HW
          have c0 := HC.out w4 HS.out.1
          go_wp2_with fail
          refine ⟨⟨k + 1, by go_num, by omega, HS⟩, ?_⟩
          simp [intOf]; omega
    · have q1 : decide ((k : Int) < 2) = false := decide_eq_false (by omega)
      go_wp2_with fail
      go_at_call 20
      refine (HLV.out _).mono ?_
      rintro e w4 ⟨rfl, hb⟩
      have HBL := Lib.hid (HS.out.2.trans (hb.mono HS.out.2.size))
      clear hb
      go_wp2_with fail
      go_ret
      exact ⟨rfl, HBL.out⟩
end Go.Proofs.Ytimlomflgnnmnaa
