/-
  A number that is cut off ends too soon: the statement LayCuts, walked.
-/
import Derived.Test.YtkedbaknjekoaaaReadMore
namespace Go.Proofs.Ytkedbaknjekoaaa
open Go.RowKit
set_option linter.unusedVariables false
set_option linter.unusedSimpArgs false

theorem below_grown {w a b : World} {g : Nat} (h : Below w.heap.size w a) (hg : a.grownBy b (some g)) (hw : w.heap.size ≤ g) : Below w.heap.size w b :=
  h.grown hg h.size (fun k hk => by injection hk with hk; omega)
theorem numS_cut (n k : Nat) (h : n < 128 ^ 9) (hk : k < (digs n).length) : numS ((digs n).take k, 0) = (0, ([], 3)) := by rw [numS_bad (numErr_cut n k h hk) (by decide)]; rfl
theorem natI_lt (n : Int) (h : n ≤ 9223372036854775807) : natI n < 128 ^ 9 := by rw [pow128_9]; unfold natI; omega
theorem textS_nil (e : Nat) (he : e ≠ 0) (m : Int) (hm : 0 ≤ m) : textS ([], e) m = ([], ([], e)) := by
  have h := numS_err he
  rw [textS_err (n := 0) (s1 := ([], e)) (by rw [h]) (by rw [h]) (by omega) (by simp) he]

set_option maxHeartbeats 1600000 in
theorem cuts_walk (n k : Int) (w : World) (h0 : -9223372036854775808 ≤ n) (h1 : n ≤ 9223372036854775807) (k0 : -9223372036854775808 ≤ k) (k1 : k ≤ 9223372036854775807) :
    Calls Try.prog 6 #[.int .i64 n, .int .i64 k] w fun e w' => e = .returned (.bool true) ∧ Below w.heap.size w w' := by
  obtain ⟨ds, hds⟩ : ∃ ds, ds = digs (natI n) := ⟨_, rfl⟩
  have hd9 : ds.length ≤ 9 := by rw [hds]; exact len_digs _ (natI_lt n h1)
  have hd0 : 0 < ds.length := by rw [hds]; exact digs_pos _
  have HC : Hid (∀ j, j < ds.length → numS (ds.take j, 0) = (0, ([], 3))) := Lib.hid (fun j hj => by rw [hds] at hj ⊢; exact numS_cut _ j (natI_lt n h1) hj)
  have HP := Lib.hid (number_put (.slice none 0 0) [] 0 n w (Row.nil _ _) (by simp) h0 h1)
  have HD := Lib.hid (show [] ++ digs (natI n) = ds by rw [hds]; rfl)
  clear hds
  go_enter Try.func6, Try.ntmps6
  go_wp2_with fail
  refine HP.out.mono ?_
  rw [HD.out]
  rintro e w1 ⟨⟨g1, cap1, rfl, hg1, ho1⟩, hb1⟩
  have hcap : ds.length ≤ cap1 := by obtain ⟨_, _, h, _⟩ := ho1; exact h
  have hcap2 : cap1 ≤ 9223372036854775807 := by obtain ⟨_, _, _, h, _⟩ := ho1; unfold maxLen at h; omega
  have HO := Lib.hid ho1
  have HB1 := Lib.hid hb1
  clear ho1 hb1 HP
  obtain ⟨ha0, ha1⟩ := aroundI_bd k (ds.length : Int) (by omega)
  obtain ⟨c, hc⟩ := Int.eq_ofNat_of_zero_le ha0
  have hcl : c < ds.length := by omega
  have Hc := Lib.hid hc
  clear hc ha0 ha1
  go_wp2_with fail
  refine (around_any k (ds.length : Int) _ k0 k1 (by omega) (by omega)).mono ?_
  rintro e w2 ⟨rfl, rfl⟩
  rw [Hc.out]
  have HR := Lib.hid (((HO.out.row (lo := 0) (Nat.zero_le _))).head (n := c) (by omega))
  have Hn := Lib.hid (HC.out c hcl)
  have Hl : (ds.take c).length ≤ 1000000 := by rw [List.length_take]; omega
  generalize ds.take c = cs at *
  go_wp2_with fail
  refine (read_any _ cs 0 _ HR.out Hl).mono ?_
  rintro e w3 ⟨⟨g3, rfl, hg3, hr3⟩, hb3⟩
  have HR3 := Lib.hid hr3
  have HB3 := Lib.hid (later HB1.out hb3)
  have hg3w : w.heap.size ≤ g3 := Nat.le_trans HB1.out.size hg3
  clear hr3 hb3
  go_wp2_with fail
  refine (readNum_any _ g3 (cs, 0) _ HR3.out Hl).mono ?_
  rintro e w4 ⟨rfl, hr4, hgr4⟩
  rw [Hn.out] at hr4 ⊢
  have HR4 := Lib.hid hr4
  have HB4 := Lib.hid (below_grown HB3.out hgr4 hg3w)
  clear hr4 hgr4
  go_wp2_with fail
  refine (errno_any _ g3 ([], 3) _ HR4.out).mono ?_
  rintro e w5 ⟨rfl, rfl⟩
  go_wp2_with fail
  refine (readNum_any _ g3 ([], 3) _ HR4.out (by simp)).mono ?_
  rintro e w6 ⟨rfl, hr6, hgr6⟩
  rw [numS_err (by decide)] at hr6 ⊢
  have HR6 := Lib.hid hr6
  have HB6 := Lib.hid (below_grown HB4.out hgr6 hg3w)
  clear hr6 hgr6
  go_wp2_with fail
  refine (readText_any _ g3 ([], 3) 9 _ HR6.out (by simp) (by decide) (by decide)).mono ?_
  rintro e w7 ⟨rfl, hr7, hgr7⟩
  rw [textS_nil 3 (by decide) 9 (by decide)] at hr7 ⊢
  rw [strOf_nil]
  have HR7 := Lib.hid hr7
  have HB7 := Lib.hid (below_grown HB6.out hgr7 hg3w)
  clear hr7 hgr7
  go_wp2_with fail
  refine (readFlag_any _ g3 ([], 3) _ HR7.out (by simp)).mono ?_
  rintro e w8 ⟨rfl, hr8, hgr8⟩
  rw [show flagS ([], 3) = (false, ([], 3)) from rfl] at hr8 ⊢
  have HR8 := Lib.hid hr8
  have HB8 := Lib.hid (below_grown HB7.out hgr8 hg3w)
  clear hr8 hgr8
  go_wp2_with fail
  refine (left_any _ g3 ([], 3) _ HR8.out (by simp)).mono ?_
  rintro e w9 ⟨rfl, rfl⟩
  go_wp2_with fail
  refine (lives_any _).mono ?_
  rintro e w10 ⟨rfl, hb10⟩
  have HB10 := Lib.hid (later HB8.out hb10)
  clear hb10
  go_wp2_with fail
  go_ret
  exact ⟨rfl, HB10.out⟩
end Go.Proofs.Ytkedbaknjekoaaa
