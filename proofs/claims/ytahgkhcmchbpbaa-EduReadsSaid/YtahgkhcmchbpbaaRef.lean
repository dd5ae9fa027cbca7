/-
  The document's own answers: a number's, a text's, a flag's bytes, in new memory; nothing that was there has turned.
-/
import Derived.Test.YtahgkhcmchbpbaaLayMore
namespace Go.Proofs.Ytahgkhcmchbpbaa
open Go.RowKit
set_option linter.unusedVariables false
set_option linter.unusedSimpArgs false

theorem below_new (w : World) (o : Obj) : Below w.heap.size w (w.alloc o) := (Below.refl _ w).alloc (Nat.le_refl _) o
theorem put_one (w : World) (x : UInt8) (c : Int) (hc : (x.toNat : Int) = c) : PutPost w [x] (.returned (.slice (some ⟨w.heap.size, 0, none⟩) 1 1)) (w.alloc (.cells #[.int .u8 c] 5)) :=
  ⟨⟨w.heap.size, 1, rfl, Nat.le_refl _, own_new w [x] _ 1 rfl (by subst hc; rfl) (by decide) _ rfl⟩, below_new _ _⟩

set_option maxHeartbeats 1600000 in
theorem refNumber_nat : ∀ (k N : Nat) (w : World), N < 128 ^ (k + 1) → N < 9223372036854775808 → Calls Try.prog 38 #[.int .i64 (N : Int)] w (PutPost w (digs N)) := by
  intro k
  induction k with
  | zero =>
    intro N w h1 h2
    have h3 : N < 128 := by simpa using h1
    have Hd := Lib.hid (digs_small h3)
    have HC := Lib.hid (show (((UInt8.ofNat N).toNat : Nat) : Int) = (N : Int) by rw [toNat_ofNat (by omega)])
    clear h1
    have q0 : decide ((N : Int) < 0) = false := decide_eq_false (by omega)
    have q1 : decide ((N : Int) < 128) = true := decide_eq_true (by omega)
    go_enter Try.func38, Try.ntmps38
    go_wp2_with fail
    go_ret
    rw [Hd.out]
    exact put_one w _ _ HC.out
  | succ k ih =>
    intro N w h1 h2
    by_cases h3 : N < 128
    · have Hd := Lib.hid (digs_small h3)
      have HC := Lib.hid (show (((UInt8.ofNat N).toNat : Nat) : Int) = (N : Int) by rw [toNat_ofNat (by omega)])
      clear ih h1
      have q0 : decide ((N : Int) < 0) = false := decide_eq_false (by omega)
      have q1 : decide ((N : Int) < 128) = true := decide_eq_true (by omega)
      go_enter Try.func38, Try.ntmps38
      go_wp2_with fail
      go_ret
      rw [Hd.out]
      exact put_one w _ _ HC.out
    · have Hd := Lib.hid (digs_great h3)
      have HC : (((UInt8.ofNat (128 + N % 128)).toNat : Nat) : Int) = 128 + (N : Int) % 128 := by rw [toNat_ofNat (by omega)]; omega
      have HO := Lib.hid (own_new w [UInt8.ofNat (128 + N % 128)] #[.int .u8 (128 + (N : Int) % 128)] 1 rfl (by rw [← HC]; rfl) (by decide) _ rfl)
      have HB := Lib.hid (below_new w (.cells #[.int .u8 (128 + (N : Int) % 128)] 5))
      have HI := Lib.hid (ih (N / 128) (w.alloc (.cells #[.int .u8 (128 + (N : Int) % 128)] 5)) (by rw [Nat.div_lt_iff_lt_mul (by decide), ← Nat.pow_succ]; exact h1) (by omega))
      have hq : (digs (N / 128)).length ≤ 9 := len_digs _ (by rw [pow128_9]; omega)
      clear ih HC h1
      have q0 : decide ((N : Int) < 0) = false := decide_eq_false (by omega)
      have q1 : decide ((N : Int) < 128) = false := decide_eq_false (by omega)
      generalize hqs : digs (N / 128) = qs at *
      go_enter Try.func38, Try.ntmps38
      go_wp2_with fail
      refine HI.out.mono ?_
      rintro e w1 ⟨⟨g1, cap1, rfl, hg1, ho1⟩, hb1⟩
      have HO1 := Lib.hid (HO.out.below hb1)
      have HS1 := Lib.hid (Src.ofRow (n := qs.length) rfl (ho1.row (lo := 0) (Nat.zero_le _)))
      have HB1 := Lib.hid (later HB.out hb1)
      clear ho1 hb1 HI
      go_wp2_with (at_builtin; refine wpList_puts rfl (.tmp 16) (.tmp 19) _ rfl rfl (.inr ⟨w.heap.size, 1, rfl, Nat.le_refl _, HO1.out⟩) HB1.out.size (.slice (some ⟨g1, 0, none⟩) qs.length cap1) qs.length qs rfl rfl HS1.out (.inr ⟨w.heap.size, 1, rfl, Nat.le_refl _, HO1.out⟩) (by simp; omega) ?_; rintro g2 cap2 w2 hg2 ho2 hb2)
      go_ret
      rw [Hd.out]
      refine ⟨⟨g2, cap2, ?_, hg2, ho2⟩, HB1.out.trans hb2⟩
      rw [List.length_cons, Nat.add_comm]
      rfl

set_option maxHeartbeats 800000 in
theorem refNumber_put (n : Int) (w : World) (h0 : -9223372036854775808 ≤ n) (h1 : n ≤ 9223372036854775807) : Calls Try.prog 38 #[.int .i64 n] w (PutPost w (digs (natI n))) := by
  by_cases hn : n < 0
  · have Hd := Lib.hid (show digs (natI n) = [0] by rw [show natI n = 0 by unfold natI; omega, digs_small (by decide)]; rfl)
    go_enter Try.func38, Try.ntmps38
    go_wp2_with fail
    go_ret
    rw [Hd.out]
    exact put_one w 0 0 rfl
  · obtain ⟨N, rfl⟩ := Int.eq_ofNat_of_zero_le (show 0 ≤ n by omega)
    exact refNumber_nat 8 N w (by rw [show 8 + 1 = 9 from rfl, pow128_9]; omega) (by omega)

set_option maxHeartbeats 800000 in
theorem refText_put (s : ByteArray) (w : World) (hs : s.size ≤ 1000000) : Calls Try.prog 39 #[.string s] w (PutPost w (textB s)) := by
  have HN := Lib.hid (refNumber_nat 8 s.size w (Nat.lt_of_le_of_lt hs (by decide)) (by omega))
  have hd := len_digs s.size (Nat.lt_of_le_of_lt hs (by decide))
  have Hx := Lib.hid (show textB s = digs s.size ++ s.data.toList from rfl)
  have Hy := Lib.hid (textB_len s)
  generalize digs s.size = xs at *
  go_enter Try.func39, Try.ntmps39
  go_wp2_with fail
  refine HN.out.mono ?_
  rintro e w1 ⟨⟨g, cap, rfl, hg, ho⟩, hb⟩
  have Ho := Lib.hid ho
  have Hb := Lib.hid hb
  clear ho hb HN
  go_wp2_with (at_builtin; refine wpList_puts rfl (.tmp 5) (.tmp 6) _ rfl rfl (.inr ⟨g, cap, rfl, hg, Ho.out⟩) Hb.out.size (.string s) s.size s.data.toList rfl (by rw [Array.length_toList]; rfl) (Src.ofString _ Try.underlying9 s) (.inr ⟨g, cap, rfl, hg, Ho.out⟩) (by omega) ?_; rintro g2 cap2 w2 hg2 ho2 hb2)
  go_ret
  refine ⟨⟨g2, cap2, ?_, hg2, own_cast ho2 Hx.out.symm⟩, Hb.out.trans hb2⟩
  rw [Hy.out]
  rfl

theorem refFlag_put (is : Bool) (w : World) : Calls Try.prog 40 #[.bool is] w (PutPost w (flagB is)) := by
  cases is
  · go_enter Try.func40, Try.ntmps40
    go_wp2_with fail
    go_ret
    exact put_one w 0 0 rfl
  · go_enter Try.func40, Try.ntmps40
    go_wp2_with fail
    go_ret
    exact put_one w 1 1 rfl
end Go.Proofs.Ytahgkhcmchbpbaa
