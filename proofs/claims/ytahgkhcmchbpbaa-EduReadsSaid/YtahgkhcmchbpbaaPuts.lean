/-
  What package lay puts behind bytes: a number's, a text's, a flag's; what comes lies in new memory, and nothing that was there has turned.
-/
import Derived.Test.YtahgkhcmchbpbaaMem
namespace Go.Proofs.Ytahgkhcmchbpbaa
open Go.RowKit
set_option linter.unusedVariables false
set_option linter.unusedSimpArgs false

theorem own_any (v : Value) (bs : List UInt8) (lo : Nat) (w : World) (h : Row w lo v bs) :
    Calls Try.prog 77 #[v] w fun e w' => (∃ A, e = .returned (.slice A bs.length bs.length) ∧ Row w lo (.slice A bs.length bs.length) bs) ∧ w = w' := by
  rcases h with ⟨rfl, rfl⟩ | ⟨g, off, c, cur, rfl, hg, hh, h1, h2, h3⟩
  · go_enter Try.func77, Try.ntmps77
    go_wp2
    go_ret
    exact ⟨⟨none, rfl, Row.nil _ _⟩, rfl⟩
  · have Hh := Lib.hid hh
    have H3 := Lib.hid h3
    clear hh h3
    unfold maxLen at h2
    go_enter Try.func77, Try.ntmps77
    go_wp2
    go_ret
    exact ⟨⟨_, rfl, .inr ⟨g, off, bs.length, cur, rfl, hg, Hh.out, Nat.le_refl _, by unfold maxLen; omega, H3.out⟩⟩, rfl⟩

/-- A number as its bytes are laid: of one below 0 those of 0. -/
def natI (n : Int) : Nat := n.toNat

theorem step_last {N q : Nat} {pre : List UInt8} (h : digs N = pre ++ digs q) (hq : q < 128) : digs N = pre ++ [UInt8.ofNat q] := by rw [h, digs_small hq]
theorem number_end {w wr w2 : World} {bs pre ds : List UInt8} {x : UInt8} {o : Obj} {g cap : Nat} (hbel : Below w.heap.size w wr) (hs : ds = pre ++ [x]) (hg : w.heap.size ≤ g) (ho : Own w2 g cap (bs ++ pre ++ [x])) (hb : Below w.heap.size (wr.alloc o) w2) :
    (∃ g' cap', (Ending.returned (.slice (some ⟨g, 0, none⟩) (bs.length + pre.length + 1) cap) : Ending) = .returned (.slice (some ⟨g', 0, none⟩) (bs.length + ds.length) cap') ∧ w.heap.size ≤ g' ∧ Own w2 g' cap' (bs ++ ds)) ∧ Below w.heap.size w w2 := by
  refine ⟨⟨g, cap, ?_, hg, ?_⟩, (hbel.alloc hbel.size o).trans hb⟩
  · rw [hs, List.length_append, Nat.add_assoc]; rfl
  · rw [hs, ← List.append_assoc]; exact ho

theorem pow_step {q k : Nat} (h : q < 128 ^ (9 - k)) (hk : k < 9) : q / 128 < 128 ^ (9 - (k + 1)) := by
  rw [Nat.div_lt_iff_lt_mul (by decide), ← Nat.pow_succ, show (9 - (k + 1)).succ = 9 - k by omega]
  exact h
theorem digs_step {N q : Nat} {pre : List UInt8} (h : digs N = pre ++ digs q) (hq : ¬ q < 128) : digs N = (pre ++ [UInt8.ofNat (128 + q % 128)]) ++ digs (q / 128) := by rw [h, digs_great hq]; simp
theorem number_step {w wr w2 : World} {bs pre : List UInt8} {x : UInt8} {o : Obj} {g cap : Nat} (hbel : Below w.heap.size w wr) (hg : w.heap.size ≤ g) (ho : Own w2 g cap (bs ++ pre ++ [x])) (hb : Below w.heap.size (wr.alloc o) w2) :
    Puts w2 w.heap.size (.slice (some ⟨g, 0, none⟩) (bs.length + pre.length + 1) cap) (bs ++ (pre ++ [x])) ∧ Below w.heap.size w w2 := by
  refine ⟨.inr ⟨g, cap, ?_, hg, ?_⟩, (hbel.alloc hbel.size o).trans hb⟩
  · rw [List.length_append, List.length_append, Nat.add_assoc]; rfl
  · rw [← List.append_assoc]; exact ho

set_option maxHeartbeats 1600000 in
theorem number_any (v : Value) (bs : List UInt8) (lo : Nat) (n : Int) (w : World) (h : Row w lo v bs) (hl : bs.length ≤ 1000000) (h0 : -9223372036854775808 ≤ n) (h1 : n ≤ 9223372036854775807) :
    Calls Try.prog 55 #[v, .int .i64 n] w fun e w' => (∃ g cap, e = .returned (.slice (some ⟨g, 0, none⟩) (bs.length + (digs (natI n)).length) cap) ∧ w.heap.size ≤ g ∧ Own w' g cap (bs ++ digs (natI n))) ∧ Below w.heap.size w w' := by
  have hN : ∃ N : Nat, natI n = N ∧ ((max n 0 : Int) = (N : Int)) ∧ N < 128 ^ 9 := ⟨_, rfl, by unfold natI; omega, by unfold natI; omega⟩
  obtain ⟨N, hN1, hN2, hN3⟩ := hN
  rw [hN1]
  have H2 := Lib.hid hN2
  have H := Lib.hid h
  clear hN1 hN2 h
  go_enter Try.func55, Try.ntmps55
  go_wp2_with fail
  refine (own_any v bs lo _ H.out).mono ?_
  rintro e w' ⟨⟨A, rfl, hA⟩, rfl⟩
  have HA := Lib.hid hA
  clear hA
  go_wp2_with fail
  all_goals
    go_loopw [5, 1, 10] (fun o m i wr => ∃ (k q : Nat) (pre : List UInt8), k ≤ 9 ∧ i = .int .i64 (k : Int) ∧ m = .int .i64 (q : Int) ∧ q < 128 ^ (9 - k) ∧ q < 9223372036854775808 ∧ Hid (pre.length = k) ∧ Hid (digs N = pre ++ digs q) ∧ Hid (Puts wr w.heap.size o (bs ++ pre)) ∧ Hid (Below w.heap.size w wr)) (fun _ _ i _ => 9 - (intOf i).toNat)
    case atStart => exact ⟨0, N, [], by omega, rfl, by have := H2.out; first | exact congrArg (Value.int .i64) (show (0 : Int) = (N : Int) by omega) | exact congrArg (Value.int .i64) (show n = (N : Int) by omega), hN3, Nat.lt_of_lt_of_le hN3 (by decide), Lib.hid rfl, Lib.hid rfl, Lib.hid (.inl ⟨A, by simp, by simpa using HA.out.mono (Nat.zero_le _)⟩), Lib.hid (Below.refl _ _)⟩
    case round =>
      obtain ⟨k, q, pre, hk, rfl, rfl, hq, hq2, hp, hd, hput, hbel⟩ := hrel
      have hq3 : k < 9 ∨ q < 128 := by
        rcases Nat.lt_or_ge k 9 with h | h
        · exact .inl h
        · obtain rfl : k = 9 := by omega
          right
          simp at hq
          omega
      by_cases hq1 : q < 128
      · have Hs := Lib.hid (step_last hd.out hq1)
        have Hc : (((UInt8.ofNat q).toNat : Nat) : Int) = (q : Int) := by rw [toNat_ofNat (by omega)]
        have HC := Lib.hid Hc
        clear Hc
        have Hl : (bs ++ pre).length + 1 ≤ 1099511627776 := by rw [List.length_append, hp.out]; omega
        have q2 : decide ((q : Int) < 128) = true := by simp; omega
        by_cases hk9 : k < 9
        · have q1 : decide ((k : Int) < 9) = true := by simp; omega
          go_wp2_with (at_builtin; refine wpList_puts rfl (.tmp 24) (.tmp 27) _ rfl rfl (hput.out.alloc _) (by have := hbel.out.size; simp; omega) (.slice (some ⟨wr.heap.size, 0, none⟩) 1 1) 1 [UInt8.ofNat q] rfl rfl (Src.ofLit wr _ _ HC.out _ rfl) (.inl (by decide)) Hl ?_; rintro g cap w2 hg ho hb)
          go_ret
          exact number_end hbel.out Hs.out hg ho hb
        · have q1 : decide ((k : Int) < 9) = false := by simp; omega
          go_wp2_with (at_builtin; refine wpList_puts rfl (.tmp 24) (.tmp 27) _ rfl rfl (hput.out.alloc _) (by have := hbel.out.size; simp; omega) (.slice (some ⟨wr.heap.size, 0, none⟩) 1 1) 1 [UInt8.ofNat q] rfl rfl (Src.ofLit wr _ _ HC.out _ rfl) (.inl (by decide)) Hl ?_; rintro g cap w2 hg ho hb)
          go_ret
          exact number_end hbel.out Hs.out hg ho hb
      · have q1 : decide ((k : Int) < 9) = true := by simp; omega
        have q2 : decide ((q : Int) < 128) = false := by simp; omega
        have HC := Lib.hid (show (((UInt8.ofNat (128 + q % 128)).toNat : Nat) : Int) = 128 + (q : Int) % 128 by rw [toNat_ofNat (by omega)]; omega)
        go_wp2_with (at_builtin; refine wpList_puts rfl (.tmp 14) (.tmp 19) _ rfl rfl (hput.out.alloc _) (by have := hbel.out.size; simp; omega) (.slice (some ⟨wr.heap.size, 0, none⟩) 1 1) 1 [UInt8.ofNat (128 + q % 128)] rfl rfl (Src.ofLit wr _ _ HC.out _ rfl) (.inl (by decide)) (by rw [List.length_append, hp.out]; omega) ?_; rintro g cap w2 hg ho hb)
        have hk9 : k < 9 := by omega
        obtain ⟨e1, e2⟩ := number_step hbel.out hg ho hb
        refine ⟨⟨k + 1, q / 128, pre ++ [UInt8.ofNat (128 + q % 128)], by omega, by go_num, ?_, pow_step hq hk9, by omega, Lib.hid (by rw [List.length_append, hp.out]; rfl), Lib.hid (digs_step hd.out hq1), Lib.hid e1, Lib.hid e2⟩, ?_⟩
        · first | rfl | go_num
        · simp [intOf]; omega
end Go.Proofs.Ytahgkhcmchbpbaa
