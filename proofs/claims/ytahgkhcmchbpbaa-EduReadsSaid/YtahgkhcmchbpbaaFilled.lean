/-
  What package name's 'filled' answers for a part, for a server's bytes, for an event's bytes: for every text. Nothing that was there is turned.
-/
import Derived.Test.YtahgkhcmchbpbaaStands
namespace Go.Proofs.Ytahgkhcmchbpbaa
open Go.RowKit
set_option linter.unusedVariables false
set_option linter.unusedSimpArgs false
set_option maxRecDepth 4000

/-- A text's answer, and nothing that was there has turned. -/
def BoolPost (b : Bool) (w : World) (e : Ending) (w' : World) : Prop := e = .returned (.bool b) ∧ Below w.heap.size w w'

theorem may_part (c : Int) (bp bm : Addr) (w : World) (h0 : 0 ≤ c) (h1 : c ≤ 255)
    (hp : w.cell? bp = some (.func (.func 88) #[] #[])) (hm : w.cell? bm = some (.string ⟨#[46, 45, 95]⟩)) :
    Calls Try.prog 90 #[.int .u8 c, .pointer (some bp), .pointer (some bm)] w fun e w' => e = .returned (.bool (partI c)) ∧ w = w' :=
  with_any c bp bm _ w h0 h1 hp hm
theorem may_host (c : Int) (bp bm : Addr) (w : World) (h0 : 0 ≤ c) (h1 : c ≤ 255)
    (hp : w.cell? bp = some (.func (.func 88) #[] #[])) (hm : w.cell? bm = some (.string ⟨#[46, 45]⟩)) :
    Calls Try.prog 90 #[.int .u8 c, .pointer (some bp), .pointer (some bm)] w fun e w' => e = .returned (.bool (hostI c)) ∧ w = w' :=
  with_any c bp bm _ w h0 h1 hp hm
theorem may_sign (c : Int) (bd bp bm : Addr) (w : World) (h0 : 0 ≤ c) (h1 : c ≤ 255)
    (hd : w.cell? bd = some (.func (.func 90) #[] #[.pointer (some bp), .pointer (some bm)]))
    (hp : w.cell? bp = some (.func (.func 88) #[] #[])) (hm : w.cell? bm = some (.string ⟨#[45, 95]⟩)) :
    Calls Try.prog 92 #[.int .u8 c, .pointer (some bd)] w fun e w' => e = .returned (.bool (signI c)) ∧ w = w' :=
  event_any c bd bp bm _ w h0 h1 hd hp hm

set_option maxHeartbeats 1600000 in
theorem filled_part (s : ByteArray) (w : World) (hs : s.size ≤ maxLen) :
    Calls Try.prog 80 #[.int .i64 0, .string s] w (BoolPost (filledB partI s) w) := by
  unfold maxLen at hs
  have hi : ∀ (x0 x1 x2 x3 : Value) (w : World), (Instr.index 90 (.agg #[x0, x1, x2, x3]) (.int .i64 0)).run Try.prog w = .ok x0 w := fun _ _ _ _ _ => by kernel_rfl
  by_cases h1 : s.size < 1
  · rw [filledB_no _ _ (.inl h1)]
    go_enter Try.func80, Try.ntmps80
    go_wp2
    go_ret
    exact ⟨rfl, Below.refl _ _⟩
  · by_cases h2 : 16 < s.size
    · rw [filledB_no _ _ (.inr h2)]
      go_enter Try.func80, Try.ntmps80
      go_wp2
      go_ret
      exact ⟨rfl, Below.refl _ _⟩
    · rw [filledB_in _ _ (by omega) (by omega)]
      have q1 : decide ((s.size : Int) < 1) = false := by simp; omega
      have q2 : decide ((16 : Int) < (s.size : Int)) = false := by simp; omega
      go_enter Try.func80, Try.ntmps80
      go_wp2_with fail
      refine (stands_any _).mono ?_
      rintro e w1 ⟨v, rfl, ⟨bp, b0, b1, b2, bd, rfl, hp, hb0, hb1, hb2, hbd⟩, hbel⟩
      go_wp2_with fail
      go_loop [20] (fun i => ∃ k : Nat, k ≤ s.size ∧ i = .int .i64 k ∧ allI partI (s.data.toList.take k) = true) (fun i => s.size - (intOf i).toNat)
      case atStart => exact ⟨0, Nat.zero_le _, rfl, by simp [allI]⟩
      case round =>
        obtain ⟨k, hk, rfl, hall⟩ := hrel
        have Hall := Lib.hid hall
        clear hall
        by_cases hlt : k < s.size
        · have hb : (s[k].toNat : Int) ≤ 255 := by have := s[k].toNat_lt; omega
          cases hv : partI (s[k].toNat : Int)
          · have Hv := Lib.hid hv
            have Hf := Lib.hid (allI_stop partI s k hlt hv)
            clear hv
            go_wp2_with fail
            refine (may_part _ bp b1 _ (by omega) hb hp hb1).mono ?_
            rintro e w' ⟨rfl, rfl⟩
            rw [Hv.out]
            go_wp2
            go_ret
            rw [Hf.out]
            exact ⟨rfl, hbel⟩
          · have Hv := Lib.hid hv
            have Hf := Lib.hid (allI_step partI s k hlt Hall.out hv)
            clear hv
            go_wp2_with fail
            refine (may_part _ bp b1 _ (by omega) hb hp hb1).mono ?_
            rintro e w' ⟨rfl, rfl⟩
            rw [Hv.out]
            go_wp2
            go_round
            case rel => exact ⟨k + 1, by omega, by go_num, Hf.out⟩
            case measure => simp [intOf]; omega
        · have Hf := Lib.hid (allI_full partI s k (by omega) Hall.out)
          go_wp2
          go_ret
          rw [Hf.out]
          exact ⟨rfl, hbel⟩

set_option maxHeartbeats 1600000 in
theorem filled_host (s : ByteArray) (w : World) (hs : s.size ≤ maxLen) :
    Calls Try.prog 80 #[.int .i64 1, .string s] w (BoolPost (filledB hostI s) w) := by
  unfold maxLen at hs
  have hi : ∀ (x0 x1 x2 x3 : Value) (w : World), (Instr.index 90 (.agg #[x0, x1, x2, x3]) (.int .i64 1)).run Try.prog w = .ok x1 w := fun _ _ _ _ _ => by kernel_rfl
  by_cases h1 : s.size < 1
  · rw [filledB_no _ _ (.inl h1)]
    go_enter Try.func80, Try.ntmps80
    go_wp2
    go_ret
    exact ⟨rfl, Below.refl _ _⟩
  · by_cases h2 : 16 < s.size
    · rw [filledB_no _ _ (.inr h2)]
      go_enter Try.func80, Try.ntmps80
      go_wp2
      go_ret
      exact ⟨rfl, Below.refl _ _⟩
    · rw [filledB_in _ _ (by omega) (by omega)]
      have q1 : decide ((s.size : Int) < 1) = false := by simp; omega
      have q2 : decide ((16 : Int) < (s.size : Int)) = false := by simp; omega
      go_enter Try.func80, Try.ntmps80
      go_wp2_with fail
      refine (stands_any _).mono ?_
      rintro e w1 ⟨v, rfl, ⟨bp, b0, b1, b2, bd, rfl, hp, hb0, hb1, hb2, hbd⟩, hbel⟩
      go_wp2_with fail
      go_loop [20] (fun i => ∃ k : Nat, k ≤ s.size ∧ i = .int .i64 k ∧ allI hostI (s.data.toList.take k) = true) (fun i => s.size - (intOf i).toNat)
      case atStart => exact ⟨0, Nat.zero_le _, rfl, by simp [allI]⟩
      case round =>
        obtain ⟨k, hk, rfl, hall⟩ := hrel
        have Hall := Lib.hid hall
        clear hall
        by_cases hlt : k < s.size
        · have hb : (s[k].toNat : Int) ≤ 255 := by have := s[k].toNat_lt; omega
          cases hv : hostI (s[k].toNat : Int)
          · have Hv := Lib.hid hv
            have Hf := Lib.hid (allI_stop hostI s k hlt hv)
            clear hv
            go_wp2_with fail
            refine (may_host _ bp b2 _ (by omega) hb hp hb2).mono ?_
            rintro e w' ⟨rfl, rfl⟩
            rw [Hv.out]
            go_wp2
            go_ret
            rw [Hf.out]
            exact ⟨rfl, hbel⟩
          · have Hv := Lib.hid hv
            have Hf := Lib.hid (allI_step hostI s k hlt Hall.out hv)
            clear hv
            go_wp2_with fail
            refine (may_host _ bp b2 _ (by omega) hb hp hb2).mono ?_
            rintro e w' ⟨rfl, rfl⟩
            rw [Hv.out]
            go_wp2
            go_round
            case rel => exact ⟨k + 1, by omega, by go_num, Hf.out⟩
            case measure => simp [intOf]; omega
        · have Hf := Lib.hid (allI_full hostI s k (by omega) Hall.out)
          go_wp2
          go_ret
          rw [Hf.out]
          exact ⟨rfl, hbel⟩

set_option maxHeartbeats 1600000 in
theorem filled_sign (s : ByteArray) (w : World) (hs : s.size ≤ maxLen) :
    Calls Try.prog 80 #[.int .i64 3, .string s] w (BoolPost (filledB signI s) w) := by
  unfold maxLen at hs
  have hi : ∀ (x0 x1 x2 x3 : Value) (w : World), (Instr.index 90 (.agg #[x0, x1, x2, x3]) (.int .i64 3)).run Try.prog w = .ok x3 w := fun _ _ _ _ _ => by kernel_rfl
  by_cases h1 : s.size < 1
  · rw [filledB_no _ _ (.inl h1)]
    go_enter Try.func80, Try.ntmps80
    go_wp2
    go_ret
    exact ⟨rfl, Below.refl _ _⟩
  · by_cases h2 : 16 < s.size
    · rw [filledB_no _ _ (.inr h2)]
      go_enter Try.func80, Try.ntmps80
      go_wp2
      go_ret
      exact ⟨rfl, Below.refl _ _⟩
    · rw [filledB_in _ _ (by omega) (by omega)]
      have q1 : decide ((s.size : Int) < 1) = false := by simp; omega
      have q2 : decide ((16 : Int) < (s.size : Int)) = false := by simp; omega
      go_enter Try.func80, Try.ntmps80
      go_wp2_with fail
      refine (stands_any _).mono ?_
      rintro e w1 ⟨v, rfl, ⟨bp, b0, b1, b2, bd, rfl, hp, hb0, hb1, hb2, hbd⟩, hbel⟩
      go_wp2_with fail
      go_loop [20] (fun i => ∃ k : Nat, k ≤ s.size ∧ i = .int .i64 k ∧ allI signI (s.data.toList.take k) = true) (fun i => s.size - (intOf i).toNat)
      case atStart => exact ⟨0, Nat.zero_le _, rfl, by simp [allI]⟩
      case round =>
        obtain ⟨k, hk, rfl, hall⟩ := hrel
        have Hall := Lib.hid hall
        clear hall
        by_cases hlt : k < s.size
        · have hb : (s[k].toNat : Int) ≤ 255 := by have := s[k].toNat_lt; omega
          cases hv : signI (s[k].toNat : Int)
          · have Hv := Lib.hid hv
            have Hf := Lib.hid (allI_stop signI s k hlt hv)
            clear hv
            go_wp2_with fail
            refine (may_sign _ bd bp b0 _ (by omega) hb hbd hp hb0).mono ?_
            rintro e w' ⟨rfl, rfl⟩
            rw [Hv.out]
            go_wp2
            go_ret
            rw [Hf.out]
            exact ⟨rfl, hbel⟩
          · have Hv := Lib.hid hv
            have Hf := Lib.hid (allI_step signI s k hlt Hall.out hv)
            clear hv
            go_wp2_with fail
            refine (may_sign _ bd bp b0 _ (by omega) hb hbd hp hb0).mono ?_
            rintro e w' ⟨rfl, rfl⟩
            rw [Hv.out]
            go_wp2
            go_round
            case rel => exact ⟨k + 1, by omega, by go_num, Hf.out⟩
            case measure => simp [intOf]; omega
        · have Hf := Lib.hid (allI_full signI s k (by omega) Hall.out)
          go_wp2
          go_ret
          rw [Hf.out]
          exact ⟨rfl, hbel⟩

end Go.Proofs.Ytahgkhcmchbpbaa
