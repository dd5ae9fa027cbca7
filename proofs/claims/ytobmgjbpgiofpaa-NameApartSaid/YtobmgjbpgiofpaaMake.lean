/-
  What package name's Make answers, for every sign and every two texts. Nothing that was there is turned.
-/
import Derived.Test.YtobmgjbpgiofpaaSplit
namespace Go.Proofs.Ytobmgjbpgiofpaa
open Go.RowKit
set_option linter.unusedVariables false
set_option linter.unusedSimpArgs false

/-- The text of a sign, a part, a colon and a server. -/
def joinS (c : Int) (x y : ByteArray) : ByteArray := byteS c ++ x ++ ⟨#[58]⟩ ++ y
/-- What is made, with its error's number. -/
def MakePost (x : ByteArray) (n : Int) (w : World) (e : Ending) (w' : World) : Prop := e = .returned (.tuple #[.string x, .int .i64 n]) ∧ Below w.heap.size w w'

set_option maxHeartbeats 800000 in
theorem make_unsigned (c : Int) (x y : ByteArray) (w : World) (hc : (c == 64 || c == 33) = false) :
    Calls Try.prog 25 #[.int .u8 c, .string x, .string y] w (MakePost ⟨#[]⟩ 1 w) := by
  have Hc := Lib.hid hc
  clear hc
  go_enter Try.func25, Try.ntmps25
  go_wp2_with fail
  refine (signed_any _ _).mono ?_
  rintro e w' ⟨rfl, rfl⟩
  rw [Hc.out]
  go_wp2
  go_ret2
  exact ⟨rfl, Below.refl _ _⟩

set_option maxHeartbeats 1600000 in
theorem make_signed (c : Int) (x y : ByteArray) (w : World) (hx : x.size ≤ 1000) (hy : y.size ≤ 1000) (h0 : 0 ≤ c) (h1 : c ≤ 255) (hc : (c == 64 || c == 33) = true) :
    Calls Try.prog 25 #[.int .u8 c, .string x, .string y] w (MakePost (if filledB partI x && serverB y then joinS c x y else ⟨#[]⟩) (if filledB partI x && serverB y then 0 else 2) w) := by
  have hx' : x.size ≤ maxLen := by unfold maxLen; omega
  have hy' : y.size ≤ maxLen := by unfold maxLen; omega
  have hcv := conv_byte c
  have hz1 := byteS_size c
  have hz2 : (byteS c ++ x).size = 1 + x.size := by rw [ByteArray.size_append, byteS_size]
  have hz3 : (byteS c ++ x ++ ⟨#[58]⟩).size = 1 + x.size + 1 := by rw [ByteArray.size_append, hz2]; rfl
  have Hc := Lib.hid hc
  clear hc
  cases hf : filledB partI x
  · have Hf := Lib.hid hf
    clear hf
    go_enter Try.func25, Try.ntmps25
    go_wp2_with fail
    refine (signed_any _ _).mono ?_
    rintro e w' ⟨rfl, rfl⟩
    rw [Hc.out]
    go_wp2_with fail
    refine (filled_part x _ hx').mono ?_
    rintro e w1 ⟨rfl, hb1⟩
    rw [Hf.out]
    go_wp2
    go_ret2
    exact ⟨rfl, hb1⟩
  · have Hf := Lib.hid hf
    clear hf
    cases hv : serverB y
    · have Hv := Lib.hid hv
      clear hv
      go_enter Try.func25, Try.ntmps25
      go_wp2_with fail
      refine (signed_any _ _).mono ?_
      rintro e w' ⟨rfl, rfl⟩
      rw [Hc.out]
      go_wp2_with fail
      refine (filled_part x _ hx').mono ?_
      rintro e w1 ⟨rfl, hb1⟩
      rw [Hf.out]
      go_wp2_with fail
      refine (server_any y _ hy').mono ?_
      rintro e w2 ⟨rfl, hb2⟩
      rw [Hv.out]
      go_wp2
      go_ret2
      exact ⟨rfl, hb1.trans (hb2.mono hb1.size)⟩
    · have Hv := Lib.hid hv
      clear hv
      go_enter Try.func25, Try.ntmps25
      go_wp2_with fail
      refine (signed_any _ _).mono ?_
      rintro e w' ⟨rfl, rfl⟩
      rw [Hc.out]
      go_wp2_with fail
      refine (filled_part x _ hx').mono ?_
      rintro e w1 ⟨rfl, hb1⟩
      rw [Hf.out]
      go_wp2_with fail
      refine (server_any y _ hy').mono ?_
      rintro e w2 ⟨rfl, hb2⟩
      rw [Hv.out]
      go_wp2
      go_ret2
      exact ⟨rfl, (hb1.trans (hb2.mono hb1.size)).alloc (Nat.le_trans hb1.size hb2.size) _⟩
end Go.Proofs.Ytobmgjbpgiofpaa
