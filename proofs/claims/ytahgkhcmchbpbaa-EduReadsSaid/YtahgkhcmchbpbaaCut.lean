/-
  What the library's Cut answers around a colon, its CutPrefix of a dollar sign, and its Clone, for every text.
-/
import Derived.Test.YtahgkhcmchbpbaaShelf
import Derived.Test.YtahgkhcmchbpbaaLeaf
import Derived.Deep.QuietTactic
import Derived.BigQuiet
namespace Go.Proofs.Ytahgkhcmchbpbaa
open Go.RowKit
set_option linter.unusedVariables false
set_option linter.unusedSimpArgs false
set_option maxRecDepth 4000

set_option maxHeartbeats 800000 in
theorem cutLite_hit (t : ByteArray) (i : Nat) (hi : Lib.indexByte t.data.toList 58 = (i : Int)) (hlt : i < t.size) (hs : t.size ≤ maxLen) (w : World) :
    Calls Try.prog 86 #[.string t, .string ⟨#[58]⟩] w fun e w' => e = .returned (.tuple #[.string (t.extract 0 i), .string (t.extract (i + 1) t.size), .bool true]) ∧ ∃ n, w' = w.drewN n := by
  unfold maxLen at hs
  have Hi := Lib.hid hi
  clear hi
  have q1 : IntKind.i64.wrap ((i : Int) + 1) = (i : Int) + 1 := IntWalk.i64_in _ (by omega)
  have q2 : ((i : Int) + 1).toNat = i + 1 := by omega
  have q3 : (0 : Int) ≤ (i : Int) + 1 := by omega
  go_enter Try.func86, Try.ntmps86
  go_wp2_with fail
  refine (Try.stringslite_Index_one t 58 _).mono ?_
  rintro e w' ⟨rfl, rfl⟩
  rw [Hi.out]
  go_wp2_with fail
  go_quiet (fail)
  go_wp2
  go_ret3
  exact ⟨rfl, _, rfl⟩

set_option maxHeartbeats 800000 in
theorem cutLite_miss (t : ByteArray) (hi : Lib.indexByte t.data.toList 58 = -1) (w : World) :
    Calls Try.prog 86 #[.string t, .string ⟨#[58]⟩] w fun e w' => e = .returned (.tuple #[.string t, .string ⟨#[]⟩, .bool false]) ∧ ∃ n, w' = w.drewN n := by
  have Hi := Lib.hid hi
  clear hi
  go_enter Try.func86, Try.ntmps86
  go_wp2_with fail
  refine (Try.stringslite_Index_one t 58 _).mono ?_
  rintro e w' ⟨rfl, rfl⟩
  rw [Hi.out]
  go_wp2
  go_ret3
  exact ⟨rfl, 0, rfl⟩

theorem cut_of {t x y : ByteArray} {b : Bool} {w : World}
    (h : Calls Try.prog 86 #[.string t, .string ⟨#[58]⟩] w fun e w' => e = .returned (.tuple #[.string x, .string y, .bool b]) ∧ ∃ n, w' = w.drewN n) :
    Calls Try.prog 82 #[.string t, .string ⟨#[58]⟩] w fun e w' => e = .returned (.tuple #[.string x, .string y, .bool b]) ∧ ∃ n, w' = w.drewN n := by
  have H := Lib.hid h
  clear h
  go_enter Try.func82, Try.ntmps82
  go_wp2_with fail
  refine H.out.mono ?_
  rintro e w' ⟨rfl, n, rfl⟩
  go_wp2
  go_ret3
  exact ⟨rfl, n, rfl⟩

theorem cut_hit (t : ByteArray) (i : Nat) (hi : Lib.indexByte t.data.toList 58 = (i : Int)) (hlt : i < t.size) (hs : t.size ≤ maxLen) (w : World) :
    Calls Try.prog 82 #[.string t, .string ⟨#[58]⟩] w fun e w' => e = .returned (.tuple #[.string (t.extract 0 i), .string (t.extract (i + 1) t.size), .bool true]) ∧ ∃ n, w' = w.drewN n :=
  cut_of (cutLite_hit t i hi hlt hs w)
theorem cut_miss (t : ByteArray) (hi : Lib.indexByte t.data.toList 58 = -1) (w : World) :
    Calls Try.prog 82 #[.string t, .string ⟨#[58]⟩] w fun e w' => e = .returned (.tuple #[.string t, .string ⟨#[]⟩, .bool false]) ∧ ∃ n, w' = w.drewN n :=
  cut_of (cutLite_miss t hi w)

theorem clone_any (s : ByteArray) (w : World) (hs : s.size ≤ 281474976710656) :
    Calls Try.prog 50 #[.string s] w fun e w' => e = .returned (.string s) ∧ Below w.heap.size w w' := by
  go_enter Try.func50, Try.ntmps50
  go_wp2_with fail
  refine (Try.stringslite_Clone s _ hs).mono ?_
  rintro e w' ⟨rfl, hb⟩
  go_wp2
  go_ret
  exact ⟨rfl, hb⟩
end Go.Proofs.Ytahgkhcmchbpbaa
