/-
  Plain facts on texts as lists of bytes: what a part, a server, an event is, by which bytes stand where. No program is named here.
-/
import Derived.WalkKit
import Derived.Lib.Bytealg
namespace Go.Proofs.Ytahgkhcmchbpbaa
open Go.RowKit
set_option linter.unusedVariables false
set_option linter.unusedSimpArgs false

/-- A small letter or a digit. -/
def lowI (c : Int) : Bool := decide (97 ≤ c ∧ c ≤ 122) || decide (48 ≤ c ∧ c ≤ 57)
/-- A small letter, a digit, or a byte of more. -/
def withI (more : ByteArray) (c : Int) : Bool := lowI c || decide (0 ≤ Lib.indexByte more.data.toList c.toNat.toUInt8)
/-- So, or a great letter. -/
def eventI (more : ByteArray) (c : Int) : Bool := withI more c || decide (65 ≤ c ∧ c ≤ 90)
def partI : Int → Bool := withI ⟨#[46, 45, 95]⟩
def hostI : Int → Bool := withI ⟨#[46, 45]⟩
def signI : Int → Bool := eventI ⟨#[45, 95]⟩

theorem take_snoc (s : ByteArray) (k : Nat) (h : k < s.size) : s.data.toList.take (k + 1) = s.data.toList.take k ++ [s[k]] := by
  rw [List.take_succ_eq_append_getElem (by simpa using h)]; rfl

/-- Each byte may stand. -/
def allI (p : Int → Bool) (l : List UInt8) : Bool := l.all fun c => p (c.toNat : Int)
/-- 1 to 16 bytes, each of which may stand. -/
def filledB (p : Int → Bool) (s : ByteArray) : Bool := decide (1 ≤ s.size ∧ s.size ≤ 16) && allI p s.data.toList

theorem allI_step (p : Int → Bool) (s : ByteArray) (k : Nat) (h : k < s.size) (ha : allI p (s.data.toList.take k) = true) (hp : p (s[k].toNat : Int) = true) : allI p (s.data.toList.take (k + 1)) = true := by
  rw [take_snoc s k h]
  simp only [allI, List.all_append, List.all_cons, List.all_nil, Bool.and_true, Bool.and_eq_true] at *
  exact ⟨ha, hp⟩
theorem allI_stop (p : Int → Bool) (s : ByteArray) (k : Nat) (h : k < s.size) (hp : p (s[k].toNat : Int) = false) : allI p s.data.toList = false := by
  unfold allI
  rw [List.all_eq_false]
  exact ⟨s[k], List.getElem_mem (l := s.data.toList) (n := k) (by simpa using h), by rw [hp]; simp⟩
theorem allI_full (p : Int → Bool) (s : ByteArray) (k : Nat) (h : s.size ≤ k) (ha : allI p (s.data.toList.take k) = true) : allI p s.data.toList = true := by
  rwa [List.take_of_length_le (by simpa using h)] at ha
theorem filledB_no (p : Int → Bool) (s : ByteArray) (h : s.size < 1 ∨ 16 < s.size) : filledB p s = false := by
  unfold filledB
  have : decide (1 ≤ s.size ∧ s.size ≤ 16) = false := by simp; omega
  rw [this]; rfl
theorem filledB_in (p : Int → Bool) (s : ByteArray) (h1 : 1 ≤ s.size) (h2 : s.size ≤ 16) : filledB p s = allI p s.data.toList := by
  unfold filledB
  have : decide (1 ≤ s.size ∧ s.size ≤ 16) = true := by simp; omega
  rw [this]; rfl
theorem filledB_stop (p : Int → Bool) (s : ByteArray) (h : allI p s.data.toList = false) : filledB p s = false := by
  unfold filledB; rw [h, Bool.and_false]
theorem filledB_size {p : Int → Bool} {s : ByteArray} (h : filledB p s = true) : 0 < s.size ∧ s.size ≤ 16 := by
  unfold filledB at h
  rw [Bool.and_eq_true, decide_eq_true_iff] at h
  omega

/-- The first and the last byte are small letters or digits. -/
def edgeB (s : ByteArray) : Bool := if h : 0 < s.size then lowI (s[0].toNat : Int) && lowI (s[s.size - 1].toNat : Int) else false
/-- A server. -/
def serverB (s : ByteArray) : Bool := filledB hostI s && edgeB s
theorem serverB_no (s : ByteArray) (h : filledB hostI s = false) : serverB s = false := by unfold serverB; rw [h]; rfl
theorem serverB_yes (s : ByteArray) (h : filledB hostI s = true) (z : 0 < s.size) : serverB s = (lowI (s[0].toNat : Int) && lowI (s[s.size - 1].toNat : Int)) := by
  unfold serverB edgeB
  rw [h, dif_pos z]; rfl

theorem bytes_all {P : Int → Prop} (h : ∀ n : Fin 256, P ((n.val : Nat) : Int)) {c : Int} (h0 : 0 ≤ c) (h1 : c ≤ 255) : P c := by
  obtain ⟨n, rfl⟩ := Int.eq_ofNat_of_zero_le h0
  exact h ⟨n, by omega⟩
theorem partI_eq {c : Int} (h0 : 0 ≤ c) (h1 : c ≤ 255) : partI c = (lowI c || c == 46 || c == 45 || c == 95) :=
  bytes_all (P := fun c => partI c = (lowI c || c == 46 || c == 45 || c == 95)) (by decide +kernel) h0 h1
theorem hostI_eq {c : Int} (h0 : 0 ≤ c) (h1 : c ≤ 255) : hostI c = (lowI c || c == 46 || c == 45) :=
  bytes_all (P := fun c => hostI c = (lowI c || c == 46 || c == 45)) (by decide +kernel) h0 h1
theorem signI_eq {c : Int} (h0 : 0 ≤ c) (h1 : c ≤ 255) : signI c = (lowI c || decide (65 ≤ c ∧ c ≤ 90) || c == 45 || c == 95) :=
  bytes_all (P := fun c => signI c = (lowI c || decide (65 ≤ c ∧ c ≤ 90) || c == 45 || c == 95)) (by decide +kernel) h0 h1
end Go.Proofs.Ytahgkhcmchbpbaa
