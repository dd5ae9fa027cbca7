/-
  Plain facts; memory of bytes, of lists.
-/
import Derived.Test.YtfbfdkibdjinaaaGreatDoorRows
import Derived.WalkKit
import Derived.WalkSpells
import Derived.WalkLawsBesides
import Derived.Lib.Bytealg
import Derived.Lib.IndexBytes
import Derived.Lib.Hide
import Derived.Below
import Derived.Laws.BytesArg
import Derived.Laws.OwnMore
import Derived.Deep.AppendSrc
import Derived.Deep.AppendLies
import Derived.OneCell
import Derived.OwnWalk
import Derived.Deep.MidRow
import Derived.Great.BuildSlice
namespace Go.Proofs.YtfbfdkibdjinaaaGreatDoor
set_option maxRecDepth 20000
open Go.RowKit
set_option linter.unusedVariables false
set_option linter.unusedSimpArgs false

/-- The first so many bytes of a text. -/
def fewS (s : ByteArray) (m : Nat) : ByteArray := if m < s.size then s.extract 0 m else s
theorem fewS_size (s : ByteArray) (m : Nat) : (fewS s m).size ≤ m := by
  unfold fewS
  split
  · rw [Lib.size_eq, Lib.extract_data, List.length_take]; omega
  · omega
/-- A number brought between 0 and m. -/
def aroundI (n m : Int) : Int := (if n < 0 then -(n + 1) else n) % m
theorem aroundI_bd (n m : Int) (h : 0 < m) : 0 ≤ aroundI n m ∧ aroundI n m < m := by
  unfold aroundI
  exact ⟨Int.emod_nonneg _ (by omega), Int.emod_lt_of_pos _ h⟩


theorem few_any (s : ByteArray) (m : Nat) (hm : m ≤ 1000) (w : World) (hs : s.size ≤ maxLen) :
    Calls Tryz.prog 10 #[.string s, .int .i64 (m : Int)] w fun e w' => e = .returned (.string (fewS s m)) ∧ w = w' := by
  unfold maxLen at hs
  by_cases h : m < s.size
  · have Hn := Lib.hid (show fewS s m = s.extract 0 m by simp [fewS, h])
    go_enter Tryz.func10, Tryz.ntmps10
    go_wp2
    go_ret
    rw [Hn.out]
    exact ⟨rfl, rfl⟩
  · have Hn := Lib.hid (show fewS s m = s by simp [fewS, h])
    go_enter Tryz.func10, Tryz.ntmps10
    go_wp2
    go_ret
    rw [Hn.out]
    exact ⟨rfl, rfl⟩

theorem around_any (n m : Int) (w : World) (h0 : -9223372036854775808 ≤ n) (h1 : n ≤ 9223372036854775807) (hm0 : 0 < m) (hm1 : m ≤ 9223372036854775807) :
    Calls Tryz.prog 27 #[.int .i64 n, .int .i64 m] w fun e w' => e = .returned (.int .i64 (aroundI n m)) ∧ w = w' := by
  have q0 : (m == 0) = false := by rw [beq_eq_false_iff_ne]; omega
  by_cases h : n < 0
  · have Hn := Lib.hid (show aroundI n m = -((n + 1).tmod m) by unfold aroundI; rw [if_pos h, ← Int.neg_tmod, Int.tmod_eq_emod_of_nonneg (by omega)])
    go_enter Tryz.func27, Tryz.ntmps27
    go_wp2
    go_ret
    rw [Hn.out]
    exact ⟨rfl, rfl⟩
  · have Hn := Lib.hid (show aroundI n m = n % m by simp [aroundI, h])
    go_enter Tryz.func27, Tryz.ntmps27
    go_wp2
    go_ret
    rw [Hn.out]
    exact ⟨rfl, rfl⟩
end Go.Proofs.YtfbfdkibdjinaaaGreatDoor

namespace Go.Proofs.YtfbfdkibdjinaaaGreatDoor
set_option maxRecDepth 20000
open Go.RowKit
set_option linter.unusedVariables false
set_option linter.unusedSimpArgs false

/-- A small letter or a digit. -/
def lowI (c : Int) : Bool := decide (97 ≤ c ∧ c ≤ 122) || decide (48 ≤ c ∧ c ≤ 57)
/-- A small letter, a digit, or a byte of more. -/
def withI (more : ByteArray) (c : Int) : Bool := lowI c || decide (0 ≤ Lib.indexByte more.data.toList c.toNat.toUInt8)
/-- So, or a great letter. -/
def eventI (more : ByteArray) (c : Int) : Bool := withI more c || decide (65 ≤ c ∧ c ≤ 90)
def partI : Int → Bool := withI ⟨#[46, 45, 95]⟩
def hostI : Int → Bool := withI ⟨#[46, 45]⟩
def signI : Int → Bool := eventI ⟨#[45, 95]⟩

theorem take_snoc (s : ByteArray) (k : Nat) (h : k < s.size) : s.data.toList.take (k + 1) = s.data.toList.take k ++ [s[k]] := by
  rw [List.take_succ_eq_append_getElem (by simpa using h)]; rfl

/-- Each byte may stand. -/
def allI (p : Int → Bool) (l : List UInt8) : Bool := l.all fun c => p (c.toNat : Int)
/-- 1 to 16 bytes, each of which may stand. -/
def filledB (p : Int → Bool) (s : ByteArray) : Bool := decide (1 ≤ s.size ∧ s.size ≤ 16) && allI p s.data.toList

theorem allI_step (p : Int → Bool) (s : ByteArray) (k : Nat) (h : k < s.size) (ha : allI p (s.data.toList.take k) = true) (hp : p (s[k].toNat : Int) = true) : allI p (s.data.toList.take (k + 1)) = true := by
  rw [take_snoc s k h]
  simp only [allI, List.all_append, List.all_cons, List.all_nil, Bool.and_true, Bool.and_eq_true] at *
  exact ⟨ha, hp⟩
theorem allI_stop (p : Int → Bool) (s : ByteArray) (k : Nat) (h : k < s.size) (hp : p (s[k].toNat : Int) = false) : allI p s.data.toList = false := by
  unfold allI
  rw [List.all_eq_false]
  exact ⟨s[k], List.getElem_mem (l := s.data.toList) (n := k) (by simpa using h), by rw [hp]; simp⟩
theorem allI_full (p : Int → Bool) (s : ByteArray) (k : Nat) (h : s.size ≤ k) (ha : allI p (s.data.toList.take k) = true) : allI p s.data.toList = true := by
  rwa [List.take_of_length_le (by simpa using h)] at ha
theorem filledB_no (p : Int → Bool) (s : ByteArray) (h : s.size < 1 ∨ 16 < s.size) : filledB p s = false := by
  unfold filledB
  have : decide (1 ≤ s.size ∧ s.size ≤ 16) = false := by simp; omega
  rw [this]; rfl
theorem filledB_in (p : Int → Bool) (s : ByteArray) (h1 : 1 ≤ s.size) (h2 : s.size ≤ 16) : filledB p s = allI p s.data.toList := by
  unfold filledB
  have : decide (1 ≤ s.size ∧ s.size ≤ 16) = true := by simp; omega
  rw [this]; rfl
theorem filledB_stop (p : Int → Bool) (s : ByteArray) (h : allI p s.data.toList = false) : filledB p s = false := by
  unfold filledB; rw [h, Bool.and_false]
theorem filledB_size {p : Int → Bool} {s : ByteArray} (h : filledB p s = true) : 0 < s.size ∧ s.size ≤ 16 := by
  unfold filledB at h
  rw [Bool.and_eq_true, decide_eq_true_iff] at h
  omega

/-- The first and the last byte are small letters or digits. -/
def edgeB (s : ByteArray) : Bool := if h : 0 < s.size then lowI (s[0].toNat : Int) && lowI (s[s.size - 1].toNat : Int) else false
/-- A server. -/
def serverB (s : ByteArray) : Bool := filledB hostI s && edgeB s
theorem serverB_no (s : ByteArray) (h : filledB hostI s = false) : serverB s = false := by unfold serverB; rw [h]; rfl
theorem serverB_yes (s : ByteArray) (h : filledB hostI s = true) (z : 0 < s.size) : serverB s = (lowI (s[0].toNat : Int) && lowI (s[s.size - 1].toNat : Int)) := by
  unfold serverB edgeB
  rw [h, dif_pos z]; rfl

theorem bytes_all {P : Int → Prop} (h : ∀ n : Fin 256, P ((n.val : Nat) : Int)) {c : Int} (h0 : 0 ≤ c) (h1 : c ≤ 255) : P c := by
  obtain ⟨n, rfl⟩ := Int.eq_ofNat_of_zero_le h0
  exact h ⟨n, by omega⟩
theorem partI_eq {c : Int} (h0 : 0 ≤ c) (h1 : c ≤ 255) : partI c = (lowI c || c == 46 || c == 45 || c == 95) :=
  bytes_all (P := fun c => partI c = (lowI c || c == 46 || c == 45 || c == 95)) (by decide +kernel) h0 h1
theorem hostI_eq {c : Int} (h0 : 0 ≤ c) (h1 : c ≤ 255) : hostI c = (lowI c || c == 46 || c == 45) :=
  bytes_all (P := fun c => hostI c = (lowI c || c == 46 || c == 45)) (by decide +kernel) h0 h1
theorem signI_eq {c : Int} (h0 : 0 ≤ c) (h1 : c ≤ 255) : signI c = (lowI c || decide (65 ≤ c ∧ c ≤ 90) || c == 45 || c == 95) :=
  bytes_all (P := fun c => signI c = (lowI c || decide (65 ≤ c ∧ c ≤ 90) || c == 45 || c == 95)) (by decide +kernel) h0 h1
end Go.Proofs.YtfbfdkibdjinaaaGreatDoor

namespace Go.Proofs.YtfbfdkibdjinaaaGreatDoor
set_option maxRecDepth 20000
open Go.RowKit
set_option linter.unusedVariables false
set_option linter.unusedSimpArgs false

theorem indexByte_lt (l : List UInt8) (c : UInt8) : Lib.indexByte l c < l.length := by
  induction l with
  | nil => simp [Lib.indexByte]
  | cons b l ih =>
    unfold Lib.indexByte
    simp only [List.length_cons]
    split
    · omega
    · split <;> omega

theorem not_empty (s : ByteArray) (h : 0 < s.size) : s.toList.isEmpty = false := by
  rw [Lib.toList_data, List.isEmpty_eq_false_iff]
  intro he
  have hz := Lib.size_eq s
  rw [he, List.length_nil] at hz
  omega

/-- Where the first colon stands; -1: nowhere. -/
def colonK (s : ByteArray) : Int := Lib.indexByte s.data.toList 58
theorem colonK_ge (s : ByteArray) : -1 ≤ colonK s := Lib.indexByte_ge _ _
theorem colonK_lt (s : ByteArray) : colonK s < s.size := by
  have := indexByte_lt s.data.toList 58
  rw [← Lib.size_eq] at this
  exact this

theorem drop_cons (s : ByteArray) (k : Nat) (h : k < s.size) : s.data.toList.drop k = s[k] :: s.data.toList.drop (k + 1) := by
  have hl : k < s.data.toList.length := by rw [← Lib.size_eq]; exact h
  rw [List.drop_eq_getElem_cons hl]
  rfl
theorem colon_miss (s : ByteArray) (k : Nat) (h : k < s.size) (hc : ((s[k].toNat : Int) == 58) = false) :
    (if Lib.indexByte (s.data.toList.drop k) 58 = -1 then -1 else Lib.indexByte (s.data.toList.drop k) 58 + (k : Int)) = (if Lib.indexByte (s.data.toList.drop (k + 1)) 58 = -1 then -1 else Lib.indexByte (s.data.toList.drop (k + 1)) 58 + ((k + 1 : Nat) : Int)) := by
  rw [drop_cons s k h]
  have hb : (s[k] == 58) = false := by
    rw [beq_eq_false_iff_ne] at hc ⊢
    intro e
    exact hc (by rw [e]; rfl)
  have hg := Lib.indexByte_ge (s.data.toList.drop (k + 1)) 58
  conv => lhs; unfold Lib.indexByte
  rw [hb]
  by_cases he : Lib.indexByte (s.data.toList.drop (k + 1)) 58 = -1
  · simp [he]
  · simp [he]; omega
theorem colon_hit (s : ByteArray) (k : Nat) (h : k < s.size) (hc : ((s[k].toNat : Int) == 58) = true) :
    (if Lib.indexByte (s.data.toList.drop k) 58 = -1 then -1 else Lib.indexByte (s.data.toList.drop k) 58 + (k : Int)) = (k : Int) := by
  rw [drop_cons s k h]
  have hb : (s[k] == 58) = true := by
    rw [beq_iff_eq] at hc ⊢
    apply UInt8.toNat_inj.1
    show s[k].toNat = 58
    omega
  conv => lhs; unfold Lib.indexByte
  rw [hb]
  simp
theorem colon_end (s : ByteArray) (k : Nat) (h : s.size ≤ k) :
    (if Lib.indexByte (s.data.toList.drop k) 58 = -1 then -1 else Lib.indexByte (s.data.toList.drop k) 58 + (k : Int)) = -1 := by
  rw [List.drop_of_length_le (by rw [← Lib.size_eq]; exact h)]
  rfl

/-- What stands behind the sign. -/
def restS (s : ByteArray) : ByteArray := s.extract 1 s.size
theorem restS_data (s : ByteArray) : (restS s).data.toList = s.data.toList.drop 1 := Lib.extract_to_end s 1
theorem restS_size (s : ByteArray) : (restS s).size = s.size - 1 := by
  rw [Lib.size_eq, restS_data, List.length_drop, ← Lib.size_eq]

theorem data_cons (s : ByteArray) (h : 0 < s.size) : s.data.toList = s[0] :: s.data.toList.drop 1 := by
  have hl : 0 < s.data.toList.length := by rw [← Lib.size_eq]; exact h
  conv => lhs; rw [← List.drop_zero (l := s.data.toList), List.drop_eq_getElem_cons hl]
  rfl

/-- Behind a sign that is no colon, the colon stands one further. -/
theorem colonK_rest (s : ByteArray) (h : 0 < s.size) (hc : s[0] ≠ 58) : colonK s = if colonK (restS s) = -1 then -1 else colonK (restS s) + 1 := by
  unfold colonK
  rw [restS_data, data_cons s h, List.drop_succ_cons, List.drop_zero]
  conv => lhs; unfold Lib.indexByte
  have hb : (s[0] == 58) = false := by rw [beq_eq_false_iff_ne]; exact hc
  rw [hb]
  simp

theorem ext_data {a b : ByteArray} (h : a.data.toList = b.data.toList) : a = b := by
  rw [← Lib.mk_data a, ← Lib.mk_data b, h]

theorem rest_left (s : ByteArray) (i : Nat) : (restS s).extract 0 i = s.extract 1 (i + 1) := by
  apply ext_data
  rw [Lib.extract_data, Lib.extract_data, restS_data, List.drop_zero, Nat.sub_zero, Nat.add_sub_cancel]
theorem rest_right (s : ByteArray) (i : Nat) : (restS s).extract (i + 1) (restS s).size = s.extract (i + 2) s.size := by
  apply ext_data
  rw [Lib.extract_to_end, Lib.extract_to_end, restS_data, List.drop_drop]
  congr 1
  omega

/-- A name of a sign: the sign, a part, a colon, a server. -/
def namedB (sign : Int) (s : ByteArray) : Bool := if h : 0 < s.size then ((s[0].toNat : Int) == sign) && decide (1 ≤ colonK s) && filledB partI (s.extract 1 (colonK s).toNat) && serverB (s.extract ((colonK s).toNat + 1) s.size) else false
/-- A user or a room. -/
def nameB (s : ByteArray) : Bool := namedB 64 s || namedB 33 s
def signS (s : ByteArray) : Int := if namedB 64 s then 64 else if namedB 33 s then 33 else 0
def partS (s : ByteArray) : ByteArray := if nameB s then s.extract 1 (colonK s).toNat else ⟨#[]⟩
def homeS (s : ByteArray) : ByteArray := if nameB s then s.extract ((colonK s).toNat + 1) s.size else ⟨#[]⟩

theorem server_none : serverB ⟨#[]⟩ = false := by decide +kernel

theorem named_empty (sign : Int) (s : ByteArray) (h : s.size = 0) : namedB sign s = false := by
  unfold namedB; rw [dif_neg (by omega)]
theorem named_other (sign : Int) (s : ByteArray) (h : 0 < s.size) (hc : ((s[0].toNat : Int) == sign) = false) : namedB sign s = false := by
  unfold namedB; rw [dif_pos h, hc]; rfl
theorem named_off (sign : Int) (s : ByteArray) (h : colonK s < 1) : namedB sign s = false := by
  unfold namedB
  by_cases hz : 0 < s.size
  · have : decide (1 ≤ colonK s) = false := by simp; omega
    rw [dif_pos hz, this]; simp
  · rw [dif_neg hz]
theorem named_on (sign : Int) (s : ByteArray) (k : Nat) (hk : colonK s = (k : Int)) (h1 : 1 ≤ k) (hz : 0 < s.size) : namedB sign s = (((s[0].toNat : Int) == sign) && filledB partI (s.extract 1 k) && serverB (s.extract (k + 1) s.size)) := by
  unfold namedB
  rw [dif_pos hz, hk]
  have : decide ((1 : Int) ≤ (k : Int)) = true := by simp; omega
  rw [this]; simp

theorem splits_no (s : ByteArray) (h : nameB s = false) : signS s = 0 ∧ partS s = ⟨#[]⟩ ∧ homeS s = ⟨#[]⟩ := by
  have h' := h
  unfold nameB at h'
  rw [Bool.or_eq_false_iff] at h'
  simp [signS, partS, homeS, h, h'.1, h'.2]
theorem splits_yes (s : ByteArray) (h : nameB s = true) (k : Nat) (hk : colonK s = (k : Int)) : partS s = s.extract 1 k ∧ homeS s = s.extract (k + 1) s.size := by
  simp [partS, homeS, h, hk]
theorem nameB_size (s : ByteArray) (h : nameB s = true) : 0 < s.size := by
  by_cases hz : 0 < s.size
  · exact hz
  · exfalso
    unfold nameB at h
    rw [named_empty 64 s (by omega), named_empty 33 s (by omega)] at h
    cases h
theorem signS_yes (s : ByteArray) (h : nameB s = true) : signS s = (s[0]'(nameB_size s h)).toNat := by
  have hz := nameB_size s h
  unfold nameB at h
  unfold signS
  by_cases h64 : namedB 64 s = true
  · rw [if_pos h64]
    unfold namedB at h64
    rw [dif_pos hz] at h64
    simp only [Bool.and_eq_true, beq_iff_eq] at h64
    omega
  · rw [if_neg h64]
    have h64' : namedB 64 s = false := by simpa using h64
    rw [h64', Bool.false_or] at h
    rw [if_pos h]
    unfold namedB at h
    rw [dif_pos hz] at h
    simp only [Bool.and_eq_true, beq_iff_eq] at h
    omega

/-- A text that begins with a name's sign is a name just if both halves are. -/
theorem nameB_on (s : ByteArray) (k : Nat) (hk : colonK s = (k : Int)) (h1 : 1 ≤ k) (hz : 0 < s.size) (hs : (((s[0].toNat : Int) == 64) || ((s[0].toNat : Int) == 33)) = true) :
    nameB s = (filledB partI (s.extract 1 k) && serverB (s.extract (k + 1) s.size)) := by
  unfold nameB
  rw [named_on 64 s k hk h1 hz, named_on 33 s k hk h1 hz]
  revert hs
  generalize ((s[0].toNat : Int) == 64) = a
  generalize ((s[0].toNat : Int) == 33) = b
  generalize filledB partI (s.extract 1 k) = x
  generalize serverB (s.extract (k + 1) s.size) = y
  cases a <;> cases b <;> cases x <;> cases y <;> decide
theorem nameB_other (s : ByteArray) (hz : 0 < s.size) (hs : (((s[0].toNat : Int) == 64) || ((s[0].toNat : Int) == 33)) = false) : nameB s = false := by
  rw [Bool.or_eq_false_iff] at hs
  unfold nameB
  rw [named_other 64 s hz hs.1, named_other 33 s hz hs.2]; rfl
theorem nameB_off (s : ByteArray) (h : colonK s < 1) : nameB s = false := by
  unfold nameB
  rw [named_off 64 s h, named_off 33 s h]; rfl

theorem nameB_colon (s : ByteArray) (h : nameB s = true) : ∃ k : Nat, colonK s = (k : Int) ∧ 1 ≤ k ∧ k < s.size := by
  by_cases h1 : colonK s < 1
  · rw [nameB_off s h1] at h; cases h
  · have hl := colonK_lt s
    obtain ⟨k, hk⟩ := Int.eq_ofNat_of_zero_le (a := colonK s) (by omega)
    exact ⟨k, hk, by omega, by omega⟩

/-- The first k bytes stand as a server's. -/
def srvTo (s : ByteArray) (k : Nat) : Prop := ∀ j, j < k → ∀ h : j < s.size, lowI (s[j].toNat : Int) = true ∨ (0 < j ∧ j < s.size - 1 ∧ hostI (s[j].toNat : Int) = true)
theorem srv_step (s : ByteArray) (k : Nat) (ha : srvTo s k) (h : k < s.size) (hk : lowI (s[k].toNat : Int) = true ∨ (0 < k ∧ k < s.size - 1 ∧ hostI (s[k].toNat : Int) = true)) : srvTo s (k + 1) := by
  intro j hj hs
  by_cases e : j = k
  · subst e; exact hk
  · exact ha j (by omega) hs
theorem byte_le (c : UInt8) : (c.toNat : Int) ≤ 255 := by have := c.toNat_lt; omega
theorem host_of_low (c : UInt8) (h : lowI (c.toNat : Int) = true) : hostI (c.toNat : Int) = true := by
  rw [hostI_eq (by omega) (byte_le c), h]; rfl
theorem srv_full (s : ByteArray) (k : Nat) (ha : srvTo s k) (h : s.size ≤ k) (h1 : 1 ≤ s.size) (h2 : s.size ≤ 16) : serverB s = true := by
  have hz : 0 < s.size := h1
  have hall : allI hostI s.data.toList = true := by
    unfold allI
    rw [List.all_eq_true]
    intro c hc
    obtain ⟨j, hj, rfl⟩ := List.getElem_of_mem hc
    have hj' : j < s.size := by rw [Lib.size_eq]; exact hj
    rcases ha j (by omega) hj' with hl | ⟨_, _, hh⟩
    · exact host_of_low _ hl
    · exact hh
  rw [serverB_yes s (by rw [filledB_in _ _ h1 h2]; exact hall) hz]
  rcases ha 0 (by omega) hz with h0 | ⟨h0, _, _⟩
  · rcases ha (s.size - 1) (by omega) (by omega) with hl | ⟨_, hl, _⟩
    · rw [h0, hl]; rfl
    · omega
  · omega
theorem srv_stop (s : ByteArray) (k : Nat) (h : k < s.size) (hl : lowI (s[k].toNat : Int) = false) (hi : ¬ 0 < k ∨ ¬ k < s.size - 1 ∨ hostI (s[k].toNat : Int) = false) : serverB s = false := by
  cases hf : filledB hostI s
  · exact serverB_no s hf
  · rw [serverB_yes s hf (by omega)]
    rcases hi with hi | hi | hi
    · have e : k = 0 := by omega
      subst e
      rw [hl]; rfl
    · have e : k = s.size - 1 := by omega
      subst e
      rw [hl, Bool.and_false]
    · rw [filledB_stop hostI s (allI_stop hostI s k h hi)] at hf
      cases hf
theorem srv_long (s : ByteArray) (h : s.size < 1 ∨ 16 < s.size) : serverB s = false := serverB_no s (filledB_no _ _ h)

/-- An event: a dollar sign, and 1 to 16 bytes behind it. -/
def eventB (s : ByteArray) : Bool := if h : 0 < s.size then ((s[0].toNat : Int) == 36) && filledB signI (restS s) else false
def threadB (s : ByteArray) : Bool := (s.toList == []) || (s.toList == [109, 97, 105, 110]) || eventB s
/-- The bytes from the second on to the k-th stand as an event's. -/
def evTo (s : ByteArray) (k : Nat) : Prop := ∀ j, 1 ≤ j → j < k → ∀ h : j < s.size, signI (s[j].toNat : Int) = true
theorem ev_step (s : ByteArray) (k : Nat) (ha : evTo s k) (h : k < s.size) (hk : signI (s[k].toNat : Int) = true) : evTo s (k + 1) := by
  intro j h1 hj hs
  by_cases e : j = k
  · subst e; exact hk
  · exact ha j h1 (by omega) hs
theorem restS_get (s : ByteArray) (j : Nat) (h : j < (restS s).data.toList.length) : (restS s).data.toList[j] = s[j + 1]'(by rw [← Lib.size_eq, restS_size] at h; omega) := by
  have hd := restS_data s
  have h2 : j < (s.data.toList.drop 1).length := by rw [← hd]; exact h
  have : (restS s).data.toList[j] = (s.data.toList.drop 1)[j] := by congr 1
  have h3 : j + 1 < s.data.toList.length := by rw [List.length_drop] at h2; omega
  have h4 : 1 + j < s.data.toList.length := by omega
  rw [this, List.getElem_drop]
  show s.data.toList[1 + j] = s.data.toList[j + 1]
  simp only [Nat.add_comm 1 j]
theorem ev_full (s : ByteArray) (k : Nat) (ha : evTo s k) (h : s.size ≤ k) (h1 : 2 ≤ s.size) (h2 : s.size ≤ 17) (hd : ((s[0].toNat : Int) == 36) = true) : eventB s = true := by
  unfold eventB
  have hz := restS_size s
  rw [dif_pos (by omega), hd, filledB_in _ _ (by omega) (by omega)]
  unfold allI
  rw [Bool.true_and, List.all_eq_true]
  intro c hc
  obtain ⟨j, hj, rfl⟩ := List.getElem_of_mem hc
  rw [restS_get s j hj]
  have hj' := hj
  rw [← Lib.size_eq, hz] at hj'
  exact ha (j + 1) (by omega) (by omega) (by omega)
theorem ev_stop (s : ByteArray) (k : Nat) (h1 : 1 ≤ k) (h : k < s.size) (hl : signI (s[k].toNat : Int) = false) : eventB s = false := by
  unfold eventB
  rw [dif_pos (by omega)]
  have hz := restS_size s
  have hj : k - 1 < (restS s).size := by omega
  have hf : allI signI (restS s).data.toList = false := by
    apply allI_stop signI (restS s) (k - 1) hj
    have hj2 : k - 1 < (restS s).data.toList.length := by rw [← Lib.size_eq]; exact hj
    have e := restS_get s (k - 1) hj2
    have e2 : (restS s)[k - 1] = s[k - 1 + 1]'(by omega) := e
    rw [e2]
    have e3 : s[k - 1 + 1]'(by omega) = s[k] := by congr 1; omega
    rw [e3]
    exact hl
  rw [filledB_stop _ _ hf, Bool.and_false]
theorem ev_size (s : ByteArray) (h : s.size < 2 ∨ 17 < s.size) : eventB s = false := by
  unfold eventB
  have hz := restS_size s
  split
  · rw [filledB_no _ _ (by omega), Bool.and_false]
  · rfl
theorem ev_other (s : ByteArray) (hz : 0 < s.size) (hd : ((s[0].toNat : Int) == 36) = false) : eventB s = false := by
  unfold eventB
  rw [dif_pos hz, hd]; rfl
theorem ev_yes (s : ByteArray) (hz : 0 < s.size) (hd : ((s[0].toNat : Int) == 36) = true) : eventB s = filledB signI (restS s) := by
  unfold eventB
  rw [dif_pos hz, hd]; rfl
end Go.Proofs.YtfbfdkibdjinaaaGreatDoor

namespace Go.Proofs.YtfbfdkibdjinaaaGreatDoor
set_option maxRecDepth 20000
set_option linter.unusedVariables false
set_option linter.unusedSimpArgs false

/-- A number's bytes: its digits to the base 128, the least one first, all but the last one with 128 more. -/
def digs (n : Nat) : List UInt8 := if h : n < 128 then [UInt8.ofNat n] else UInt8.ofNat (128 + n % 128) :: digs (n / 128)
termination_by n
decreasing_by omega

/-- How many bytes go on, at the head. -/
def goes : List UInt8 → Nat
  | [] => 0
  | b :: r => if 128 ≤ b.toNat then goes r + 1 else 0

/-- The number of digits. -/
def val : List UInt8 → Nat
  | [] => 0
  | b :: r => b.toNat % 128 + 128 * val r

theorem goes_le (l : List UInt8) : goes l ≤ l.length := by
  induction l with
  | nil => exact Nat.le_refl _
  | cons b r ih => unfold goes; split <;> simp <;> omega

theorem goes_on {l : List UInt8} {j : Nat} {x : UInt8} (hj : j < goes l) (hx : l[j]? = some x) : 128 ≤ x.toNat := by
  induction l generalizing j with
  | nil => simp at hx
  | cons b r ih =>
    unfold goes at hj
    split at hj
    · rename_i hb
      cases j with
      | zero => simp at hx; subst hx; exact hb
      | succ j => exact ih (j := j) (by omega) (by simpa using hx)
    · omega

theorem goes_stops {l : List UInt8} {x : UInt8} (hx : l[goes l]? = some x) : x.toNat < 128 := by
  induction l with
  | nil => simp at hx
  | cons b r ih =>
    unfold goes at hx
    split at hx
    · exact ih (by simpa using hx)
    · rename_i hb
      simp at hx
      subst hx
      omega

theorem val_lt (l : List UInt8) : val l < 128 ^ l.length := by
  induction l with
  | nil => simp [val]
  | cons b r ih =>
    unfold val
    rw [List.length_cons, Nat.pow_succ]
    have := Nat.mod_lt b.toNat (show 0 < 128 by decide)
    omega

theorem pow128 (k : Nat) : 128 ^ k = 2 ^ (7 * k) := by rw [show (128 : Nat) = 2 ^ 7 by rfl, ← Nat.pow_mul]
theorem pow128_le {j k : Nat} (h : j ≤ k) : 128 ^ j ≤ 128 ^ k := Nat.pow_le_pow_right (by decide) h

theorem val_snoc (l : List UInt8) (x : UInt8) : val (l ++ [x]) = val l + x.toNat % 128 * 128 ^ l.length := by
  induction l with
  | nil => simp [val]
  | cons b r ih =>
    rw [List.cons_append, val, val, ih, List.length_cons, Nat.pow_succ, Nat.mul_add, Nat.add_assoc, ← Nat.mul_assoc, Nat.mul_comm 128 (x.toNat % 128), Nat.mul_assoc, Nat.mul_comm 128 (128 ^ r.length)]

theorem takeU_snoc {l : List UInt8} {k : Nat} {x : UInt8} (hx : l[k]? = some x) : l.take (k + 1) = l.take k ++ [x] := by
  rw [List.take_add_one, hx]; rfl

theorem val_take {l : List UInt8} {k : Nat} {x : UInt8} (hx : l[k]? = some x) : val (l.take (k + 1)) = val (l.take k) + x.toNat % 128 * 128 ^ k := by
  have hk : k < l.length := (List.getElem?_eq_some_iff.1 hx).1
  rw [takeU_snoc hx, val_snoc, List.length_take, Nat.min_eq_left (by omega)]

theorem val_take_lt (l : List UInt8) (k : Nat) : val (l.take k) < 128 ^ k :=
  Nat.lt_of_lt_of_le (val_lt _) (pow128_le (by rw [List.length_take]; omega))

/-- Two parts that do not meet. -/
theorem or_parts {a d k : Nat} (ha : a < 128 ^ k) : a ||| (d * 2 ^ (7 * k)) = a + d * 128 ^ k := by
  rw [pow128] at ha ⊢
  rw [Nat.or_comm, Nat.mul_comm d, ← Nat.two_pow_add_eq_or_of_lt ha, Nat.add_comm]

/-- Which error a number is: 0, if it is one. -/
def numErr (bs : List UInt8) : Nat := if 9 ≤ goes bs then 2 else if goes bs = bs.length then 3 else if bs.getD (goes bs) 0 = 0 ∧ 0 < goes bs then 2 else 0

/-- What a reader has: the bytes that are left, its first error. -/
abbrev St := List UInt8 × Nat
def failS (s : St) (x : Nat) : St := if s.2 = 0 then ([], x) else s
def numS (s : St) : Nat × St := if numErr s.1 = 0 then (val (s.1.take (goes s.1 + 1)), (s.1.drop (goes s.1 + 1), s.2)) else (0, failS s (numErr s.1))
def textS (s : St) (most : Int) : List UInt8 × St :=
  let p := numS s
  let q := if most < (p.1 : Int) then failS p.2 2 else p.2
  let r := if q.1.length < p.1 then failS q 3 else q
  if r.2 = 0 then (r.1.take p.1, (r.1.drop p.1, 0)) else ([], r)
def flagS (s : St) : Bool × St :=
  match s.1 with
  | [] => (false, failS s 3)
  | b :: r => (b.toNat == 1, if 1 < b.toNat then failS (r, s.2) 2 else (r, s.2))
def endS (s : St) : Nat := if s.2 = 0 ∧ 0 < s.1.length then 2 else s.2
/-- Behind an error nothing is left. -/
def Ok (s : St) : Prop := s.2 ≠ 0 → s.1 = []

theorem failS_ok {s : St} {x : Nat} (h : Ok s) (hx : x ≠ 0) : Ok (failS s x) := by
  unfold failS
  split
  · intro _; rfl
  · exact h
theorem numErr_nil : numErr [] = 3 := by rfl
theorem numS_err {e : Nat} (he : e ≠ 0) : numS ([], e) = (0, ([], e)) := by simp [numS, numErr_nil, failS, he]
theorem Ok.err {s : St} (h : Ok s) (he : s.2 ≠ 0) : s = ([], s.2) := by
  obtain ⟨b, e⟩ := s
  have := h he
  simp at this
  subst this
  rfl
theorem numS_ok {s : St} (h : Ok s) : Ok (numS s).2 := by
  unfold numS
  split
  · intro he
    have := h he
    rename_i hn
    rw [this] at hn
    exact absurd hn (by decide)
  · rename_i hn
    exact failS_ok h hn
theorem textS_ok {s : St} (h : Ok s) (m : Int) : Ok (textS s m).2 := by
  have h1 := numS_ok h
  unfold textS
  simp only
  have h2 : Ok (if m < ((numS s).1 : Int) then failS (numS s).2 2 else (numS s).2) := by
    split
    · exact failS_ok h1 (by decide)
    · exact h1
  generalize (if m < ((numS s).1 : Int) then failS (numS s).2 2 else (numS s).2) = q at h2 ⊢
  have h3 : Ok (if q.1.length < (numS s).1 then failS q 3 else q) := by
    split
    · exact failS_ok h2 (by decide)
    · exact h2
  generalize (if q.1.length < (numS s).1 then failS q 3 else q) = r at h3 ⊢
  split
  · intro he; exact absurd rfl he
  · exact h3
theorem flagS_ok {s : St} (h : Ok s) : Ok (flagS s).2 := by
  obtain ⟨b, e⟩ := s
  cases b with
  | nil => exact failS_ok h (by decide)
  | cons b r =>
    have he : e = 0 := by
      refine Decidable.byContradiction fun he => ?_
      have := h he
      cases this
    subst he
    unfold flagS
    simp only
    split
    · exact failS_ok (fun he => absurd rfl he) (by decide)
    · intro he; exact absurd rfl he
theorem numS_fst_lt (s : St) : (numS s).1 < 128 ^ 9 := by
  unfold numS
  split
  · rename_i h
    have hg : goes s.1 < 9 := by
      unfold numErr at h
      split at h
      · cases h
      · omega
    exact Nat.lt_of_lt_of_le (val_take_lt _ _) (pow128_le (by omega))
  · exact Nat.pos_of_ne_zero (by decide)

/-- A row that goes on, then ends. -/
theorem digs_small {n : Nat} (h : n < 128) : digs n = [UInt8.ofNat n] := by rw [digs, dif_pos h]
theorem digs_great {n : Nat} (h : ¬ n < 128) : digs n = UInt8.ofNat (128 + n % 128) :: digs (n / 128) := by rw [digs, dif_neg h]
theorem toNat_ofNat {n : Nat} (h : n < 256) : (UInt8.ofNat n).toNat = n := by
  rw [UInt8.toNat_ofNat']
  exact Nat.mod_eq_of_lt h

theorem digs_pos (n : Nat) : 0 < (digs n).length := by
  by_cases h : n < 128
  · rw [digs_small h]; simp
  · rw [digs_great h]; simp

theorem digs_len : ∀ (k n : Nat), n < 128 ^ (k + 1) → (digs n).length ≤ k + 1
  | 0, n, h => by rw [digs_small (by simpa using h)]; exact Nat.le_refl _
  | k + 1, n, h => by
    by_cases hn : n < 128
    · rw [digs_small hn]; simp
    · rw [digs_great hn, List.length_cons]
      have := digs_len k (n / 128) (by rw [Nat.div_lt_iff_lt_mul (by decide)]; rw [Nat.pow_succ] at h; exact h)
      omega

theorem val_digs (n : Nat) : val (digs n) = n := by
  induction n using Nat.strongRecOn with
  | ind n ih =>
    by_cases h : n < 128
    · rw [digs_small h, val, val, toNat_ofNat (by omega)]; omega
    · rw [digs_great h, val, ih _ (by omega), toNat_ofNat (by omega)]; omega

/-- How many of a number's bytes go on. -/
theorem goes_digs (n : Nat) (r : List UInt8) : goes (digs n ++ r) + 1 = (digs n).length := by
  induction n using Nat.strongRecOn with
  | ind n ih =>
    by_cases h : n < 128
    · rw [digs_small h]
      simp [goes, toNat_ofNat (show n < 256 by omega)]
      omega
    · rw [digs_great h, List.cons_append, goes, if_pos (by rw [toNat_ofNat (by omega)]; omega), ih _ (by omega), List.length_cons]

/-- The last of them. -/
theorem last_digs (n : Nat) (r : List UInt8) : (digs n ++ r).getD (goes (digs n ++ r)) 0 = 0 → n = 0 := by
  induction n using Nat.strongRecOn with
  | ind n ih =>
    by_cases h : n < 128
    · rw [digs_small h]
      have hg : goes ([UInt8.ofNat n] ++ r) = 0 := by simp [goes, toNat_ofNat (show n < 256 by omega)]; omega
      rw [hg]
      intro h0
      have h0 : UInt8.ofNat n = 0 := by simpa using h0
      have := congrArg UInt8.toNat h0
      rw [toNat_ofNat (by omega)] at this
      exact this
    · rw [digs_great h, List.cons_append, goes, if_pos (by rw [toNat_ofNat (by omega)]; omega)]
      intro h0
      have := ih (n / 128) (by omega) (by simpa using h0)
      omega

theorem numErr_digs (n : Nat) (h : n < 128 ^ 9) (r : List UInt8) : numErr (digs n ++ r) = 0 := by
  have h1 := goes_digs n r
  have h2 := digs_len 8 n h
  have h3 := digs_pos n
  unfold numErr
  rw [if_neg (by omega), if_neg (by rw [List.length_append]; omega), if_neg]
  rintro ⟨h4, h5⟩
  have := last_digs n r h4
  subst this
  rw [show (digs 0).length = 1 by rw [digs_small (by decide)]; rfl] at h1
  omega

/-- What is laid is read as it was. -/
theorem numS_digs (n : Nat) (h : n < 128 ^ 9) (r : List UInt8) (e : Nat) : numS (digs n ++ r, e) = (n, (r, e)) := by
  unfold numS
  simp only
  rw [if_pos (numErr_digs n h r), goes_digs, List.take_left, List.drop_left, val_digs]

/-- Whether a number's bytes are as many as are needed. -/
theorem digs_val : ∀ (l : List UInt8) (k : Nat), goes l = k → k < l.length → ((digs (val (l.take (k + 1)))).length ≠ k + 1 ↔ l.getD k 0 = 0 ∧ 0 < k)
  | [], k, _, h => by simp at h
  | b :: r, k, hg, hk => by
    by_cases hb : 128 ≤ b.toNat
    · rw [goes, if_pos hb] at hg
      subst hg
      have hb2 : b.toNat < 256 := b.toNat_lt
      rw [List.take_succ_cons, val]
      have hr : goes r < r.length := by simpa using hk
      obtain ⟨x, hx⟩ : ∃ x, r[goes r]? = some x := ⟨_, List.getElem?_eq_getElem hr⟩
      have hx1 := goes_stops hx
      have ih := digs_val r (goes r) rfl hr
      rw [show (b :: r).getD (goes r + 1) 0 = r.getD (goes r) 0 from rfl]
      have hxd : r.getD (goes r) 0 = x := by rw [List.getD_eq_getElem?_getD, hx]; rfl
      rw [hxd] at ih ⊢
      generalize hv : val (r.take (goes r + 1)) = v at ih ⊢
      have hm : b.toNat % 128 < 128 := Nat.mod_lt _ (by decide)
      by_cases hv0 : v = 0
      · subst hv0
        rw [digs_small (by omega)]
        rw [digs_small (by omega)] at ih
        have hx0 : x = 0 := by
          rw [val_take hx] at hv
          have hp : 0 < 128 ^ goes r := Nat.pow_pos (by decide)
          have : x.toNat % 128 = 0 := by
            rcases Nat.eq_zero_or_pos (x.toNat % 128) with h | h
            · exact h
            · have := Nat.mul_pos h hp; omega
          apply UInt8.toNat_inj.1
          show x.toNat = 0
          omega
        simp [hx0]
      · rw [digs_great (by omega), List.length_cons, show (b.toNat % 128 + 128 * v) / 128 = v by omega]
        constructor
        · intro h
          exact ⟨(ih.1 (by omega)).1, by omega⟩
        · rintro ⟨h, _⟩
          by_cases hg0 : 0 < goes r
          · have := ih.2 ⟨h, hg0⟩
            omega
          · exfalso
            apply hv0
            have hg0 : goes r = 0 := by omega
            rw [← hv, val_take hx, hg0, List.take_zero, val, h]
            rfl
    · rw [goes, if_neg hb] at hg
      subst hg
      rw [List.take_succ_cons, List.take_zero, val, val, digs_small (by omega)]
      simp

/-- A number that is cut off. -/
theorem goes_cut (l : List UInt8) (k : Nat) (h : k ≤ goes l) : goes (l.take k) = k := by
  induction l generalizing k with
  | nil => simp [goes] at h; subst h; rfl
  | cons b r ih =>
    cases k with
    | zero => rfl
    | succ k =>
      unfold goes at h
      split at h
      · rename_i hb
        rw [List.take_succ_cons, goes, if_pos hb, ih k (by omega)]
      · omega
theorem numErr_cut (n k : Nat) (h : n < 128 ^ 9) (hk : k < (digs n).length) : numErr ((digs n).take k) = 3 := by
  have h1 := goes_digs n []
  have h2 := digs_len 8 n h
  rw [List.append_nil] at h1
  have h3 := goes_cut (digs n) k (by omega)
  unfold numErr
  rw [h3, if_neg (by omega), if_pos (by rw [List.length_take]; omega)]

theorem goes_all (l r : List UInt8) (h : ∀ x ∈ l, 128 ≤ x.toNat) : goes (l ++ r) = l.length + goes r := by
  induction l with
  | nil => simp
  | cons b l ih =>
    rw [List.cons_append, goes, if_pos (h b (by simp)), ih (fun x hx => h x (by simp [hx])), List.length_cons]
    omega
/-- One byte more than is needed. -/
theorem numErr_more (l : List UInt8) (h : ∀ x ∈ l, 128 ≤ x.toNat) (h0 : 0 < l.length) (h8 : l.length ≤ 8) : numErr (l ++ [0]) = 2 := by
  have h1 : goes (l ++ [0]) = l.length := by rw [goes_all l _ h]; simp [goes]
  unfold numErr
  rw [h1, if_neg (by omega), if_neg (by simp), if_pos]
  refine ⟨?_, h0⟩
  rw [List.getD_eq_getElem?_getD, List.getElem?_append_right (Nat.le_refl _)]
  simp
/-- Nine bytes that go on. -/
theorem numErr_nine (l r : List UInt8) (h : ∀ x ∈ l, 128 ≤ x.toNat) (h9 : l.length = 9) : numErr (l ++ r) = 2 := by
  unfold numErr
  rw [goes_all l r h, if_pos (by omega)]
end Go.Proofs.YtfbfdkibdjinaaaGreatDoor

namespace Go.Proofs.YtfbfdkibdjinaaaGreatDoor
set_option maxRecDepth 20000
open Go.RowKit
set_option linter.unusedVariables false
set_option linter.unusedSimpArgs false

/-- A byte, as a cell holds it. -/
def bV (b : UInt8) : Value := .int .u8 (b.toNat : Int)
def bVs (bs : List UInt8) : List Value := bs.map bV
theorem bVs_len (bs : List UInt8) : (bVs bs).length = bs.length := by simp [bVs]
theorem bVs_app (a b : List UInt8) : bVs (a ++ b) = bVs a ++ bVs b := by simp [bVs]
theorem bVs_one (bs : List UInt8) : ∀ u ∈ bVs bs, u.oneCell' = true := by
  intro u hu
  obtain ⟨x, _, rfl⟩ := List.mem_map.1 hu
  rfl
theorem bVs_get {bs : List UInt8} {j : Nat} {u : Value} (h : (bVs bs)[j]? = some u) : ∃ x, bs[j]? = some x ∧ u = bV x := by
  unfold bVs at h
  rw [List.getElem?_map] at h
  cases hx : bs[j]? with
  | none => rw [hx] at h; cases h
  | some x => rw [hx] at h; exact ⟨x, rfl, (Option.some.inj h).symm⟩
/-- A text of bytes. -/
def strOf (bs : List UInt8) : ByteArray := ⟨bs.toArray⟩
theorem strOf_size (bs : List UInt8) : (strOf bs).size = bs.length := by simp [strOf, ByteArray.size]
theorem strOf_app (a b : List UInt8) : strOf a ++ strOf b = strOf (a ++ b) := by
  apply ByteArray.ext
  simp [strOf]
theorem strOf_toList (s : ByteArray) : strOf s.data.toList = s := by cases s; simp [strOf]
theorem strOf_inj {a b : List UInt8} (h : strOf a = strOf b) : a = b := by
  have := congrArg (fun s : ByteArray => s.data.toList) h
  simpa [strOf] using this
theorem byteCells_eq (s : ByteArray) : byteCells s = bVs s.data.toList := rfl

/-- A slice of bytes that reads as a list; nil, or from block lo on. -/
def Row (w : World) (lo : Nat) (v : Value) (bs : List UInt8) : Prop :=
  (v = .slice none 0 0 ∧ bs = []) ∨
  ∃ g off c cur, v = .slice (some ⟨g, off, none⟩) bs.length c ∧ lo ≤ g ∧ w.heap[g]? = some (.cells cur 5 (0, 0)) ∧ bs.length ≤ c ∧ c ≤ maxLen ∧ (cur.toList.drop off).take bs.length = bVs bs

/-- A row that is the call's own, the whole block known. -/
def Own (w : World) (g cap : Nat) (bs : List UInt8) : Prop :=
  ∃ cur, w.heap[g]? = some (.cells cur 5 (0, 0)) ∧ bs.length ≤ cap ∧ cap ≤ maxLen ∧ cur.size = cap ∧ cur.toList.take bs.length = bVs bs

theorem heap_lt {w : World} {g : Nat} {o : Obj} (h : w.heap[g]? = some o) : g < w.heap.size := (Array.getElem?_eq_some_iff.1 h).1

theorem Own.lt {w : World} {g cap : Nat} {bs : List UInt8} (h : Own w g cap bs) : g < w.heap.size := by obtain ⟨cur, hh, _⟩ := h; exact heap_lt hh
theorem Own.row {w : World} {lo g cap : Nat} {bs : List UInt8} (h : Own w g cap bs) (hl : lo ≤ g) : Row w lo (.slice (some ⟨g, 0, none⟩) bs.length cap) bs := by
  obtain ⟨cur, hh, h1, h2, h3, h4⟩ := h
  exact .inr ⟨g, 0, cap, cur, rfl, hl, hh, h1, h2, by simpa using h4⟩
theorem Own.block {w w' : World} {g cap : Nat} {bs : List UInt8} (h : Own w g cap bs) (hb : w'.heap[g]? = w.heap[g]?) : Own w' g cap bs := by
  obtain ⟨cur, hh, r⟩ := h
  exact ⟨cur, hb.trans hh, r⟩
theorem Own.below {w w' : World} {g cap : Nat} {bs : List UInt8} (h : Own w g cap bs) (hb : Below w.heap.size w w') : Own w' g cap bs := h.block (hb.block g h.lt)

theorem Row.nil (w : World) (lo : Nat) : Row w lo (.slice none 0 0) [] := .inl ⟨rfl, rfl⟩
theorem Row.mono {w : World} {lo lo' : Nat} {v : Value} {bs : List UInt8} (h : Row w lo v bs) (hl : lo' ≤ lo) : Row w lo' v bs := by
  rcases h with h | ⟨g, off, c, cur, hv, hg, r⟩
  · exact .inl h
  · exact .inr ⟨g, off, c, cur, hv, by omega, r⟩
theorem Row.keep {w w' : World} {lo : Nat} {v : Value} {bs : List UInt8} (h : Row w lo v bs) (hk : ∀ g cur, lo ≤ g → w.heap[g]? = some (.cells cur 5 (0, 0)) → w'.heap[g]? = w.heap[g]?) : Row w' lo v bs := by
  rcases h with h | ⟨g, off, c, cur, hv, hg, hh, r⟩
  · exact .inl h
  · exact .inr ⟨g, off, c, cur, hv, hg, (hk g cur hg hh).trans hh, r⟩
theorem Row.below {w w' : World} {lo : Nat} {v : Value} {bs : List UInt8} (h : Row w lo v bs) (hb : Below w.heap.size w w') : Row w' lo v bs :=
  h.keep fun g cur _ hh => hb.block g (heap_lt hh)
theorem Row.grown {w w' : World} {lo k : Nat} {v : Value} {bs : List UInt8} (h : Row w lo v bs) (hb : w.grownBy w' (some k)) (hk : ∀ cur, w.heap[k]? ≠ some (.cells cur 5 (0, 0))) : Row w' lo v bs :=
  h.keep fun g cur _ hh => hb.block g (heap_lt hh) (fun e => by injection e with e; subst e; exact hk cur hh)
theorem Row.drew {w : World} {lo : Nat} {v : Value} {bs : List UInt8} (h : Row w lo v bs) : Row w.drew lo v bs := h
theorem Row.shape {w : World} {lo : Nat} {v : Value} {bs : List UInt8} (h : Row w lo v bs) : ∃ A c, v = .slice A bs.length c ∧ bs.length ≤ c ∧ c ≤ maxLen ∧ (A = none → c = 0) := by
  rcases h with ⟨rfl, rfl⟩ | ⟨g, off, c, cur, rfl, _, _, h1, h2, _⟩
  · exact ⟨none, 0, rfl, Nat.le_refl _, Nat.zero_le _, fun _ => rfl⟩
  · exact ⟨_, c, rfl, h1, h2, fun h => by cases h⟩

theorem at_of_take {cur : List Value} {off n : Nat} {xs : List Value} (h : (cur.drop off).take n = xs) {j : Nat} {u : Value} (hu : xs[j]? = some u) : cur[off + j]? = some u := by
  rw [← h, List.getElem?_take] at hu
  split at hu
  · rwa [List.getElem?_drop] at hu
  · cases hu

/-- Its cells. -/
theorem Row.cells {w : World} {lo g off c : Nat} {bs : List UInt8} (h : Row w lo (.slice (some ⟨g, off, none⟩) bs.length c) bs) : ∀ j x, bs[j]? = some x → w.cell? ⟨g, off + j, none⟩ = some (bV x) := by
  intro j x hx
  rcases h with ⟨h, _⟩ | ⟨g', off', c', cur, hv, hg, hh, h1, h2, h3⟩
  · cases h
  · injection hv with ha _ _
    injection ha with ha
    injection ha with e1 e2 _
    subst e1 e2
    rw [cell_of_row w g (off + j) cur 5 (0, 0) hh]
    have : (bVs bs)[j]? = some (bV x) := by unfold bVs; rw [List.getElem?_map, hx]; rfl
    simpa using at_of_take h3 this
theorem Row.addr {w : World} {lo : Nat} {v : Value} {bs : List UInt8} (h : Row w lo v bs) (h0 : 0 < bs.length) : ∃ g off c, v = .slice (some ⟨g, off, none⟩) bs.length c ∧ lo ≤ g ∧ bs.length ≤ c ∧ c ≤ maxLen ∧ ∀ j x, bs[j]? = some x → w.cell? ⟨g, off + j, none⟩ = some (bV x) := by
  have h' := h
  rcases h with ⟨rfl, rfl⟩ | ⟨g, off, c, cur, rfl, hg, hh, h1, h2, h3⟩
  · simp at h0
  · exact ⟨g, off, c, rfl, hg, h1, h2, h'.cells⟩
theorem Own.cells {w : World} {g cap : Nat} {bs : List UInt8} (h : Own w g cap bs) : ∀ j x, bs[j]? = some x → w.cell? ⟨g, j, none⟩ = some (bV x) := by
  intro j x hx
  have := (h.row (lo := 0) (Nat.zero_le _)).cells j x hx
  simpa using this

/-- What string(b) comes to. -/
theorem conv_row {w : World} {lo : Nat} {v : Value} {bs : List UInt8} (h : Row w lo v bs) : (convert 107 9 v).run Tryz.prog w = .ok (.string (strOf bs)) w := by
  have h' := h
  rcases h with ⟨rfl, rfl⟩ | ⟨g, off, c, cur, rfl, hg, hh, h1, h2, h3⟩
  · exact run_convert_bytes_nil (P := Tryz.prog) w 107 5 Tryz.underlying107 Tryz.underlying5 0 0 9 Tryz.underlying9
  · have hr := run_convert_bytes_arg (P := Tryz.prog) w 107 5 Tryz.underlying107 Tryz.underlying5 g off bs.length c (bs.map fun b => (b.toNat : Int)) (by simp) (fun i hi => by
      rw [h'.cells i _ (List.getElem?_eq_getElem hi), List.getD_eq_getElem?_getD, List.getElem?_map, List.getElem?_eq_getElem hi]
      rfl) 9 Tryz.underlying9
    rw [hr]
    congr 2
    apply ByteArray.ext
    simp only [strOfNums, strOf, List.map_map]
    congr 1
    rw [show bs = bs.map id by simp]
    rw [List.map_map]
    apply List.map_congr_left
    intro x _
    simp [Function.comp]

/-- What may be appended to without touching what lies below B: a slice without spare room, or a row of one's own. -/
def Puts (w : World) (B : Nat) (v : Value) (bs : List UInt8) : Prop :=
  (∃ A, v = .slice A bs.length bs.length ∧ Row w 0 (.slice A bs.length bs.length) bs) ∨ ∃ g cap, v = .slice (some ⟨g, 0, none⟩) bs.length cap ∧ B ≤ g ∧ Own w g cap bs

theorem byte_info : (Tryz.prog.info? 5).map (fun i => (i.zero, i.size, i.bytes)) = some (some (.int .u8 0), 1, 1) := by kernel_rfl

theorem firstCells_row {w : World} {lo : Nat} {A : Option Addr} {n c : Nat} {bs : List UInt8} (hn : bs.length = n) (h : Row w lo (.slice A n c) bs) : (Builtin.firstCells 1 n (.slice A n c)).run Tryz.prog w = .ok (bVs bs).toArray w := by
  subst hn
  have h' := h
  rcases h with ⟨hv, hb⟩ | ⟨g, off, c', cur, hv, hg, hh, h1, h2, h3⟩
  · injection hv with e1 e2 e3
    subst e1 e3 hb
    exact run_firstCells_none w 1 0 0 0
  · injection hv with e1 e2 e3
    subst e1
    refine run_firstCells_some (P := Tryz.prog) w 1 _ ⟨g, off, none⟩ _ c (bVs bs) (by rw [bVs_len, Nat.mul_one]) fun j u hu => ?_
    obtain ⟨x, hx, rfl⟩ := bVs_get hu
    rw [Addr.add_lit]
    exact h'.cells j x hx

theorem Src.ofRow {w : World} {lo : Nat} {A : Option Addr} {n c : Nat} {bs : List UInt8} (hn : bs.length = n) (h : Row w lo (.slice A n c) bs) : Src Tryz.prog 1 107 (.slice A n c) n (bVs bs) w :=
  ⟨.inl ⟨_, Tryz.underlying107⟩, fun _ => rfl, firstCells_row hn h, firstCells_row (w := w.drew) hn h.drew, by rw [bVs_len]; omega, bVs_one bs⟩

theorem nextcap_le (n c : Nat) (hc : c < n) (hn : n ≤ 1099511627776) : Builtin.nextslicecap n c * 1 ≤ 281474976710656 := growslice_fits hc (by omega)

theorem setCells_far (b k : Nat) (hk : k ≠ b) : ∀ (vs : List Value) (o : Nat) (w : World), (w.setCells b o vs).heap[k]? = w.heap[k]?
  | [], o, w => rfl
  | v :: r, o, w => by rw [World.setCells, setCells_far b k hk r (o + 1), Below.heap_setCell _ _ _ _ hk]
theorem setCells_size (b : Nat) : ∀ (vs : List Value) (o : Nat) (w : World), (w.setCells b o vs).heap.size = w.heap.size ∧ (w.setCells b o vs).os = w.os ∧ (w.setCells b o vs).tape = w.tape ∧ (w.setCells b o vs).output = w.output
  | [], o, w => ⟨rfl, rfl, rfl, rfl⟩
  | v :: r, o, w => by
    rw [World.setCells]
    have := setCells_size b r (o + 1) (w.setCell ⟨b, o, none⟩ v)
    exact ⟨this.1.trans (by simp [World.setCell]), this.2.1, this.2.2.1, this.2.2.2⟩
theorem setCells_row (b : Nat) (ty : TypeId) : ∀ (vs : List Value) (o : Nat) (w : World) (cur : Array Value), w.heap[b]? = some (.cells cur ty (0, 0)) → o + vs.length ≤ cur.size →
    ∃ cur', (w.setCells b o vs).heap[b]? = some (.cells cur' ty (0, 0)) ∧ cur'.size = cur.size ∧ cur'.toList.take (o + vs.length) = cur.toList.take o ++ vs
  | [], o, w, cur, h, _ => ⟨cur, h, rfl, by simp⟩
  | v :: r, o, w, cur, h, hl => by
    rw [World.setCells]
    have hh : (w.setCell ⟨b, o, none⟩ v).heap[b]? = some (.cells (cur.setIfInBounds o v) ty (0, 0)) := by simp [World.setCell, Array.getElem?_modify, h]
    obtain ⟨cur', h1, h2, h3⟩ := setCells_row b ty r (o + 1) _ _ hh (by simp at hl ⊢; omega)
    refine ⟨cur', h1, by simpa using h2, ?_⟩
    rw [show o + (v :: r).length = o + 1 + r.length by simp; omega, h3, Array.toList_setIfInBounds]
    simp at hl
    rw [List.take_add_one, List.take_set, List.getElem?_set]
    simp [show o < cur.size by omega]
    exact List.set_eq_of_length_le (by simp; omega)

/-- append, of whatever source: what comes is one's own, and nothing below B has turned. -/
theorem run_puts {w : World} {B : Nat} {v : Value} {bs : List UInt8} (ty tx : TypeId) (h : Puts w B v bs) (hB : B ≤ w.heap.size) (x : Value) (n : Nat) (news : List UInt8) (hn : news.length = n) (hs : Src Tryz.prog 1 tx x n (bVs news) w)
    (h0 : 0 < n ∨ ∃ g cap, v = .slice (some ⟨g, 0, none⟩) bs.length cap ∧ B ≤ g ∧ Own w g cap bs) (hm : bs.length + n ≤ 1099511627776) :
    ∃ g cap w', (Builtin.append_ #[107, tx] ty #[v, x]).run Tryz.prog w = .ok (.slice (some ⟨g, 0, none⟩) (bs.length + n) cap) w' ∧ B ≤ g ∧ Own w' g cap (bs ++ news) ∧ Below B w w' := by
  obtain ⟨i0, hi0, hz0, hz1, hz2⟩ := info_parts byte_info
  have hs' : Src Tryz.prog i0.size tx x n (bVs news) w := by rw [hz1]; exact hs
  have hml : (bs ++ news).length = bs.length + n := by rw [List.length_append, hn]
  -- the arm that grows
  have grow : ∀ (A : Option Addr) (c : Nat), c < bs.length + n → (Builtin.firstCells i0.size bs.length (.slice A bs.length c)).run Tryz.prog w.drew = .ok (bVs bs).toArray w.drew →
      ∃ g cap w', (Builtin.append_ #[107, tx] ty #[.slice A bs.length c, x]).run Tryz.prog w = .ok (.slice (some ⟨g, 0, none⟩) (bs.length + n) cap) w' ∧ B ≤ g ∧ Own w' g cap (bs ++ news) ∧ Below B w w' := by
    intro A c hc hf
    have hr := run_append_grow_src (P := Tryz.prog) w 107 tx ty 5 i0 _ Tryz.underlying107 hi0 hz0 A bs.length c (bVs bs) hf x n (bVs news) hs' hc (by omega) (by rw [hz2]; exact nextcap_le _ _ hc hm)
    have hge := grownCap_ge w (bs.length + n) c 5
    have hcm : grownCap w (bs.length + n) c 5 ≤ maxLen := grownCap_le_maxLen w (bs.length + n) c 5 (by unfold maxLen; omega)
    refine ⟨_, _, _, hr, hB, ⟨_, heap_alloc_new w.drew _, by rw [hml]; exact hge, hcm, ?_, ?_⟩, ((Below.refl B w).drew).alloc (by simpa using hB) _⟩
    · simp only [Array.size_append, List.size_toArray, size_zeroCells, List.length_append, bVs_len, hn, Value.cells]
      simp
      omega
    · rw [hml, bVs_app]
      simp only [Array.toList_append]
      rw [show bs.length + n = (bVs bs ++ bVs news).length by rw [List.length_append, bVs_len, bVs_len, hn]]
      exact List.take_left
  have h' : (0 < n ∧ ∃ A, v = .slice A bs.length bs.length ∧ Row w 0 (.slice A bs.length bs.length) bs) ∨ ∃ g cap, v = .slice (some ⟨g, 0, none⟩) bs.length cap ∧ B ≤ g ∧ Own w g cap bs := by
    rcases h with h | h
    · rcases h0 with h0 | h0
      · exact .inl ⟨h0, h⟩
      · exact .inr h0
    · exact .inr h
  rcases h' with ⟨h0, A, rfl, hrow⟩ | ⟨g, cap, rfl, hBg, cur, hh, h1, h2, h3, h4⟩
  · exact grow A _ (by omega) (by rw [hz1]; exact firstCells_row (w := w.drew) rfl hrow.drew)
  · by_cases hroom : bs.length + n ≤ cap
    · have hlen : (bVs news).length = n := by rw [bVs_len, hn]
      have hr := run_append_room_src (P := Tryz.prog) w 107 tx ty 5 i0 Tryz.underlying107 hi0 g 0 bs.length cap x n (bVs news) hs' hroom
        (fun j hj => by
          rw [hz1, cell_of_row w g _ cur 5 (0, 0) hh, Array.getElem?_eq_getElem (by omega)]
          rfl)
        (fun j hj => by simp [World.frozen?, hh])
      rw [hz1] at hr
      obtain ⟨cur', r1, r2, r3⟩ := setCells_row g 5 (bVs news) (0 + bs.length * 1) w cur hh (by rw [hlen]; omega)
      obtain ⟨z1, z2, z3, z4⟩ := setCells_size g (bVs news) (0 + bs.length * 1) w
      refine ⟨g, cap, _, hr, hBg, ⟨cur', r1, by omega, h2, r2.trans h3, ?_⟩, ⟨z2, z3, z4, by omega, fun k hk => setCells_far g k (by omega) _ _ _⟩⟩
      rw [hml, bVs_app, ← h4]
      rw [hlen] at r3
      simpa using r3
    · refine grow _ _ (by omega) ?_
      rw [hz1]
      exact firstCells_row (w := w.drew) rfl ((Own.row (lo := 0) ⟨cur, hh, h1, h2, h3, h4⟩ (Nat.zero_le _)).drew)

/-- The same, for a walk. -/
theorem wpList_putsY {w : World} {ops : Array Oper} {rest : List Oper} {o : Oper} {a : Act} {Q : Exit → Act → World → Prop} (hgd : o.guard = none) (s x : Operand) (tx : TypeId)
    (ho : o.op = .call { callee := .builtin .append, args := #[s, x], argTypes := #[107, tx] }) {B : Nat} {v : Value} {bs : List UInt8} (hv : a.eval s = v) (h : Puts w B v bs) (hB : B ≤ w.heap.size)
    (xv : Value) (n : Nat) (news : List UInt8) (hx : a.eval x = xv) (hn : news.length = n) (hs : Src Tryz.prog 1 tx xv n (bVs news) w)
    (h0 : 0 < n ∨ ∃ g cap, v = .slice (some ⟨g, 0, none⟩) bs.length cap ∧ B ≤ g ∧ Own w g cap bs) (hm : bs.length + n ≤ 1099511627776)
    (K : ∀ g cap w', B ≤ g → Own w' g cap (bs ++ news) → Below B w w' → wpList Tryz.prog ops Q rest (a.put o.dst (.slice (some ⟨g, 0, none⟩) (bs.length + n) cap)) w') : wpList Tryz.prog ops Q (o :: rest) a w := by
  obtain ⟨g, cap, w', hr, h1, h2, h3⟩ := run_puts o.type tx h hB xv n news hn hs h0 hm
  refine wpList_plain hgd fun _ hK => ?_
  unfold Oper.wp execOp
  simp only [ho, resolve, invoke, builtin, Sem.run_bind, Sem.run_pure, Result.andThen_ok, List.map_toArray, List.map_cons, List.map_nil, hv, hx, hr]
  exact hK _ _ (K g cap w' h1 h2 h3)

/-- What a call has made: nil, or a row of its own from block B on. -/
def MadeB (w : World) (B : Nat) (v : Value) (bs : List UInt8) : Prop := (v = .slice none 0 0 ∧ bs = []) ∨ ∃ g cap, v = .slice (some ⟨g, 0, none⟩) bs.length cap ∧ B ≤ g ∧ Own w g cap bs
theorem MadeB.row {w : World} {B : Nat} {v : Value} {bs : List UInt8} (h : MadeB w B v bs) : Row w B v bs := by
  rcases h with h | ⟨g, cap, rfl, hB, h⟩
  · exact .inl h
  · exact h.row hB
theorem MadeB.below {w w' : World} {B : Nat} {v : Value} {bs : List UInt8} (h : MadeB w B v bs) (hb : Below w.heap.size w w') : MadeB w' B v bs := by
  rcases h with h | ⟨g, cap, rfl, hB, h⟩
  · exact .inl h
  · exact .inr ⟨g, cap, rfl, hB, h.below hb⟩
theorem later {w a b : World} (h : Below w.heap.size w a) (k : Below a.heap.size a b) : Below w.heap.size w b := h.trans (k.mono h.size)
theorem below_drewN {B : Nat} {a w : World} (h : Below B a w) (n : Nat) : Below B a (w.drewN n) := ⟨h.os, h.tape, h.output, h.size, h.block⟩
/-- A byte that is laid alone. -/
theorem Src.ofLit (w : World) (x : UInt8) (c : Int) (hc : (x.toNat : Int) = c) (B : Nat) (hB : B = w.heap.size) : Src Tryz.prog 1 107 (.slice (some ⟨B, 0, none⟩) 1 1) 1 (bVs [x]) (w.alloc (.cells #[.int .u8 c] 5)) := by
  subst hc hB
  refine Src.ofSlice _ Tryz.underlying107 ⟨w.heap.size, 0, none⟩ 1 1 (bVs [x]) rfl (fun j u hu => ?_) (bVs_one _)
  obtain ⟨y, hy, rfl⟩ := bVs_get hu
  cases j with
  | zero =>
    injection hy with hy
    subst hy
    rw [Addr.add_lit]
    simp [bV]
  | succ j => cases hy
theorem Puts.alloc {w : World} {B : Nat} {v : Value} {bs : List UInt8} (h : Puts w B v bs) (o : Obj) : Puts (w.alloc o) B v bs := by
  have hb : Below w.heap.size w (w.alloc o) := (Below.refl _ w).alloc (Nat.le_refl _) o
  rcases h with ⟨A, rfl, h⟩ | ⟨g, cap, rfl, hB, h⟩
  · exact .inl ⟨A, rfl, h.below hb⟩
  · exact .inr ⟨g, cap, rfl, hB, h.below hb⟩
end Go.Proofs.YtfbfdkibdjinaaaGreatDoor

namespace Go.Proofs.YtfbfdkibdjinaaaGreatDoor
set_option maxRecDepth 20000
open Go.RowKit
set_option linter.unusedVariables false
set_option linter.unusedSimpArgs false

/-- How things of a kind lie: their type, how many cells each takes, which. -/
structure Lies (α : Type) where
  e : TypeId
  c : Nat
  cl : α → List Value
  len : ∀ x, (cl x).length = c
  one : ∀ x, ∀ u ∈ cl x, u.oneCell' = true

section
variable {α : Type} (L : Lies α)

/-- The cells of a list. -/
def Lies.vs (xs : List α) : List Value := xs.flatMap L.cl
theorem Lies.vs_nil : L.vs [] = [] := rfl
theorem Lies.vs_cons (x : α) (xs : List α) : L.vs (x :: xs) = L.cl x ++ L.vs xs := by simp [Lies.vs]
theorem Lies.vs_app (a b : List α) : L.vs (a ++ b) = L.vs a ++ L.vs b := by simp [Lies.vs]
theorem Lies.vs_sing (x : α) : L.vs [x] = L.cl x := by simp [Lies.vs]
theorem Lies.vs_len : ∀ xs : List α, (L.vs xs).length = xs.length * L.c
  | [] => by simp [Lies.vs]
  | x :: xs => by rw [L.vs_cons, List.length_append, Lies.vs_len xs, L.len, List.length_cons, Nat.succ_mul]; omega
theorem Lies.vs_one (xs : List α) : ∀ u ∈ L.vs xs, u.oneCell' = true := by
  intro u hu
  obtain ⟨x, _, hx⟩ := List.mem_flatMap.1 hu
  exact L.one x u hx
theorem Lies.vs_get : ∀ {xs : List α} {i : Nat} {x : α} {j : Nat} {u : Value}, xs[i]? = some x → (L.cl x)[j]? = some u → (L.vs xs)[i * L.c + j]? = some u
  | [], i, x, j, u, he, _ => by simp at he
  | y :: xs, 0, x, j, u, he, hu => by
    simp only [List.getElem?_cons_zero, Option.some.injEq] at he
    subst he
    have hj : j < (L.cl y).length := (List.getElem?_eq_some_iff.1 hu).1
    rw [L.vs_cons, Nat.zero_mul, Nat.zero_add, List.getElem?_append_left hj]
    exact hu
  | y :: xs, i + 1, x, j, u, he, hu => by
    rw [List.getElem?_cons_succ] at he
    have ih := Lies.vs_get he hu
    rw [L.vs_cons, Nat.succ_mul, List.getElem?_append_right (by rw [L.len]; omega), L.len, show i * L.c + L.c + j - L.c = i * L.c + j by omega]
    exact ih
theorem Lies.vs_take (xs : List α) (n : Nat) : (L.vs xs).take (n * L.c) = L.vs (xs.take n) := by
  induction xs generalizing n with
  | nil => simp [Lies.vs]
  | cons x xs ih =>
    cases n with
    | zero => simp [Lies.vs]
    | succ n =>
      rw [List.take_succ_cons, L.vs_cons, L.vs_cons, ← ih n, Nat.succ_mul, Nat.add_comm, List.take_append]
      rw [L.len, List.take_of_length_le (by rw [L.len]; omega), show L.c + n * L.c - L.c = n * L.c by omega]
theorem Lies.vs_drop (xs : List α) (n : Nat) : (L.vs xs).drop (n * L.c) = L.vs (xs.drop n) := by
  induction xs generalizing n with
  | nil => simp [Lies.vs]
  | cons x xs ih =>
    cases n with
    | zero => simp
    | succ n =>
      rw [List.drop_succ_cons, L.vs_cons, ← ih n, Nat.succ_mul, Nat.add_comm, List.drop_append]
      rw [L.len, List.drop_of_length_le (by rw [L.len]; omega), show L.c + n * L.c - L.c = n * L.c by omega, List.nil_append]

/-- A slice of whatever memory: its elements. -/
def Lies.Slice (w : World) (v : Value) (xs : List α) : Prop :=
  ∃ A cap, v = .slice A xs.length cap ∧ xs.length ≤ cap ∧ cap ≤ maxLen ∧ (A = none → cap = 0) ∧ (0 < xs.length → ∃ b off, A = some ⟨b, off, none⟩ ∧ b < w.heap.size ∧ w.rangeAt b off (L.vs xs))
/-- A slice of one's own memory, from block B on: all of its room may be written. -/
def Lies.Mine (w : World) (B : Nat) (v : Value) (xs : List α) : Prop :=
  (v = .slice none 0 0 ∧ xs = []) ∨ ∃ g off cap cur, v = .slice (some ⟨g, off, none⟩) xs.length cap ∧ B ≤ g ∧ w.heap[g]? = some (.cells cur L.e (0, 0)) ∧ xs.length ≤ cap ∧ cap ≤ maxLen ∧ off + cap * L.c ≤ cur.size ∧ (cur.toList.drop off).take (xs.length * L.c) = L.vs xs
variable {L}
variable {w w' : World} {B B' : Nat} {v : Value} {xs : List α}

theorem smem_lt {w : World} {g : Nat} {o : Obj} (h : w.heap[g]? = some o) : g < w.heap.size := (Array.getElem?_eq_some_iff.1 h).1
theorem Lies.Slice.nil (w : World) : L.Slice w (.slice none 0 0) [] := ⟨none, 0, rfl, Nat.le_refl _, Nat.zero_le _, fun _ => rfl, fun h => absurd h (Nat.lt_irrefl 0)⟩
theorem Lies.Mine.nil (w : World) (B : Nat) : L.Mine w B (.slice none 0 0) [] := .inl ⟨rfl, rfl⟩
theorem Lies.Slice.len (h : L.Slice w v xs) : xs.length ≤ maxLen := by obtain ⟨A, cap, _, h1, h2, _⟩ := h; omega
theorem Lies.Slice.below (h : L.Slice w v xs) (hb : Below w.heap.size w w') : L.Slice w' v xs := by
  obtain ⟨A, cap, h1, h2, h3, h4, h5⟩ := h
  refine ⟨A, cap, h1, h2, h3, h4, fun h0 => ?_⟩
  obtain ⟨b, off, hA, hl, hr⟩ := h5 h0
  exact ⟨b, off, hA, Nat.lt_of_lt_of_le hl hb.size, fun j u hu => (hb.cell (p := ⟨b, off + j, none⟩) hl).trans (hr j u hu)⟩
/-- What lies below block C stays while only blocks from C on are written. -/
theorem Lies.Slice.under {C : Nat} (h : L.Slice w v xs) (hb : Below C w w') (hv : ∀ k, v.ownBlock = some k → k < C) : L.Slice w' v xs := by
  obtain ⟨A, cap, rfl, h2, h3, h4, h5⟩ := h
  refine ⟨A, cap, rfl, h2, h3, h4, fun h0 => ?_⟩
  obtain ⟨b, off, hA, hl, hr⟩ := h5 h0
  subst hA
  have hC : b < C := hv b rfl
  exact ⟨b, off, rfl, Nat.lt_of_lt_of_le hl hb.size, fun j u hu => (hb.cell (p := ⟨b, off + j, none⟩) hC).trans (hr j u hu)⟩
theorem Lies.Mine.lt (h : L.Mine w B v xs) : ∀ k, v.ownBlock = some k → B ≤ k ∧ k < w.heap.size := by
  intro k hk
  rcases h with ⟨rfl, _⟩ | ⟨g, off, cap, cur, rfl, hg, hh, _⟩
  · cases hk
  · simp only [Value.ownBlock, Option.some.injEq] at hk
    subst hk
    exact ⟨hg, smem_lt hh⟩
theorem Lies.Mine.keep (h : L.Mine w B v xs) (hb : ∀ k, v.ownBlock = some k → w'.heap[k]? = w.heap[k]?) : L.Mine w' B v xs := by
  rcases h with h | ⟨g, off, cap, cur, rfl, hg, hh, h1⟩
  · exact .inl h
  · exact .inr ⟨g, off, cap, cur, rfl, hg, (hb g rfl).trans hh, h1⟩
theorem Lies.Mine.below (h : L.Mine w B v xs) (hb : Below w.heap.size w w') : L.Mine w' B v xs := h.keep fun k hk => hb.block k (h.lt k hk).2
theorem Lies.Mine.grown {row : Option Nat} (h : L.Mine w B v xs) (hg : w.grownBy w' row) (hne : ∀ k, v.ownBlock = some k → some k ≠ row) : L.Mine w' B v xs := h.keep fun k hk => hg.block k (h.lt k hk).2 (hne k hk)
theorem Lies.Mine.mono (h : L.Mine w B v xs) (hb : B' ≤ B) : L.Mine w B' v xs := by
  rcases h with h | ⟨g, off, cap, cur, hv, hg, h1⟩
  · exact .inl h
  · exact .inr ⟨g, off, cap, cur, hv, Nat.le_trans hb hg, h1⟩
theorem Lies.Mine.slice (h : L.Mine w B v xs) : L.Slice w v xs := by
  rcases h with ⟨rfl, rfl⟩ | ⟨g, off, cap, cur, rfl, hg, hh, h1, h2, h3, h4⟩
  · exact Lies.Slice.nil w
  · refine ⟨_, cap, rfl, h1, h2, (fun e => by cases e), fun h0 => ⟨g, off, rfl, smem_lt hh, fun j u hu => ?_⟩⟩
    have hj : j < xs.length * L.c := by rw [← L.vs_len]; exact (List.getElem?_eq_some_iff.1 hu).1
    rw [cell_of_row w g (off + j) cur _ _ hh, ← Array.getElem?_toList]
    rw [← h4, List.getElem?_take, if_pos hj, List.getElem?_drop] at hu
    exact hu
theorem Lies.Mine.shape (h : L.Mine w B v xs) : ∃ A c, v = .slice A xs.length c ∧ xs.length ≤ c ∧ c ≤ maxLen ∧ (A = none → c = 0) := by
  obtain ⟨A, c, h1, h2, h3, h4, _⟩ := h.slice
  exact ⟨A, c, h1, h2, h3, h4⟩
/-- An element: where it lies. -/
theorem Lies.Slice.at {A : Option Addr} {n cap i : Nat} {x : α} (h : L.Slice w (.slice A n cap) xs) (hi : xs[i]? = some x) : ∃ b off, A = some ⟨b, off, none⟩ ∧ b < w.heap.size ∧ w.rangeAt b (off + i * L.c) (L.cl x) := by
  obtain ⟨A', cap', hv, h1, h2, h3, h4⟩ := h
  have hl : i < xs.length := (List.getElem?_eq_some_iff.1 hi).1
  obtain ⟨b, off, hA, hb, hr⟩ := h4 (by omega)
  injection hv with e1 e2 e3
  refine ⟨b, off, e1.trans hA, hb, fun j u hu => ?_⟩
  rw [Nat.add_assoc]
  exact hr _ u (L.vs_get hi hu)
/-- A slice of a slice. -/
theorem Lies.Slice.sub {A : Option Addr} {n cap : Nat} (h : L.Slice w (.slice A n cap) xs) (l k : Nat) (hl : l ≤ k) (hk : k ≤ xs.length) : L.Slice w (sliced A l k cap L.c) ((xs.take k).drop l) := by
  obtain ⟨A', cap', hv, h1, h2, h3, h4⟩ := h
  injection hv with e1 e2 e3
  subst e1 e3
  have hlen : ((xs.take k).drop l).length = k - l := by rw [List.length_drop, List.length_take]; omega
  refine ⟨if cap = l then A else A.map (·.add (l * L.c)), cap - l, by rw [hlen]; rfl, by rw [hlen]; omega, by omega, fun hn => ?_, fun h0 => ?_⟩
  · split at hn
    · have := h3 hn; omega
    · have := h3 (by cases A with | none => rfl | some a => cases hn); omega
  · rw [hlen] at h0
    obtain ⟨b, off, hA, hb, hr⟩ := h4 (by omega)
    subst hA
    rw [if_neg (by omega)]
    refine ⟨b, off + l * L.c, by simp [Addr.add_lit], hb, fun j u hu => ?_⟩
    rw [← L.vs_drop, ← L.vs_take, List.getElem?_drop, List.getElem?_take] at hu
    split at hu
    · rw [Nat.add_assoc]; exact hr _ u hu
    · cases hu
theorem Lies.Mine.sub {A : Option Addr} {n cap : Nat} (h : L.Mine w B (.slice A n cap) xs) (l k : Nat) (hl : l ≤ k) (hk : k ≤ xs.length) : L.Mine w B (sliced A l k cap L.c) ((xs.take k).drop l) := by
  have hlen : ((xs.take k).drop l).length = k - l := by rw [List.length_drop, List.length_take]; omega
  rcases h with ⟨hv, rfl⟩ | ⟨g, off, cap', cur, hv, hg, hh, h1, h2, h3, h4⟩
  · injection hv with e1 e2 e3
    subst e1 e3
    obtain rfl : k = 0 := by simpa using hk
    obtain rfl : l = 0 := by omega
    exact .inl ⟨rfl, by simp⟩
  · injection hv with e1 e2 e3
    subst e1 e3
    by_cases hc : cap = l
    · refine .inr ⟨g, off, cap - l, cur, by rw [hlen]; simp [sliced, hc], hg, hh, by rw [hlen]; omega, by omega, by rw [hc]; simp; omega, ?_⟩
      have h0 : (xs.take k).drop l = [] := by rw [← List.length_eq_zero_iff, hlen]; omega
      rw [h0]; simp [Lies.vs]
    · refine .inr ⟨g, off + l * L.c, cap - l, cur, by rw [hlen]; simp [sliced, hc, Addr.add_lit], hg, hh, by rw [hlen]; omega, by omega, ?_, ?_⟩
      · rw [Nat.add_assoc, ← Nat.add_mul, show l + (cap - l) = cap by omega]; exact h3
      · rw [hlen, ← L.vs_drop, ← L.vs_take, ← h4, List.take_take, Nat.min_eq_left (Nat.mul_le_mul_right _ hk), List.drop_take, List.drop_drop, Nat.sub_mul]
/-- Rows of different types lie in different blocks. -/
theorem Lies.Mine.apart {β : Type} {L' : Lies β} {v' : Value} {ys : List β} (h : L.Mine w B v xs) (h' : L'.Mine w B' v' ys) (ne : L.e ≠ L'.e) : ∀ k, v.ownBlock = some k → some k ≠ v'.ownBlock := by
  intro k hk he
  rcases h with ⟨rfl, _⟩ | ⟨g, off, cap, cur, rfl, _, hh, _⟩
  · cases hk
  rcases h' with ⟨rfl, _⟩ | ⟨g', off', cap', cur', rfl, _, hh', _⟩
  · cases he
  simp only [Value.ownBlock, Option.some.injEq] at hk he
  subst hk
  subst he
  rw [hh] at hh'
  injection hh' with hh'
  injection hh' with _ hh'
  exact ne hh'
end
end Go.Proofs.YtfbfdkibdjinaaaGreatDoor

namespace Go.Proofs.YtfbfdkibdjinaaaGreatDoor
set_option maxRecDepth 20000
open Go.RowKit
set_option linter.unusedVariables false
set_option linter.unusedSimpArgs false

/-- What a program says of a slice type whose elements lie so: its zero value, its bytes. -/
structure Kn {α : Type} (P : Program) (L : Lies α) (t : TypeId) (zv : Value) (bt : Nat) : Prop where
  ht : P.underlying t = some (.slice L.e)
  info : (P.info? L.e).map (fun i => (i.zero, i.size, i.bytes)) = some (some zv, L.c, bt)
  zs : zv.cells.size = L.c
  bts : bt ≤ 100000

theorem sm_far (b k : Nat) (hk : k ≠ b) : ∀ (vs : List Value) (o : Nat) (w : World), (w.setCells b o vs).heap[k]? = w.heap[k]?
  | [], _, _ => rfl
  | v :: vs, o, w => (sm_far b k hk vs (o + 1) _).trans (Below.heap_setCell w _ v k hk)
theorem sm_size (b : Nat) : ∀ (vs : List Value) (o : Nat) (w : World), (w.setCells b o vs).heap.size = w.heap.size ∧ (w.setCells b o vs).os = w.os ∧ (w.setCells b o vs).tape = w.tape ∧ (w.setCells b o vs).output = w.output
  | [], _, _ => ⟨rfl, rfl, rfl, rfl⟩
  | v :: vs, o, w => by
    obtain ⟨h1, h2, h3, h4⟩ := sm_size b vs (o + 1) (w.setCell ⟨b, o, none⟩ v)
    exact ⟨h1.trans (by simp [World.setCell]), h2.trans rfl, h3.trans rfl, h4.trans rfl⟩
theorem sm_grown (w : World) (b o : Nat) (vs : List Value) : w.grownBy (w.setCells b o vs) (some b) := by
  obtain ⟨h1, h2, h3, h4⟩ := sm_size b vs o w
  exact ⟨h2, h3, h4, by omega, fun k hk hne => sm_far b k (fun e => hne (by rw [e])) vs o w⟩
/-- A row of cells, some of them written. -/
theorem sm_at (b : Nat) (ty : TypeId) : ∀ (vs : List Value) (o : Nat) (w : World) (cur : Array Value), w.heap[b]? = some (.cells cur ty (0, 0)) → o + vs.length ≤ cur.size →
    ∃ cur', (w.setCells b o vs).heap[b]? = some (.cells cur' ty (0, 0)) ∧ cur'.size = cur.size ∧ cur'.toList = cur.toList.take o ++ vs ++ cur.toList.drop (o + vs.length)
  | [], o, w, cur, h, hl => ⟨cur, h, rfl, by simp⟩
  | v :: vs, o, w, cur, h, hl => by
    have h1 : (w.setCell ⟨b, o, none⟩ v).heap[b]? = some (.cells (cur.setIfInBounds o v) ty (0, 0)) := by simp [World.setCell, Array.getElem?_modify, h]
    simp only [List.length_cons] at hl
    obtain ⟨cur', h2, h3, h4⟩ := sm_at b ty vs (o + 1) _ _ h1 (by simp; omega)
    refine ⟨cur', h2, h3.trans (by simp), h4.trans ?_⟩
    have hs : (cur.setIfInBounds o v).toList = cur.toList.set o v := by simp
    have ho : o < cur.toList.length := by rw [Array.length_toList]; omega
    rw [hs, List.take_add_one, List.getElem?_set_self ho, List.take_set_of_le (by omega), List.drop_set_of_lt (by omega)]
    simp only [Option.toList_some, List.append_assoc, List.singleton_append, List.length_cons]
    rw [show o + 1 + vs.length = o + (vs.length + 1) by omega]

section
variable {α : Type} {P : Program} {L : Lies α} {t : TypeId} {zv : Value} {bt : Nat} {w w' : World} {B : Nat} {v : Value} {xs ys : List α}

/-- A slice as what append is handed. -/
theorem Lies.Slice.src (K : Kn P L t zv bt) (h : L.Slice w v ys) : Src P L.c t v ys.length (L.vs ys) w := by
  obtain ⟨A, cap, rfl, h1, h2, h3, h4⟩ := h
  cases hy : ys with
  | nil =>
    subst hy
    cases A with
    | none => exact Src.ofNil (P := P) w K.ht cap
    | some a => exact Src.ofSlice (P := P) w K.ht a 0 cap [] (by simp) (fun j u hu => by simp at hu) (fun u hu => by cases hu)
  | cons y r =>
    obtain ⟨b, off, hA, hb, hr⟩ := h4 (by rw [hy]; simp)
    rw [← hy]
    subst hA
    exact Src.ofSlice (P := P) w K.ht ⟨b, off, none⟩ ys.length cap (L.vs ys) (L.vs_len ys) (fun j u hu => by rw [Addr.add_lit]; exact hr j u hu) (L.vs_one ys)
theorem Lies.Slice.srcN (K : Kn P L t zv bt) (h : L.Slice w v ys) {n : Nat} (hn : ys.length = n) : Src P L.c t v n (L.vs ys) w := by
  subst hn
  exact h.src K
theorem Lies.Slice.first (h : L.Slice w v xs) : (Builtin.firstCells L.c xs.length v).run P w = .ok (L.vs xs).toArray w := by
  obtain ⟨A, cap, rfl, h1, h2, h3, h4⟩ := h
  cases hy : xs with
  | nil =>
    subst hy
    cases A with
    | none => exact run_firstCells_none w L.c 0 0 cap
    | some a => exact run_firstCells_some w L.c 0 a 0 cap [] (by simp) (fun j u hu => by simp at hu)
  | cons y r =>
    obtain ⟨b, off, hA, hb, hr⟩ := h4 (by rw [hy]; simp)
    rw [← hy]
    subst hA
    exact run_firstCells_some w L.c _ ⟨b, off, none⟩ _ cap (L.vs xs) (L.vs_len xs) fun j u hu => by rw [Addr.add_lit]; exact hr j u hu

/-- append, of whatever source: what comes is one's own; of what was, only one's own row may have turned; it lies there, or in new memory. -/
theorem Lies.Mine.put (K : Kn P L t zv bt) (ty tx : TypeId) (h : L.Mine w B v xs) (hB : B ≤ w.heap.size) (x : Value) (n : Nat) (hn : ys.length = n) (hs : Src P L.c tx x n (L.vs ys) w) (hm : xs.length + n ≤ 1000000) :
    ∃ A cap w', (Builtin.append_ #[t, tx] ty #[v, x]).run P w = .ok (.slice A (xs.length + n) cap) w' ∧ L.Mine w' B (.slice A (xs.length + n) cap) (xs ++ ys) ∧ w.grownBy w' v.ownBlock ∧ (∀ k, (Value.slice A (xs.length + n) cap).ownBlock = some k → v.ownBlock = some k ∨ w.heap.size ≤ k) := by
  obtain ⟨i0, hi0, hz0, hz1, hz2⟩ := info_parts K.info
  have hs' : Src P i0.size tx x n (L.vs ys) w := by rw [hz1]; exact hs
  have hml : (xs ++ ys).length = xs.length + n := by simp [hn]
  have grow : ∀ (A : Option Addr) (c : Nat), v = .slice A xs.length c → c < xs.length + n →
      ∃ A cap w', (Builtin.append_ #[t, tx] ty #[v, x]).run P w = .ok (.slice A (xs.length + n) cap) w' ∧ L.Mine w' B (.slice A (xs.length + n) cap) (xs ++ ys) ∧ w.grownBy w' v.ownBlock ∧ (∀ k, (Value.slice A (xs.length + n) cap).ownBlock = some k → v.ownBlock = some k ∨ w.heap.size ≤ k) := by
    intro A c hv hc
    have hf : (Builtin.firstCells i0.size xs.length v).run P w.drew = .ok (L.vs xs).toArray w.drew := by
      rw [hz1]
      exact Lies.Slice.first (show L.Slice w.drew v xs from h.slice)
    rw [hv] at hf
    have hr := run_append_grow_src (P := P) w t tx ty L.e i0 zv K.ht hi0 hz0 A xs.length c (L.vs xs) hf x n (L.vs ys) hs' hc (by omega) (by rw [hz2]; exact growslice_fits hc (Nat.le_trans (Nat.mul_le_mul hm K.bts) (by decide)))
    have hge := grownCap_ge w (xs.length + n) c L.e
    have hcm : grownCap w (xs.length + n) c L.e ≤ maxLen := grownCap_le_maxLen w (xs.length + n) c L.e (by unfold maxLen; omega)
    refine ⟨_, _, _, by rw [hv]; exact hr, .inr ⟨w.heap.size, 0, _, _, by rw [hml], hB, heap_alloc_new w.drew _, by rw [hml]; exact hge, hcm, ?_, ?_⟩, ⟨rfl, rfl, rfl, by simp, fun k hk _ => (heap_alloc_old w.drew _ hk : _)⟩, fun k hk => .inr ?_⟩
    · simp only [Array.size_append, List.size_toArray, size_zeroCells, List.length_append, L.vs_len, K.zs, hn, Nat.zero_add]
      rw [← Nat.add_mul, ← Nat.add_mul, show xs.length + n + (grownCap w (xs.length + n) c L.e - (xs.length + n)) = grownCap w (xs.length + n) c L.e by omega]
      exact Nat.le_refl _
    · rw [hml, L.vs_app, List.drop_zero]
      simp only [Array.toList_append]
      rw [show (xs.length + n) * L.c = (L.vs xs ++ L.vs ys).length by rw [List.length_append, L.vs_len, L.vs_len, hn, Nat.add_mul]]
      exact List.take_left
    · simp only [Value.ownBlock, Option.some.injEq] at hk
      omega
  rcases h with ⟨rfl, rfl⟩ | ⟨g, off, cap, cur, rfl, hg, hh, h1, h2, h3, h4⟩
  · by_cases h0 : n = 0
    · subst h0
      refine ⟨none, 0, w, ?_, .inl ⟨rfl, by simpa using hn⟩, ⟨rfl, rfl, rfl, Nat.le_refl _, fun _ _ _ => rfl⟩, fun k hk => by cases hk⟩
      rcases hs'.kind with ⟨e', hk⟩ | hk <;> simp [Builtin.append_, run_underlying K.ht, run_underlying hk, sizeOf, typeInfo, hi0, hs'.len, hs'.cells]
    · exact grow none 0 rfl (by simp; omega)
  · by_cases hroom : xs.length + n ≤ cap
    · have hle : off + xs.length * L.c + (L.vs ys).length ≤ cur.size := by
        rw [L.vs_len, hn, Nat.add_assoc, ← Nat.add_mul]
        exact Nat.le_trans (Nat.add_le_add_left (Nat.mul_le_mul_right _ hroom) _) h3
      have hr := run_append_room_src (P := P) w t tx ty L.e i0 K.ht hi0 g off xs.length cap x n (L.vs ys) hs' hroom
        (fun j hj => by
          rw [hz1, cell_of_row w g _ cur L.e (0, 0) hh, Array.getElem?_eq_getElem (by omega)]
          rfl)
        (fun j hj => by simp [World.frozen?, hh])
      rw [hz1] at hr
      obtain ⟨cur', r1, r2, r3⟩ := sm_at g L.e (L.vs ys) (off + xs.length * L.c) w cur hh hle
      refine ⟨_, cap, _, hr, .inr ⟨g, off, cap, cur', by rw [hml], hg, r1, by omega, h2, by omega, ?_⟩, sm_grown _ _ _ _, fun k hk => .inl hk⟩
      have hsz : cur.toList.length = cur.size := Array.length_toList
      have hlo : off ≤ (cur.toList.take (off + xs.length * L.c)).length := by rw [List.length_take, hsz]; omega
      rw [hml, L.vs_app, r3, List.append_assoc, List.drop_append_of_le_length hlo, List.drop_take, show off + xs.length * L.c - off = xs.length * L.c by omega, h4, ← List.append_assoc,
        show (xs.length + n) * L.c = (L.vs xs ++ L.vs ys).length by rw [List.length_append, L.vs_len, L.vs_len, hn, Nat.add_mul]]
      exact List.take_left
    · exact grow _ _ rfl (by omega)
/-- The same, for a walk. -/
theorem wp_puts {o : Oper} {a : Act} {K : Act → World → Prop} {Q : Exit → Act → World → Prop} (N : Kn P L t zv bt) (s x : Operand) (tx : TypeId)
    (ho : o.op = .call { callee := .builtin .append, args := #[s, x], argTypes := #[t, tx] }) (hv : a.eval s = v) (h : L.Mine w B v xs) (hB : B ≤ w.heap.size)
    (xv : Value) (ys : List α) (n : Nat) (hn : ys.length = n) (hx : a.eval x = xv) (hs : Src P L.c tx xv n (L.vs ys) w) (hm : xs.length + n ≤ 1000000)
    (hK : ∀ A cap w', L.Mine w' B (.slice A (xs.length + n) cap) (xs ++ ys) → w.grownBy w' v.ownBlock → (∀ k, (Value.slice A (xs.length + n) cap).ownBlock = some k → v.ownBlock = some k ∨ w.heap.size ≤ k) → K (a.put o.dst (.slice A (xs.length + n) cap)) w') : o.wp P a w K Q := by
  obtain ⟨A, cap, w', hr, h1, h2, h3⟩ := h.put N o.type tx hB xv n hn hs hm
  unfold Oper.wp execOp
  simp only [ho, resolve, invoke, builtin, Sem.run_bind, Sem.run_pure, Result.andThen_ok, List.map_toArray, List.map_cons, List.map_nil, hv, hx, hr]
  exact hK A cap w' h1 h2 h3
theorem wpList_puts {ops : Array Oper} {rest : List Oper} {o : Oper} {a : Act} {Q : Exit → Act → World → Prop} (hgd : o.guard = none) (N : Kn P L t zv bt) (s x : Operand) (tx : TypeId)
    (ho : o.op = .call { callee := .builtin .append, args := #[s, x], argTypes := #[t, tx] }) (hv : a.eval s = v) (h : L.Mine w B v xs) (hB : B ≤ w.heap.size)
    (xv : Value) (ys : List α) (n : Nat) (hn : ys.length = n) (hx : a.eval x = xv) (hs : Src P L.c tx xv n (L.vs ys) w) (hm : xs.length + n ≤ 1000000)
    (hK : ∀ A cap w', L.Mine w' B (.slice A (xs.length + n) cap) (xs ++ ys) → w.grownBy w' v.ownBlock → (∀ k, (Value.slice A (xs.length + n) cap).ownBlock = some k → v.ownBlock = some k ∨ w.heap.size ≤ k) → wpList P ops Q rest (a.put o.dst (.slice A (xs.length + n) cap)) w') : wpList P ops Q (o :: rest) a w :=
  wpList_plain hgd fun _ hK' => wp_puts N s x tx ho hv h hB xv ys n hn hx hs hm (fun A cap w' h1 h2 h3 => hK' _ _ (hK A cap w' h1 h2 h3))

/-- The same, told short: what comes is one's own from block B on, and below it nothing has turned. -/
theorem wp_putsB {o : Oper} {a : Act} {K : Act → World → Prop} {Q : Exit → Act → World → Prop} (N : Kn P L t zv bt) (s x : Operand) (tx : TypeId)
    (ho : o.op = .call { callee := .builtin .append, args := #[s, x], argTypes := #[t, tx] }) (v : Value) (hv : a.eval s = v) (xs : List α) (h : L.Mine w B v xs) (hB : B ≤ w.heap.size)
    (xv : Value) (ys : List α) (n : Nat) (hn : ys.length = n) (hx : a.eval x = xv) (hs : Src P L.c tx xv n (L.vs ys) w) (m : Nat) (hmm : xs.length + n = m) (hm : m ≤ 1000000) (zs : List α) (hz : xs ++ ys = zs)
    (hK : ∀ A cap w', L.Mine w' B (.slice A m cap) zs → Below B w w' → K (a.put o.dst (.slice A m cap)) w') : o.wp P a w K Q := by
  subst hmm hz
  exact wp_puts N s x tx ho hv h hB xv ys n hn hx hs hm (fun A cap w' h1 h2 h3 => hK A cap w' h1 ((Below.refl B w).grown h2 hB (fun k hk => (h.lt k hk).1)))
theorem wpList_putsB {ops : Array Oper} {rest : List Oper} {o : Oper} {a : Act} {Q : Exit → Act → World → Prop} (hgd : o.guard = none) (N : Kn P L t zv bt) (s x : Operand) (tx : TypeId)
    (ho : o.op = .call { callee := .builtin .append, args := #[s, x], argTypes := #[t, tx] }) (v : Value) (hv : a.eval s = v) (xs : List α) (h : L.Mine w B v xs) (hB : B ≤ w.heap.size)
    (xv : Value) (ys : List α) (n : Nat) (hn : ys.length = n) (hx : a.eval x = xv) (hs : Src P L.c tx xv n (L.vs ys) w) (m : Nat) (hmm : xs.length + n = m) (hm : m ≤ 1000000) (zs : List α) (hz : xs ++ ys = zs)
    (hK : ∀ A cap w', L.Mine w' B (.slice A m cap) zs → Below B w w' → wpList P ops Q rest (a.put o.dst (.slice A m cap)) w') : wpList P ops Q (o :: rest) a w :=
  wpList_plain hgd fun _ hK' => wp_putsB N s x tx ho v hv xs h hB xv ys n hn hx hs m hmm hm zs hz (fun A cap w' h1 h2 => hK' _ _ (hK A cap w' h1 h2))

/-- An element's address. -/
theorem index_any (N : Kn P L t zv bt) (hc : L.c ≠ 0) {b off len cap i : Nat} (hi : i < len) (w : World) : (Instr.indexAt t (.slice (some ⟨b, off, none⟩) len cap) (.int .i64 (i : Int))).run P w = .ok (.pointer (some ⟨b, off + i * L.c, none⟩)) w := by
  obtain ⟨i0, hi0, hz0, hz1, hz2⟩ := info_parts N.info
  have h1 : (0 : Int) ≤ (i : Int) ∧ (i : Int) < (len : Int) := by omega
  simp [Instr.indexAt, asIntOf, run_underlying N.ht, sizeOf, typeInfo, hi0, hz1, h1, Addr.add_lit]
  intro h
  omega
/-- A whole element, loaded; stored. -/
theorem load_any (N : Kn P L t zv bt) {d : TypeDesc} (hu : P.underlying L.e = some d) (hd : d.isRow = true) {b o : Nat} {x : α} (h : w.rangeAt b o (L.cl x)) : (Instr.loadAt L.e (.pointer (some ⟨b, o, none⟩))).run P w = .ok (.agg (L.cl x).toArray) w :=
  run_loadAt_mid w b o L.e (L.cl x) d h hu hd (by
    obtain ⟨i0, hi0, hz0, hz1, hz2⟩ := info_parts N.info
    rw [hi0, L.len]; simp [hz1])
theorem size_any (N : Kn P L t zv bt) (x : α) : (P.info? L.e).map (·.size) = some (L.cl x).toArray.size := by
  obtain ⟨i0, hi0, hz0, hz1, hz2⟩ := info_parts N.info
  rw [hi0, List.size_toArray, L.len]; simp [hz1]
/-- An element of one's own row may be written. -/
theorem Lies.Mine.there {g off cap n : Nat} (h : L.Mine w B (.slice (some ⟨g, off, none⟩) n cap) xs) {i : Nat} (hi : i < xs.length) : w.there g (off + i * L.c) L.c := by
  rcases h with ⟨hv, _⟩ | ⟨g', off', cap', cur, hv, hg, hh, h1, h2, h3, h4⟩
  · cases hv
  · injection hv with e1 e2 e3
    injection e1 with e1
    injection e1 with e4 e5 _
    subst e4 e5 e3
    intro j hj
    have : off + i * L.c + j < cur.size := by
      have : (i + 1) * L.c ≤ cap * L.c := Nat.mul_le_mul_right _ (by omega)
      rw [Nat.succ_mul] at this
      omega
    exact ⟨by rw [cell_of_row w g _ cur _ _ hh, Array.getElem?_eq_getElem this]; rfl, by simp [World.frozen?, hh]⟩
theorem Lies.vs_set (L : Lies α) (xs : List α) (i : Nat) (x : α) (hi : i < xs.length) : L.vs (xs.set i x) = (L.vs xs).take (i * L.c) ++ L.cl x ++ (L.vs xs).drop ((i + 1) * L.c) := by
  rw [L.vs_take, L.vs_drop, ← L.vs_sing x, ← L.vs_app, ← L.vs_app, List.set_eq_take_append_cons_drop, if_pos hi]
  simp
/-- .. and is then another one. -/
theorem Lies.Mine.set {g off cap n : Nat} (h : L.Mine w B (.slice (some ⟨g, off, none⟩) n cap) xs) {i : Nat} (hi : i < xs.length) (x : α) : L.Mine (w.setCells g (off + i * L.c) (L.cl x)) B (.slice (some ⟨g, off, none⟩) n cap) (xs.set i x) := by
  rcases h with ⟨hv, _⟩ | ⟨g', off', cap', cur, hv, hg, hh, h1, h2, h3, h4⟩
  · cases hv
  · injection hv with e1 e2 e3
    injection e1 with e1
    injection e1 with e4 e5 _
    subst e4 e5 e3
    have hle : (i + 1) * L.c ≤ xs.length * L.c := Nat.mul_le_mul_right _ (by omega)
    have hle2 : xs.length * L.c ≤ cap * L.c := Nat.mul_le_mul_right _ h1
    rw [Nat.succ_mul] at hle
    obtain ⟨cur', r1, r2, r3⟩ := sm_at g L.e (L.cl x) (off + i * L.c) w cur hh (by rw [L.len]; omega)
    refine .inr ⟨g, off, cap, cur', by rw [e2, List.length_set], hg, r1, by rw [List.length_set]; exact h1, h2, by omega, ?_⟩
    have hsz : cur.toList.length = cur.size := Array.length_toList
    have hlo : off ≤ (cur.toList.take (off + i * L.c)).length := by rw [List.length_take, hsz]; omega
    rw [List.length_set, L.vs_set xs i x hi, ← h4, r3, List.append_assoc, List.drop_append_of_le_length hlo, List.drop_take, show off + i * L.c - off = i * L.c by omega, L.len, List.take_take, Nat.min_eq_left (by omega), ← List.append_assoc]
    have hl1 : ((cur.toList.drop off).take (i * L.c) ++ L.cl x).length = (i + 1) * L.c := by rw [List.length_append, L.len, List.length_take, List.length_drop, hsz, Nat.succ_mul]; omega
    rw [List.take_append, List.take_of_length_le (by rw [hl1, Nat.succ_mul]; exact hle), hl1, List.drop_take, List.drop_drop]
    rw [show off + i * L.c + L.c = off + (i + 1) * L.c by rw [Nat.succ_mul]; omega]

/-- Slices of slices, as operations. -/
theorem slice_high (N : Kn P L t zv bt) (A : Option Addr) (n cap k : Nat) (hk : k ≤ cap) (w : World) : (Instr.sliceAt t (.slice A n cap) none (some (.int .i64 (k : Int))) none).run P w = .ok (sliced A 0 k cap L.c) w := by
  obtain ⟨i0, hi0, hz0, hz1, hz2⟩ := info_parts N.info
  have he : P.elem t = L.e := by simp [Program.elem, N.ht]
  have ht : P.underlying t = some (.slice (P.elem t)) := by rw [he]; exact N.ht
  rw [run_sliceAt_slice w t _ _ _ _ ht, run_slice_h w t A n cap ht .i64 (k : Int) (by omega) (by omega), he]
  simp [sizeOf, typeInfo, hi0, hz1]
theorem slice_low (N : Kn P L t zv bt) (A : Option Addr) (n cap l : Nat) (hl : l ≤ n) (w : World) : (Instr.sliceAt t (.slice A n cap) (some (.int .i64 (l : Int))) none none).run P w = .ok (sliced A l n cap L.c) w := by
  obtain ⟨i0, hi0, hz0, hz1, hz2⟩ := info_parts N.info
  have he : P.elem t = L.e := by simp [Program.elem, N.ht]
  have ht : P.underlying t = some (.slice (P.elem t)) := by rw [he]; exact N.ht
  rw [run_sliceAt_slice w t _ _ _ _ ht, run_slice_l w t A n cap ht .i64 (l : Int) (by omega) (by omega), he]
  simp [sizeOf, typeInfo, hi0, hz1]
theorem slice_both (N : Kn P L t zv bt) (A : Option Addr) (n cap l k : Nat) (hl : l ≤ k) (hk : k ≤ cap) (w : World) : (Instr.sliceAt t (.slice A n cap) (some (.int .i64 (l : Int))) (some (.int .i64 (k : Int))) none).run P w = .ok (sliced A l k cap L.c) w := by
  obtain ⟨i0, hi0, hz0, hz1, hz2⟩ := info_parts N.info
  have he : P.elem t = L.e := by simp [Program.elem, N.ht]
  have ht : P.underlying t = some (.slice (P.elem t)) := by rw [he]; exact N.ht
  rw [run_sliceAt_slice w t _ _ _ _ ht, run_slice_lh w t A n cap ht .i64 .i64 (l : Int) (k : Int) (by omega) (by omega) (by omega), he]
  simp [sizeOf, typeInfo, hi0, hz1]
end
end Go.Proofs.YtfbfdkibdjinaaaGreatDoor
