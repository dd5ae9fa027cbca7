/-
  Plain facts on texts, names and digits.
-/
import Derived.Test.YtimlomflgnnmnaaRows
import Derived.WalkKit
import Derived.WalkSpells
import Derived.WalkLawsBesides
import Derived.Lib.Bytealg
import Derived.Lib.IndexBytes
import Derived.Lib.Hide
import Derived.Below
namespace Go.Proofs.Ytimlomflgnnmnaa
set_option maxRecDepth 20000
open Go.RowKit
set_option linter.unusedVariables false
set_option linter.unusedSimpArgs false

/-- The first so many bytes of a text. -/
def fewS (s : ByteArray) (m : Nat) : ByteArray := if m < s.size then s.extract 0 m else s
theorem fewS_size (s : ByteArray) (m : Nat) : (fewS s m).size ≤ m := by
  unfold fewS
  split
  · rw [Lib.size_eq, Lib.extract_data, List.length_take]; omega
  · omega
/-- A number brought between 0 and m. -/
def aroundI (n m : Int) : Int := (if n < 0 then -(n + 1) else n) % m
theorem aroundI_bd (n m : Int) (h : 0 < m) : 0 ≤ aroundI n m ∧ aroundI n m < m := by
  unfold aroundI
  exact ⟨Int.emod_nonneg _ (by omega), Int.emod_lt_of_pos _ h⟩


theorem few_any (s : ByteArray) (m : Nat) (hm : m ≤ 1000) (w : World) (hs : s.size ≤ maxLen) :
    Calls Try.prog 23 #[.string s, .int .i64 (m : Int)] w fun e w' => e = .returned (.string (fewS s m)) ∧ w = w' := by
  unfold maxLen at hs
  by_cases h : m < s.size
  · have Hn := Lib.hid (show fewS s m = s.extract 0 m by simp [fewS, h])
    go_enter Try.func23, Try.ntmps23
    go_wp2
    go_ret
    rw [Hn.out]
    exact ⟨rfl, rfl⟩
  · have Hn := Lib.hid (show fewS s m = s by simp [fewS, h])
    go_enter Try.func23, Try.ntmps23
    go_wp2
    go_ret
    rw [Hn.out]
    exact ⟨rfl, rfl⟩

theorem around_any (n m : Int) (w : World) (h0 : -9223372036854775808 ≤ n) (h1 : n ≤ 9223372036854775807) (hm0 : 0 < m) (hm1 : m ≤ 9223372036854775807) :
    Calls Try.prog 8 #[.int .i64 n, .int .i64 m] w fun e w' => e = .returned (.int .i64 (aroundI n m)) ∧ w = w' := by
  have q0 : (m == 0) = false := by rw [beq_eq_false_iff_ne]; omega
  by_cases h : n < 0
  · have Hn := Lib.hid (show aroundI n m = -((n + 1).tmod m) by unfold aroundI; rw [if_pos h, ← Int.neg_tmod, Int.tmod_eq_emod_of_nonneg (by omega)])
    go_enter Try.func8, Try.ntmps8
    go_wp2
    go_ret
    rw [Hn.out]
    exact ⟨rfl, rfl⟩
  · have Hn := Lib.hid (show aroundI n m = n % m by simp [aroundI, h])
    go_enter Try.func8, Try.ntmps8
    go_wp2
    go_ret
    rw [Hn.out]
    exact ⟨rfl, rfl⟩
end Go.Proofs.Ytimlomflgnnmnaa

namespace Go.Proofs.Ytimlomflgnnmnaa
set_option maxRecDepth 20000
open Go.RowKit
set_option linter.unusedVariables false
set_option linter.unusedSimpArgs false

/-- A small letter or a digit. -/
def lowI (c : Int) : Bool := decide (97 ≤ c ∧ c ≤ 122) || decide (48 ≤ c ∧ c ≤ 57)
/-- A small letter, a digit, or a byte of more. -/
def withI (more : ByteArray) (c : Int) : Bool := lowI c || decide (0 ≤ Lib.indexByte more.data.toList c.toNat.toUInt8)
/-- So, or a great letter. -/
def eventI (more : ByteArray) (c : Int) : Bool := withI more c || decide (65 ≤ c ∧ c ≤ 90)
def partI : Int → Bool := withI ⟨#[46, 45, 95]⟩
def hostI : Int → Bool := withI ⟨#[46, 45]⟩
def signI : Int → Bool := eventI ⟨#[45, 95]⟩

theorem take_snoc (s : ByteArray) (k : Nat) (h : k < s.size) : s.data.toList.take (k + 1) = s.data.toList.take k ++ [s[k]] := by
  rw [List.take_succ_eq_append_getElem (by simpa using h)]; rfl

/-- Each byte may stand. -/
def allI (p : Int → Bool) (l : List UInt8) : Bool := l.all fun c => p (c.toNat : Int)
/-- 1 to 16 bytes, each of which may stand. -/
def filledB (p : Int → Bool) (s : ByteArray) : Bool := decide (1 ≤ s.size ∧ s.size ≤ 16) && allI p s.data.toList

theorem allI_step (p : Int → Bool) (s : ByteArray) (k : Nat) (h : k < s.size) (ha : allI p (s.data.toList.take k) = true) (hp : p (s[k].toNat : Int) = true) : allI p (s.data.toList.take (k + 1)) = true := by
  rw [take_snoc s k h]
  simp only [allI, List.all_append, List.all_cons, List.all_nil, Bool.and_true, Bool.and_eq_true] at *
  exact ⟨ha, hp⟩
theorem allI_stop (p : Int → Bool) (s : ByteArray) (k : Nat) (h : k < s.size) (hp : p (s[k].toNat : Int) = false) : allI p s.data.toList = false := by
  unfold allI
  rw [List.all_eq_false]
  exact ⟨s[k], List.getElem_mem (l := s.data.toList) (n := k) (by simpa using h), by rw [hp]; simp⟩
theorem allI_full (p : Int → Bool) (s : ByteArray) (k : Nat) (h : s.size ≤ k) (ha : allI p (s.data.toList.take k) = true) : allI p s.data.toList = true := by
  rwa [List.take_of_length_le (by simpa using h)] at ha
theorem filledB_no (p : Int → Bool) (s : ByteArray) (h : s.size < 1 ∨ 16 < s.size) : filledB p s = false := by
  unfold filledB
  have : decide (1 ≤ s.size ∧ s.size ≤ 16) = false := by simp; omega
  rw [this]; rfl
theorem filledB_in (p : Int → Bool) (s : ByteArray) (h1 : 1 ≤ s.size) (h2 : s.size ≤ 16) : filledB p s = allI p s.data.toList := by
  unfold filledB
  have : decide (1 ≤ s.size ∧ s.size ≤ 16) = true := by simp; omega
  rw [this]; rfl
theorem filledB_stop (p : Int → Bool) (s : ByteArray) (h : allI p s.data.toList = false) : filledB p s = false := by
  unfold filledB; rw [h, Bool.and_false]
theorem filledB_size {p : Int → Bool} {s : ByteArray} (h : filledB p s = true) : 0 < s.size ∧ s.size ≤ 16 := by
  unfold filledB at h
  rw [Bool.and_eq_true, decide_eq_true_iff] at h
  omega

/-- The first and the last byte are small letters or digits. -/
def edgeB (s : ByteArray) : Bool := if h : 0 < s.size then lowI (s[0].toNat : Int) && lowI (s[s.size - 1].toNat : Int) else false
/-- A server. -/
def serverB (s : ByteArray) : Bool := filledB hostI s && edgeB s
theorem serverB_no (s : ByteArray) (h : filledB hostI s = false) : serverB s = false := by unfold serverB; rw [h]; rfl
theorem serverB_yes (s : ByteArray) (h : filledB hostI s = true) (z : 0 < s.size) : serverB s = (lowI (s[0].toNat : Int) && lowI (s[s.size - 1].toNat : Int)) := by
  unfold serverB edgeB
  rw [h, dif_pos z]; rfl

theorem bytes_all {P : Int → Prop} (h : ∀ n : Fin 256, P ((n.val : Nat) : Int)) {c : Int} (h0 : 0 ≤ c) (h1 : c ≤ 255) : P c := by
  obtain ⟨n, rfl⟩ := Int.eq_ofNat_of_zero_le h0
  exact h ⟨n, by omega⟩
theorem partI_eq {c : Int} (h0 : 0 ≤ c) (h1 : c ≤ 255) : partI c = (lowI c || c == 46 || c == 45 || c == 95) :=
  bytes_all (P := fun c => partI c = (lowI c || c == 46 || c == 45 || c == 95)) (by decide +kernel) h0 h1
theorem hostI_eq {c : Int} (h0 : 0 ≤ c) (h1 : c ≤ 255) : hostI c = (lowI c || c == 46 || c == 45) :=
  bytes_all (P := fun c => hostI c = (lowI c || c == 46 || c == 45)) (by decide +kernel) h0 h1
theorem signI_eq {c : Int} (h0 : 0 ≤ c) (h1 : c ≤ 255) : signI c = (lowI c || decide (65 ≤ c ∧ c ≤ 90) || c == 45 || c == 95) :=
  bytes_all (P := fun c => signI c = (lowI c || decide (65 ≤ c ∧ c ≤ 90) || c == 45 || c == 95)) (by decide +kernel) h0 h1
end Go.Proofs.Ytimlomflgnnmnaa

namespace Go.Proofs.Ytimlomflgnnmnaa
set_option maxRecDepth 20000
open Go.RowKit
set_option linter.unusedVariables false
set_option linter.unusedSimpArgs false

theorem indexByte_lt (l : List UInt8) (c : UInt8) : Lib.indexByte l c < l.length := by
  induction l with
  | nil => simp [Lib.indexByte]
  | cons b l ih =>
    unfold Lib.indexByte
    simp only [List.length_cons]
    split
    · omega
    · split <;> omega

theorem not_empty (s : ByteArray) (h : 0 < s.size) : s.toList.isEmpty = false := by
  rw [Lib.toList_data, List.isEmpty_eq_false_iff]
  intro he
  have hz := Lib.size_eq s
  rw [he, List.length_nil] at hz
  omega

/-- Where the first colon stands; -1: nowhere. -/
def colonK (s : ByteArray) : Int := Lib.indexByte s.data.toList 58
theorem colonK_ge (s : ByteArray) : -1 ≤ colonK s := Lib.indexByte_ge _ _
theorem colonK_lt (s : ByteArray) : colonK s < s.size := by
  have := indexByte_lt s.data.toList 58
  rw [← Lib.size_eq] at this
  exact this

theorem drop_cons (s : ByteArray) (k : Nat) (h : k < s.size) : s.data.toList.drop k = s[k] :: s.data.toList.drop (k + 1) := by
  have hl : k < s.data.toList.length := by rw [← Lib.size_eq]; exact h
  rw [List.drop_eq_getElem_cons hl]
  rfl
theorem colon_miss (s : ByteArray) (k : Nat) (h : k < s.size) (hc : ((s[k].toNat : Int) == 58) = false) :
    (if Lib.indexByte (s.data.toList.drop k) 58 = -1 then -1 else Lib.indexByte (s.data.toList.drop k) 58 + (k : Int)) = (if Lib.indexByte (s.data.toList.drop (k + 1)) 58 = -1 then -1 else Lib.indexByte (s.data.toList.drop (k + 1)) 58 + ((k + 1 : Nat) : Int)) := by
  rw [drop_cons s k h]
  have hb : (s[k] == 58) = false := by
    rw [beq_eq_false_iff_ne] at hc ⊢
    intro e
    exact hc (by rw [e]; rfl)
  have hg := Lib.indexByte_ge (s.data.toList.drop (k + 1)) 58
  conv => lhs; unfold Lib.indexByte
  rw [hb]
  by_cases he : Lib.indexByte (s.data.toList.drop (k + 1)) 58 = -1
  · simp [he]
  · simp [he]; omega
theorem colon_hit (s : ByteArray) (k : Nat) (h : k < s.size) (hc : ((s[k].toNat : Int) == 58) = true) :
    (if Lib.indexByte (s.data.toList.drop k) 58 = -1 then -1 else Lib.indexByte (s.data.toList.drop k) 58 + (k : Int)) = (k : Int) := by
  rw [drop_cons s k h]
  have hb : (s[k] == 58) = true := by
    rw [beq_iff_eq] at hc ⊢
    apply UInt8.toNat_inj.1
    show s[k].toNat = 58
    omega
  conv => lhs; unfold Lib.indexByte
  rw [hb]
  simp
theorem colon_end (s : ByteArray) (k : Nat) (h : s.size ≤ k) :
    (if Lib.indexByte (s.data.toList.drop k) 58 = -1 then -1 else Lib.indexByte (s.data.toList.drop k) 58 + (k : Int)) = -1 := by
  rw [List.drop_of_length_le (by rw [← Lib.size_eq]; exact h)]
  rfl

/-- What stands behind the sign. -/
def restS (s : ByteArray) : ByteArray := s.extract 1 s.size
theorem restS_data (s : ByteArray) : (restS s).data.toList = s.data.toList.drop 1 := Lib.extract_to_end s 1
theorem restS_size (s : ByteArray) : (restS s).size = s.size - 1 := by
  rw [Lib.size_eq, restS_data, List.length_drop, ← Lib.size_eq]

theorem data_cons (s : ByteArray) (h : 0 < s.size) : s.data.toList = s[0] :: s.data.toList.drop 1 := by
  have hl : 0 < s.data.toList.length := by rw [← Lib.size_eq]; exact h
  conv => lhs; rw [← List.drop_zero (l := s.data.toList), List.drop_eq_getElem_cons hl]
  rfl

/-- Behind a sign that is no colon, the colon stands one further. -/
theorem colonK_rest (s : ByteArray) (h : 0 < s.size) (hc : s[0] ≠ 58) : colonK s = if colonK (restS s) = -1 then -1 else colonK (restS s) + 1 := by
  unfold colonK
  rw [restS_data, data_cons s h, List.drop_succ_cons, List.drop_zero]
  conv => lhs; unfold Lib.indexByte
  have hb : (s[0] == 58) = false := by rw [beq_eq_false_iff_ne]; exact hc
  rw [hb]
  simp

theorem ext_data {a b : ByteArray} (h : a.data.toList = b.data.toList) : a = b := by
  rw [← Lib.mk_data a, ← Lib.mk_data b, h]

theorem rest_left (s : ByteArray) (i : Nat) : (restS s).extract 0 i = s.extract 1 (i + 1) := by
  apply ext_data
  rw [Lib.extract_data, Lib.extract_data, restS_data, List.drop_zero, Nat.sub_zero, Nat.add_sub_cancel]
theorem rest_right (s : ByteArray) (i : Nat) : (restS s).extract (i + 1) (restS s).size = s.extract (i + 2) s.size := by
  apply ext_data
  rw [Lib.extract_to_end, Lib.extract_to_end, restS_data, List.drop_drop]
  congr 1
  omega

/-- A name of a sign: the sign, a part, a colon, a server. -/
def namedB (sign : Int) (s : ByteArray) : Bool := if h : 0 < s.size then ((s[0].toNat : Int) == sign) && decide (1 ≤ colonK s) && filledB partI (s.extract 1 (colonK s).toNat) && serverB (s.extract ((colonK s).toNat + 1) s.size) else false
/-- A user or a room. -/
def nameB (s : ByteArray) : Bool := namedB 64 s || namedB 33 s
def signS (s : ByteArray) : Int := if namedB 64 s then 64 else if namedB 33 s then 33 else 0
def partS (s : ByteArray) : ByteArray := if nameB s then s.extract 1 (colonK s).toNat else ⟨#[]⟩
def homeS (s : ByteArray) : ByteArray := if nameB s then s.extract ((colonK s).toNat + 1) s.size else ⟨#[]⟩

theorem server_none : serverB ⟨#[]⟩ = false := by decide +kernel

theorem named_empty (sign : Int) (s : ByteArray) (h : s.size = 0) : namedB sign s = false := by
  unfold namedB; rw [dif_neg (by omega)]
theorem named_other (sign : Int) (s : ByteArray) (h : 0 < s.size) (hc : ((s[0].toNat : Int) == sign) = false) : namedB sign s = false := by
  unfold namedB; rw [dif_pos h, hc]; rfl
theorem named_off (sign : Int) (s : ByteArray) (h : colonK s < 1) : namedB sign s = false := by
  unfold namedB
  by_cases hz : 0 < s.size
  · have : decide (1 ≤ colonK s) = false := by simp; omega
    rw [dif_pos hz, this]; simp
  · rw [dif_neg hz]
theorem named_on (sign : Int) (s : ByteArray) (k : Nat) (hk : colonK s = (k : Int)) (h1 : 1 ≤ k) (hz : 0 < s.size) : namedB sign s = (((s[0].toNat : Int) == sign) && filledB partI (s.extract 1 k) && serverB (s.extract (k + 1) s.size)) := by
  unfold namedB
  rw [dif_pos hz, hk]
  have : decide ((1 : Int) ≤ (k : Int)) = true := by simp; omega
  rw [this]; simp

theorem splits_no (s : ByteArray) (h : nameB s = false) : signS s = 0 ∧ partS s = ⟨#[]⟩ ∧ homeS s = ⟨#[]⟩ := by
  have h' := h
  unfold nameB at h'
  rw [Bool.or_eq_false_iff] at h'
  simp [signS, partS, homeS, h, h'.1, h'.2]
theorem splits_yes (s : ByteArray) (h : nameB s = true) (k : Nat) (hk : colonK s = (k : Int)) : partS s = s.extract 1 k ∧ homeS s = s.extract (k + 1) s.size := by
  simp [partS, homeS, h, hk]
theorem nameB_size (s : ByteArray) (h : nameB s = true) : 0 < s.size := by
  by_cases hz : 0 < s.size
  · exact hz
  · exfalso
    unfold nameB at h
    rw [named_empty 64 s (by omega), named_empty 33 s (by omega)] at h
    cases h
theorem signS_yes (s : ByteArray) (h : nameB s = true) : signS s = (s[0]'(nameB_size s h)).toNat := by
  have hz := nameB_size s h
  unfold nameB at h
  unfold signS
  by_cases h64 : namedB 64 s = true
  · rw [if_pos h64]
    unfold namedB at h64
    rw [dif_pos hz] at h64
    simp only [Bool.and_eq_true, beq_iff_eq] at h64
    omega
  · rw [if_neg h64]
    have h64' : namedB 64 s = false := by simpa using h64
    rw [h64', Bool.false_or] at h
    rw [if_pos h]
    unfold namedB at h
    rw [dif_pos hz] at h
    simp only [Bool.and_eq_true, beq_iff_eq] at h
    omega

/-- A text that begins with a name's sign is a name just if both halves are. -/
theorem nameB_on (s : ByteArray) (k : Nat) (hk : colonK s = (k : Int)) (h1 : 1 ≤ k) (hz : 0 < s.size) (hs : (((s[0].toNat : Int) == 64) || ((s[0].toNat : Int) == 33)) = true) :
    nameB s = (filledB partI (s.extract 1 k) && serverB (s.extract (k + 1) s.size)) := by
  unfold nameB
  rw [named_on 64 s k hk h1 hz, named_on 33 s k hk h1 hz]
  revert hs
  generalize ((s[0].toNat : Int) == 64) = a
  generalize ((s[0].toNat : Int) == 33) = b
  generalize filledB partI (s.extract 1 k) = x
  generalize serverB (s.extract (k + 1) s.size) = y
  cases a <;> cases b <;> cases x <;> cases y <;> decide
theorem nameB_other (s : ByteArray) (hz : 0 < s.size) (hs : (((s[0].toNat : Int) == 64) || ((s[0].toNat : Int) == 33)) = false) : nameB s = false := by
  rw [Bool.or_eq_false_iff] at hs
  unfold nameB
  rw [named_other 64 s hz hs.1, named_other 33 s hz hs.2]; rfl
theorem nameB_off (s : ByteArray) (h : colonK s < 1) : nameB s = false := by
  unfold nameB
  rw [named_off 64 s h, named_off 33 s h]; rfl

theorem nameB_colon (s : ByteArray) (h : nameB s = true) : ∃ k : Nat, colonK s = (k : Int) ∧ 1 ≤ k ∧ k < s.size := by
  by_cases h1 : colonK s < 1
  · rw [nameB_off s h1] at h; cases h
  · have hl := colonK_lt s
    obtain ⟨k, hk⟩ := Int.eq_ofNat_of_zero_le (a := colonK s) (by omega)
    exact ⟨k, hk, by omega, by omega⟩

/-- The first k bytes stand as a server's. -/
def srvTo (s : ByteArray) (k : Nat) : Prop := ∀ j, j < k → ∀ h : j < s.size, lowI (s[j].toNat : Int) = true ∨ (0 < j ∧ j < s.size - 1 ∧ hostI (s[j].toNat : Int) = true)
theorem srv_step (s : ByteArray) (k : Nat) (ha : srvTo s k) (h : k < s.size) (hk : lowI (s[k].toNat : Int) = true ∨ (0 < k ∧ k < s.size - 1 ∧ hostI (s[k].toNat : Int) = true)) : srvTo s (k + 1) := by
  intro j hj hs
  by_cases e : j = k
  · subst e; exact hk
  · exact ha j (by omega) hs
theorem byte_le (c : UInt8) : (c.toNat : Int) ≤ 255 := by have := c.toNat_lt; omega
theorem host_of_low (c : UInt8) (h : lowI (c.toNat : Int) = true) : hostI (c.toNat : Int) = true := by
  rw [hostI_eq (by omega) (byte_le c), h]; rfl
theorem srv_full (s : ByteArray) (k : Nat) (ha : srvTo s k) (h : s.size ≤ k) (h1 : 1 ≤ s.size) (h2 : s.size ≤ 16) : serverB s = true := by
  have hz : 0 < s.size := h1
  have hall : allI hostI s.data.toList = true := by
    unfold allI
    rw [List.all_eq_true]
    intro c hc
    obtain ⟨j, hj, rfl⟩ := List.getElem_of_mem hc
    have hj' : j < s.size := by rw [Lib.size_eq]; exact hj
    rcases ha j (by omega) hj' with hl | ⟨_, _, hh⟩
    · exact host_of_low _ hl
    · exact hh
  rw [serverB_yes s (by rw [filledB_in _ _ h1 h2]; exact hall) hz]
  rcases ha 0 (by omega) hz with h0 | ⟨h0, _, _⟩
  · rcases ha (s.size - 1) (by omega) (by omega) with hl | ⟨_, hl, _⟩
    · rw [h0, hl]; rfl
    · omega
  · omega
theorem srv_stop (s : ByteArray) (k : Nat) (h : k < s.size) (hl : lowI (s[k].toNat : Int) = false) (hi : ¬ 0 < k ∨ ¬ k < s.size - 1 ∨ hostI (s[k].toNat : Int) = false) : serverB s = false := by
  cases hf : filledB hostI s
  · exact serverB_no s hf
  · rw [serverB_yes s hf (by omega)]
    rcases hi with hi | hi | hi
    · have e : k = 0 := by omega
      subst e
      rw [hl]; rfl
    · have e : k = s.size - 1 := by omega
      subst e
      rw [hl, Bool.and_false]
    · rw [filledB_stop hostI s (allI_stop hostI s k h hi)] at hf
      cases hf
theorem srv_long (s : ByteArray) (h : s.size < 1 ∨ 16 < s.size) : serverB s = false := serverB_no s (filledB_no _ _ h)

/-- An event: a dollar sign, and 1 to 16 bytes behind it. -/
def eventB (s : ByteArray) : Bool := if h : 0 < s.size then ((s[0].toNat : Int) == 36) && filledB signI (restS s) else false
def threadB (s : ByteArray) : Bool := (s.toList == []) || (s.toList == [109, 97, 105, 110]) || eventB s
/-- The bytes from the second on to the k-th stand as an event's. -/
def evTo (s : ByteArray) (k : Nat) : Prop := ∀ j, 1 ≤ j → j < k → ∀ h : j < s.size, signI (s[j].toNat : Int) = true
theorem ev_step (s : ByteArray) (k : Nat) (ha : evTo s k) (h : k < s.size) (hk : signI (s[k].toNat : Int) = true) : evTo s (k + 1) := by
  intro j h1 hj hs
  by_cases e : j = k
  · subst e; exact hk
  · exact ha j h1 (by omega) hs
theorem restS_get (s : ByteArray) (j : Nat) (h : j < (restS s).data.toList.length) : (restS s).data.toList[j] = s[j + 1]'(by rw [← Lib.size_eq, restS_size] at h; omega) := by
  have hd := restS_data s
  have h2 : j < (s.data.toList.drop 1).length := by rw [← hd]; exact h
  have : (restS s).data.toList[j] = (s.data.toList.drop 1)[j] := by congr 1
  have h3 : j + 1 < s.data.toList.length := by rw [List.length_drop] at h2; omega
  have h4 : 1 + j < s.data.toList.length := by omega
  rw [this, List.getElem_drop]
  show s.data.toList[1 + j] = s.data.toList[j + 1]
  simp only [Nat.add_comm 1 j]
theorem ev_full (s : ByteArray) (k : Nat) (ha : evTo s k) (h : s.size ≤ k) (h1 : 2 ≤ s.size) (h2 : s.size ≤ 17) (hd : ((s[0].toNat : Int) == 36) = true) : eventB s = true := by
  unfold eventB
  have hz := restS_size s
  rw [dif_pos (by omega), hd, filledB_in _ _ (by omega) (by omega)]
  unfold allI
  rw [Bool.true_and, List.all_eq_true]
  intro c hc
  obtain ⟨j, hj, rfl⟩ := List.getElem_of_mem hc
  rw [restS_get s j hj]
  have hj' := hj
  rw [← Lib.size_eq, hz] at hj'
  exact ha (j + 1) (by omega) (by omega) (by omega)
theorem ev_stop (s : ByteArray) (k : Nat) (h1 : 1 ≤ k) (h : k < s.size) (hl : signI (s[k].toNat : Int) = false) : eventB s = false := by
  unfold eventB
  rw [dif_pos (by omega)]
  have hz := restS_size s
  have hj : k - 1 < (restS s).size := by omega
  have hf : allI signI (restS s).data.toList = false := by
    apply allI_stop signI (restS s) (k - 1) hj
    have hj2 : k - 1 < (restS s).data.toList.length := by rw [← Lib.size_eq]; exact hj
    have e := restS_get s (k - 1) hj2
    have e2 : (restS s)[k - 1] = s[k - 1 + 1]'(by omega) := e
    rw [e2]
    have e3 : s[k - 1 + 1]'(by omega) = s[k] := by congr 1; omega
    rw [e3]
    exact hl
  rw [filledB_stop _ _ hf, Bool.and_false]
theorem ev_size (s : ByteArray) (h : s.size < 2 ∨ 17 < s.size) : eventB s = false := by
  unfold eventB
  have hz := restS_size s
  split
  · rw [filledB_no _ _ (by omega), Bool.and_false]
  · rfl
theorem ev_other (s : ByteArray) (hz : 0 < s.size) (hd : ((s[0].toNat : Int) == 36) = false) : eventB s = false := by
  unfold eventB
  rw [dif_pos hz, hd]; rfl
theorem ev_yes (s : ByteArray) (hz : 0 < s.size) (hd : ((s[0].toNat : Int) == 36) = true) : eventB s = filledB signI (restS s) := by
  unfold eventB
  rw [dif_pos hz, hd]; rfl
end Go.Proofs.Ytimlomflgnnmnaa

namespace Go.Proofs.Ytimlomflgnnmnaa
set_option maxRecDepth 20000
set_option linter.unusedVariables false
set_option linter.unusedSimpArgs false

/-- A number's bytes: its digits to the base 128, the least one first, all but the last one with 128 more. -/
def digs (n : Nat) : List UInt8 := if h : n < 128 then [UInt8.ofNat n] else UInt8.ofNat (128 + n % 128) :: digs (n / 128)
termination_by n
decreasing_by omega

/-- How many bytes go on, at the head. -/
def goes : List UInt8 → Nat
  | [] => 0
  | b :: r => if 128 ≤ b.toNat then goes r + 1 else 0

/-- The number of digits. -/
def val : List UInt8 → Nat
  | [] => 0
  | b :: r => b.toNat % 128 + 128 * val r

theorem goes_le (l : List UInt8) : goes l ≤ l.length := by
  induction l with
  | nil => exact Nat.le_refl _
  | cons b r ih => unfold goes; split <;> simp <;> omega

theorem goes_on {l : List UInt8} {j : Nat} {x : UInt8} (hj : j < goes l) (hx : l[j]? = some x) : 128 ≤ x.toNat := by
  induction l generalizing j with
  | nil => simp at hx
  | cons b r ih =>
    unfold goes at hj
    split at hj
    · rename_i hb
      cases j with
      | zero => simp at hx; subst hx; exact hb
      | succ j => exact ih (j := j) (by omega) (by simpa using hx)
    · omega

theorem goes_stops {l : List UInt8} {x : UInt8} (hx : l[goes l]? = some x) : x.toNat < 128 := by
  induction l with
  | nil => simp at hx
  | cons b r ih =>
    unfold goes at hx
    split at hx
    · exact ih (by simpa using hx)
    · rename_i hb
      simp at hx
      subst hx
      omega

theorem val_lt (l : List UInt8) : val l < 128 ^ l.length := by
  induction l with
  | nil => simp [val]
  | cons b r ih =>
    unfold val
    rw [List.length_cons, Nat.pow_succ]
    have := Nat.mod_lt b.toNat (show 0 < 128 by decide)
    omega

theorem pow128 (k : Nat) : 128 ^ k = 2 ^ (7 * k) := by rw [show (128 : Nat) = 2 ^ 7 by rfl, ← Nat.pow_mul]
theorem pow128_le {j k : Nat} (h : j ≤ k) : 128 ^ j ≤ 128 ^ k := Nat.pow_le_pow_right (by decide) h

theorem val_snoc (l : List UInt8) (x : UInt8) : val (l ++ [x]) = val l + x.toNat % 128 * 128 ^ l.length := by
  induction l with
  | nil => simp [val]
  | cons b r ih =>
    rw [List.cons_append, val, val, ih, List.length_cons, Nat.pow_succ, Nat.mul_add, Nat.add_assoc, ← Nat.mul_assoc, Nat.mul_comm 128 (x.toNat % 128), Nat.mul_assoc, Nat.mul_comm 128 (128 ^ r.length)]

theorem takeU_snoc {l : List UInt8} {k : Nat} {x : UInt8} (hx : l[k]? = some x) : l.take (k + 1) = l.take k ++ [x] := by
  rw [List.take_add_one, hx]; rfl

theorem val_take {l : List UInt8} {k : Nat} {x : UInt8} (hx : l[k]? = some x) : val (l.take (k + 1)) = val (l.take k) + x.toNat % 128 * 128 ^ k := by
  have hk : k < l.length := (List.getElem?_eq_some_iff.1 hx).1
  rw [takeU_snoc hx, val_snoc, List.length_take, Nat.min_eq_left (by omega)]

theorem val_take_lt (l : List UInt8) (k : Nat) : val (l.take k) < 128 ^ k :=
  Nat.lt_of_lt_of_le (val_lt _) (pow128_le (by rw [List.length_take]; omega))

/-- Two parts that do not meet. -/
theorem or_parts {a d k : Nat} (ha : a < 128 ^ k) : a ||| (d * 2 ^ (7 * k)) = a + d * 128 ^ k := by
  rw [pow128] at ha ⊢
  rw [Nat.or_comm, Nat.mul_comm d, ← Nat.two_pow_add_eq_or_of_lt ha, Nat.add_comm]

/-- Which error a number is: 0, if it is one. -/
def numErr (bs : List UInt8) : Nat := if 9 ≤ goes bs then 2 else if goes bs = bs.length then 3 else if bs.getD (goes bs) 0 = 0 ∧ 0 < goes bs then 2 else 0

/-- What a reader has: the bytes that are left, its first error. -/
abbrev St := List UInt8 × Nat
def failS (s : St) (x : Nat) : St := if s.2 = 0 then ([], x) else s
def numS (s : St) : Nat × St := if numErr s.1 = 0 then (val (s.1.take (goes s.1 + 1)), (s.1.drop (goes s.1 + 1), s.2)) else (0, failS s (numErr s.1))
def textS (s : St) (most : Int) : List UInt8 × St :=
  let p := numS s
  let q := if most < (p.1 : Int) then failS p.2 2 else p.2
  let r := if q.1.length < p.1 then failS q 3 else q
  if r.2 = 0 then (r.1.take p.1, (r.1.drop p.1, 0)) else ([], r)
def flagS (s : St) : Bool × St :=
  match s.1 with
  | [] => (false, failS s 3)
  | b :: r => (b.toNat == 1, if 1 < b.toNat then failS (r, s.2) 2 else (r, s.2))
def endS (s : St) : Nat := if s.2 = 0 ∧ 0 < s.1.length then 2 else s.2
/-- Behind an error nothing is left. -/
def Ok (s : St) : Prop := s.2 ≠ 0 → s.1 = []

theorem failS_ok {s : St} {x : Nat} (h : Ok s) (hx : x ≠ 0) : Ok (failS s x) := by
  unfold failS
  split
  · intro _; rfl
  · exact h
theorem numErr_nil : numErr [] = 3 := by rfl
theorem numS_err {e : Nat} (he : e ≠ 0) : numS ([], e) = (0, ([], e)) := by simp [numS, numErr_nil, failS, he]
theorem Ok.err {s : St} (h : Ok s) (he : s.2 ≠ 0) : s = ([], s.2) := by
  obtain ⟨b, e⟩ := s
  have := h he
  simp at this
  subst this
  rfl
theorem numS_ok {s : St} (h : Ok s) : Ok (numS s).2 := by
  unfold numS
  split
  · intro he
    have := h he
    rename_i hn
    rw [this] at hn
    exact absurd hn (by decide)
  · rename_i hn
    exact failS_ok h hn
theorem textS_ok {s : St} (h : Ok s) (m : Int) : Ok (textS s m).2 := by
  have h1 := numS_ok h
  unfold textS
  simp only
  have h2 : Ok (if m < ((numS s).1 : Int) then failS (numS s).2 2 else (numS s).2) := by
    split
    · exact failS_ok h1 (by decide)
    · exact h1
  generalize (if m < ((numS s).1 : Int) then failS (numS s).2 2 else (numS s).2) = q at h2 ⊢
  have h3 : Ok (if q.1.length < (numS s).1 then failS q 3 else q) := by
    split
    · exact failS_ok h2 (by decide)
    · exact h2
  generalize (if q.1.length < (numS s).1 then failS q 3 else q) = r at h3 ⊢
  split
  · intro he; exact absurd rfl he
  · exact h3
theorem flagS_ok {s : St} (h : Ok s) : Ok (flagS s).2 := by
  obtain ⟨b, e⟩ := s
  cases b with
  | nil => exact failS_ok h (by decide)
  | cons b r =>
    have he : e = 0 := by
      refine Decidable.byContradiction fun he => ?_
      have := h he
      cases this
    subst he
    unfold flagS
    simp only
    split
    · exact failS_ok (fun he => absurd rfl he) (by decide)
    · intro he; exact absurd rfl he
theorem numS_fst_lt (s : St) : (numS s).1 < 128 ^ 9 := by
  unfold numS
  split
  · rename_i h
    have hg : goes s.1 < 9 := by
      unfold numErr at h
      split at h
      · cases h
      · omega
    exact Nat.lt_of_lt_of_le (val_take_lt _ _) (pow128_le (by omega))
  · exact Nat.pos_of_ne_zero (by decide)

/-- A row that goes on, then ends. -/
theorem digs_small {n : Nat} (h : n < 128) : digs n = [UInt8.ofNat n] := by rw [digs, dif_pos h]
theorem digs_great {n : Nat} (h : ¬ n < 128) : digs n = UInt8.ofNat (128 + n % 128) :: digs (n / 128) := by rw [digs, dif_neg h]
theorem toNat_ofNat {n : Nat} (h : n < 256) : (UInt8.ofNat n).toNat = n := by
  rw [UInt8.toNat_ofNat']
  exact Nat.mod_eq_of_lt h

theorem digs_pos (n : Nat) : 0 < (digs n).length := by
  by_cases h : n < 128
  · rw [digs_small h]; simp
  · rw [digs_great h]; simp

theorem digs_len : ∀ (k n : Nat), n < 128 ^ (k + 1) → (digs n).length ≤ k + 1
  | 0, n, h => by rw [digs_small (by simpa using h)]; exact Nat.le_refl _
  | k + 1, n, h => by
    by_cases hn : n < 128
    · rw [digs_small hn]; simp
    · rw [digs_great hn, List.length_cons]
      have := digs_len k (n / 128) (by rw [Nat.div_lt_iff_lt_mul (by decide)]; rw [Nat.pow_succ] at h; exact h)
      omega

theorem val_digs (n : Nat) : val (digs n) = n := by
  induction n using Nat.strongRecOn with
  | ind n ih =>
    by_cases h : n < 128
    · rw [digs_small h, val, val, toNat_ofNat (by omega)]; omega
    · rw [digs_great h, val, ih _ (by omega), toNat_ofNat (by omega)]; omega

/-- How many of a number's bytes go on. -/
theorem goes_digs (n : Nat) (r : List UInt8) : goes (digs n ++ r) + 1 = (digs n).length := by
  induction n using Nat.strongRecOn with
  | ind n ih =>
    by_cases h : n < 128
    · rw [digs_small h]
      simp [goes, toNat_ofNat (show n < 256 by omega)]
      omega
    · rw [digs_great h, List.cons_append, goes, if_pos (by rw [toNat_ofNat (by omega)]; omega), ih _ (by omega), List.length_cons]

/-- The last of them. -/
theorem last_digs (n : Nat) (r : List UInt8) : (digs n ++ r).getD (goes (digs n ++ r)) 0 = 0 → n = 0 := by
  induction n using Nat.strongRecOn with
  | ind n ih =>
    by_cases h : n < 128
    · rw [digs_small h]
      have hg : goes ([UInt8.ofNat n] ++ r) = 0 := by simp [goes, toNat_ofNat (show n < 256 by omega)]; omega
      rw [hg]
      intro h0
      have h0 : UInt8.ofNat n = 0 := by simpa using h0
      have := congrArg UInt8.toNat h0
      rw [toNat_ofNat (by omega)] at this
      exact this
    · rw [digs_great h, List.cons_append, goes, if_pos (by rw [toNat_ofNat (by omega)]; omega)]
      intro h0
      have := ih (n / 128) (by omega) (by simpa using h0)
      omega

theorem numErr_digs (n : Nat) (h : n < 128 ^ 9) (r : List UInt8) : numErr (digs n ++ r) = 0 := by
  have h1 := goes_digs n r
  have h2 := digs_len 8 n h
  have h3 := digs_pos n
  unfold numErr
  rw [if_neg (by omega), if_neg (by rw [List.length_append]; omega), if_neg]
  rintro ⟨h4, h5⟩
  have := last_digs n r h4
  subst this
  rw [show (digs 0).length = 1 by rw [digs_small (by decide)]; rfl] at h1
  omega

/-- What is laid is read as it was. -/
theorem numS_digs (n : Nat) (h : n < 128 ^ 9) (r : List UInt8) (e : Nat) : numS (digs n ++ r, e) = (n, (r, e)) := by
  unfold numS
  simp only
  rw [if_pos (numErr_digs n h r), goes_digs, List.take_left, List.drop_left, val_digs]

/-- Whether a number's bytes are as many as are needed. -/
theorem digs_val : ∀ (l : List UInt8) (k : Nat), goes l = k → k < l.length → ((digs (val (l.take (k + 1)))).length ≠ k + 1 ↔ l.getD k 0 = 0 ∧ 0 < k)
  | [], k, _, h => by simp at h
  | b :: r, k, hg, hk => by
    by_cases hb : 128 ≤ b.toNat
    · rw [goes, if_pos hb] at hg
      subst hg
      have hb2 : b.toNat < 256 := b.toNat_lt
      rw [List.take_succ_cons, val]
      have hr : goes r < r.length := by simpa using hk
      obtain ⟨x, hx⟩ : ∃ x, r[goes r]? = some x := ⟨_, List.getElem?_eq_getElem hr⟩
      have hx1 := goes_stops hx
      have ih := digs_val r (goes r) rfl hr
      rw [show (b :: r).getD (goes r + 1) 0 = r.getD (goes r) 0 from rfl]
      have hxd : r.getD (goes r) 0 = x := by rw [List.getD_eq_getElem?_getD, hx]; rfl
      rw [hxd] at ih ⊢
      generalize hv : val (r.take (goes r + 1)) = v at ih ⊢
      have hm : b.toNat % 128 < 128 := Nat.mod_lt _ (by decide)
      by_cases hv0 : v = 0
      · subst hv0
        rw [digs_small (by omega)]
        rw [digs_small (by omega)] at ih
        have hx0 : x = 0 := by
          rw [val_take hx] at hv
          have hp : 0 < 128 ^ goes r := Nat.pow_pos (by decide)
          have : x.toNat % 128 = 0 := by
            rcases Nat.eq_zero_or_pos (x.toNat % 128) with h | h
            · exact h
            · have := Nat.mul_pos h hp; omega
          apply UInt8.toNat_inj.1
          show x.toNat = 0
          omega
        simp [hx0]
      · rw [digs_great (by omega), List.length_cons, show (b.toNat % 128 + 128 * v) / 128 = v by omega]
        constructor
        · intro h
          exact ⟨(ih.1 (by omega)).1, by omega⟩
        · rintro ⟨h, _⟩
          by_cases hg0 : 0 < goes r
          · have := ih.2 ⟨h, hg0⟩
            omega
          · exfalso
            apply hv0
            have hg0 : goes r = 0 := by omega
            rw [← hv, val_take hx, hg0, List.take_zero, val, h]
            rfl
    · rw [goes, if_neg hb] at hg
      subst hg
      rw [List.take_succ_cons, List.take_zero, val, val, digs_small (by omega)]
      simp

/-- A number that is cut off. -/
theorem goes_cut (l : List UInt8) (k : Nat) (h : k ≤ goes l) : goes (l.take k) = k := by
  induction l generalizing k with
  | nil => simp [goes] at h; subst h; rfl
  | cons b r ih =>
    cases k with
    | zero => rfl
    | succ k =>
      unfold goes at h
      split at h
      · rename_i hb
        rw [List.take_succ_cons, goes, if_pos hb, ih k (by omega)]
      · omega
theorem numErr_cut (n k : Nat) (h : n < 128 ^ 9) (hk : k < (digs n).length) : numErr ((digs n).take k) = 3 := by
  have h1 := goes_digs n []
  have h2 := digs_len 8 n h
  rw [List.append_nil] at h1
  have h3 := goes_cut (digs n) k (by omega)
  unfold numErr
  rw [h3, if_neg (by omega), if_pos (by rw [List.length_take]; omega)]

theorem goes_all (l r : List UInt8) (h : ∀ x ∈ l, 128 ≤ x.toNat) : goes (l ++ r) = l.length + goes r := by
  induction l with
  | nil => simp
  | cons b l ih =>
    rw [List.cons_append, goes, if_pos (h b (by simp)), ih (fun x hx => h x (by simp [hx])), List.length_cons]
    omega
/-- One byte more than is needed. -/
theorem numErr_more (l : List UInt8) (h : ∀ x ∈ l, 128 ≤ x.toNat) (h0 : 0 < l.length) (h8 : l.length ≤ 8) : numErr (l ++ [0]) = 2 := by
  have h1 : goes (l ++ [0]) = l.length := by rw [goes_all l _ h]; simp [goes]
  unfold numErr
  rw [h1, if_neg (by omega), if_neg (by simp), if_pos]
  refine ⟨?_, h0⟩
  rw [List.getD_eq_getElem?_getD, List.getElem?_append_right (Nat.le_refl _)]
  simp
/-- Nine bytes that go on. -/
theorem numErr_nine (l r : List UInt8) (h : ∀ x ∈ l, 128 ≤ x.toNat) (h9 : l.length = 9) : numErr (l ++ r) = 2 := by
  unfold numErr
  rw [goes_all l r h, if_pos (by omega)]
end Go.Proofs.Ytimlomflgnnmnaa
