/-
  Plain facts on names: where the colon stands, what a user's or a room's part and home are, and that both ways to cut a text around its colon give the same. No program is named here.
-/
import Derived.Test.YtahgkhcmchbpbaaPure
import Derived.Test.YtahgkhcmchbpbaaTiny
import Derived.Lib.IndexBytes
namespace Go.Proofs.Ytahgkhcmchbpbaa
open Go.RowKit
set_option linter.unusedVariables false
set_option linter.unusedSimpArgs false

theorem indexByte_lt (l : List UInt8) (c : UInt8) : Lib.indexByte l c < l.length := by
  induction l with
  | nil => simp [Lib.indexByte]
  | cons b l ih =>
    unfold Lib.indexByte
    simp only [List.length_cons]
    split
    · omega
    · split <;> omega

theorem not_empty (s : ByteArray) (h : 0 < s.size) : s.toList.isEmpty = false := by
  rw [Lib.toList_data, List.isEmpty_eq_false_iff]
  intro he
  have hz := Lib.size_eq s
  rw [he, List.length_nil] at hz
  omega

/-- Where the first colon stands; -1: nowhere. -/
def colonK (s : ByteArray) : Int := Lib.indexByte s.data.toList 58
theorem colonK_ge (s : ByteArray) : -1 ≤ colonK s := Lib.indexByte_ge _ _
theorem colonK_lt (s : ByteArray) : colonK s < s.size := by
  have := indexByte_lt s.data.toList 58
  rw [← Lib.size_eq] at this
  exact this

theorem drop_cons (s : ByteArray) (k : Nat) (h : k < s.size) : s.data.toList.drop k = s[k] :: s.data.toList.drop (k + 1) := by
  have hl : k < s.data.toList.length := by rw [← Lib.size_eq]; exact h
  rw [List.drop_eq_getElem_cons hl]
  rfl
theorem colon_miss (s : ByteArray) (k : Nat) (h : k < s.size) (hc : ((s[k].toNat : Int) == 58) = false) :
    (if Lib.indexByte (s.data.toList.drop k) 58 = -1 then -1 else Lib.indexByte (s.data.toList.drop k) 58 + (k : Int)) = (if Lib.indexByte (s.data.toList.drop (k + 1)) 58 = -1 then -1 else Lib.indexByte (s.data.toList.drop (k + 1)) 58 + ((k + 1 : Nat) : Int)) := by
  rw [drop_cons s k h]
  have hb : (s[k] == 58) = false := by
    rw [beq_eq_false_iff_ne] at hc ⊢
    intro e
    exact hc (by rw [e]; rfl)
  have hg := Lib.indexByte_ge (s.data.toList.drop (k + 1)) 58
  conv => lhs; unfold Lib.indexByte
  rw [hb]
  by_cases he : Lib.indexByte (s.data.toList.drop (k + 1)) 58 = -1
  · simp [he]
  · simp [he]; omega
theorem colon_hit (s : ByteArray) (k : Nat) (h : k < s.size) (hc : ((s[k].toNat : Int) == 58) = true) :
    (if Lib.indexByte (s.data.toList.drop k) 58 = -1 then -1 else Lib.indexByte (s.data.toList.drop k) 58 + (k : Int)) = (k : Int) := by
  rw [drop_cons s k h]
  have hb : (s[k] == 58) = true := by
    rw [beq_iff_eq] at hc ⊢
    apply UInt8.toNat_inj.1
    show s[k].toNat = 58
    omega
  conv => lhs; unfold Lib.indexByte
  rw [hb]
  simp
theorem colon_end (s : ByteArray) (k : Nat) (h : s.size ≤ k) :
    (if Lib.indexByte (s.data.toList.drop k) 58 = -1 then -1 else Lib.indexByte (s.data.toList.drop k) 58 + (k : Int)) = -1 := by
  rw [List.drop_of_length_le (by rw [← Lib.size_eq]; exact h)]
  rfl

/-- What stands behind the sign. -/
def restS (s : ByteArray) : ByteArray := s.extract 1 s.size
theorem restS_data (s : ByteArray) : (restS s).data.toList = s.data.toList.drop 1 := Lib.extract_to_end s 1
theorem restS_size (s : ByteArray) : (restS s).size = s.size - 1 := by
  rw [Lib.size_eq, restS_data, List.length_drop, ← Lib.size_eq]

theorem data_cons (s : ByteArray) (h : 0 < s.size) : s.data.toList = s[0] :: s.data.toList.drop 1 := by
  have hl : 0 < s.data.toList.length := by rw [← Lib.size_eq]; exact h
  conv => lhs; rw [← List.drop_zero (l := s.data.toList), List.drop_eq_getElem_cons hl]
  rfl

/-- Behind a sign that is no colon, the colon stands one further. -/
theorem colonK_rest (s : ByteArray) (h : 0 < s.size) (hc : s[0] ≠ 58) : colonK s = if colonK (restS s) = -1 then -1 else colonK (restS s) + 1 := by
  unfold colonK
  rw [restS_data, data_cons s h, List.drop_succ_cons, List.drop_zero]
  conv => lhs; unfold Lib.indexByte
  have hb : (s[0] == 58) = false := by rw [beq_eq_false_iff_ne]; exact hc
  rw [hb]
  simp

theorem ext_data {a b : ByteArray} (h : a.data.toList = b.data.toList) : a = b := by
  rw [← Lib.mk_data a, ← Lib.mk_data b, h]

theorem rest_left (s : ByteArray) (i : Nat) : (restS s).extract 0 i = s.extract 1 (i + 1) := by
  apply ext_data
  rw [Lib.extract_data, Lib.extract_data, restS_data, List.drop_zero, Nat.sub_zero, Nat.add_sub_cancel]
theorem rest_right (s : ByteArray) (i : Nat) : (restS s).extract (i + 1) (restS s).size = s.extract (i + 2) s.size := by
  apply ext_data
  rw [Lib.extract_to_end, Lib.extract_to_end, restS_data, List.drop_drop]
  congr 1
  omega

/-- A name of a sign: the sign, a part, a colon, a server. -/
def namedB (sign : Int) (s : ByteArray) : Bool := if h : 0 < s.size then ((s[0].toNat : Int) == sign) && decide (1 ≤ colonK s) && filledB partI (s.extract 1 (colonK s).toNat) && serverB (s.extract ((colonK s).toNat + 1) s.size) else false
/-- A user or a room. -/
def nameB (s : ByteArray) : Bool := namedB 64 s || namedB 33 s
def signS (s : ByteArray) : Int := if namedB 64 s then 64 else if namedB 33 s then 33 else 0
def partS (s : ByteArray) : ByteArray := if nameB s then s.extract 1 (colonK s).toNat else ⟨#[]⟩
def homeS (s : ByteArray) : ByteArray := if nameB s then s.extract ((colonK s).toNat + 1) s.size else ⟨#[]⟩

theorem server_none : serverB ⟨#[]⟩ = false := by decide +kernel

theorem named_empty (sign : Int) (s : ByteArray) (h : s.size = 0) : namedB sign s = false := by
  unfold namedB; rw [dif_neg (by omega)]
theorem named_other (sign : Int) (s : ByteArray) (h : 0 < s.size) (hc : ((s[0].toNat : Int) == sign) = false) : namedB sign s = false := by
  unfold namedB; rw [dif_pos h, hc]; rfl
theorem named_off (sign : Int) (s : ByteArray) (h : colonK s < 1) : namedB sign s = false := by
  unfold namedB
  by_cases hz : 0 < s.size
  · have : decide (1 ≤ colonK s) = false := by simp; omega
    rw [dif_pos hz, this]; simp
  · rw [dif_neg hz]
theorem named_on (sign : Int) (s : ByteArray) (k : Nat) (hk : colonK s = (k : Int)) (h1 : 1 ≤ k) (hz : 0 < s.size) : namedB sign s = (((s[0].toNat : Int) == sign) && filledB partI (s.extract 1 k) && serverB (s.extract (k + 1) s.size)) := by
  unfold namedB
  rw [dif_pos hz, hk]
  have : decide ((1 : Int) ≤ (k : Int)) = true := by simp; omega
  rw [this]; simp

theorem splits_no (s : ByteArray) (h : nameB s = false) : signS s = 0 ∧ partS s = ⟨#[]⟩ ∧ homeS s = ⟨#[]⟩ := by
  have h' := h
  unfold nameB at h'
  rw [Bool.or_eq_false_iff] at h'
  simp [signS, partS, homeS, h, h'.1, h'.2]
theorem splits_yes (s : ByteArray) (h : nameB s = true) (k : Nat) (hk : colonK s = (k : Int)) : partS s = s.extract 1 k ∧ homeS s = s.extract (k + 1) s.size := by
  simp [partS, homeS, h, hk]
theorem nameB_size (s : ByteArray) (h : nameB s = true) : 0 < s.size := by
  by_cases hz : 0 < s.size
  · exact hz
  · exfalso
    unfold nameB at h
    rw [named_empty 64 s (by omega), named_empty 33 s (by omega)] at h
    cases h
theorem signS_yes (s : ByteArray) (h : nameB s = true) : signS s = (s[0]'(nameB_size s h)).toNat := by
  have hz := nameB_size s h
  unfold nameB at h
  unfold signS
  by_cases h64 : namedB 64 s = true
  · rw [if_pos h64]
    unfold namedB at h64
    rw [dif_pos hz] at h64
    simp only [Bool.and_eq_true, beq_iff_eq] at h64
    omega
  · rw [if_neg h64]
    have h64' : namedB 64 s = false := by simpa using h64
    rw [h64', Bool.false_or] at h
    rw [if_pos h]
    unfold namedB at h
    rw [dif_pos hz] at h
    simp only [Bool.and_eq_true, beq_iff_eq] at h
    omega

/-- A text that begins with a name's sign is a name just if both halves are. -/
theorem nameB_on (s : ByteArray) (k : Nat) (hk : colonK s = (k : Int)) (h1 : 1 ≤ k) (hz : 0 < s.size) (hs : (((s[0].toNat : Int) == 64) || ((s[0].toNat : Int) == 33)) = true) :
    nameB s = (filledB partI (s.extract 1 k) && serverB (s.extract (k + 1) s.size)) := by
  unfold nameB
  rw [named_on 64 s k hk h1 hz, named_on 33 s k hk h1 hz]
  revert hs
  generalize ((s[0].toNat : Int) == 64) = a
  generalize ((s[0].toNat : Int) == 33) = b
  generalize filledB partI (s.extract 1 k) = x
  generalize serverB (s.extract (k + 1) s.size) = y
  cases a <;> cases b <;> cases x <;> cases y <;> decide
theorem nameB_other (s : ByteArray) (hz : 0 < s.size) (hs : (((s[0].toNat : Int) == 64) || ((s[0].toNat : Int) == 33)) = false) : nameB s = false := by
  rw [Bool.or_eq_false_iff] at hs
  unfold nameB
  rw [named_other 64 s hz hs.1, named_other 33 s hz hs.2]; rfl
theorem nameB_off (s : ByteArray) (h : colonK s < 1) : nameB s = false := by
  unfold nameB
  rw [named_off 64 s h, named_off 33 s h]; rfl

theorem nameB_colon (s : ByteArray) (h : nameB s = true) : ∃ k : Nat, colonK s = (k : Int) ∧ 1 ≤ k ∧ k < s.size := by
  by_cases h1 : colonK s < 1
  · rw [nameB_off s h1] at h; cases h
  · have hl := colonK_lt s
    obtain ⟨k, hk⟩ := Int.eq_ofNat_of_zero_le (a := colonK s) (by omega)
    exact ⟨k, hk, by omega, by omega⟩

/-- The first k bytes stand as a server's. -/
def srvTo (s : ByteArray) (k : Nat) : Prop := ∀ j, j < k → ∀ h : j < s.size, lowI (s[j].toNat : Int) = true ∨ (0 < j ∧ j < s.size - 1 ∧ hostI (s[j].toNat : Int) = true)
theorem srv_step (s : ByteArray) (k : Nat) (ha : srvTo s k) (h : k < s.size) (hk : lowI (s[k].toNat : Int) = true ∨ (0 < k ∧ k < s.size - 1 ∧ hostI (s[k].toNat : Int) = true)) : srvTo s (k + 1) := by
  intro j hj hs
  by_cases e : j = k
  · subst e; exact hk
  · exact ha j (by omega) hs
theorem byte_le (c : UInt8) : (c.toNat : Int) ≤ 255 := by have := c.toNat_lt; omega
theorem host_of_low (c : UInt8) (h : lowI (c.toNat : Int) = true) : hostI (c.toNat : Int) = true := by
  rw [hostI_eq (by omega) (byte_le c), h]; rfl
theorem srv_full (s : ByteArray) (k : Nat) (ha : srvTo s k) (h : s.size ≤ k) (h1 : 1 ≤ s.size) (h2 : s.size ≤ 16) : serverB s = true := by
  have hz : 0 < s.size := h1
  have hall : allI hostI s.data.toList = true := by
    unfold allI
    rw [List.all_eq_true]
    intro c hc
    obtain ⟨j, hj, rfl⟩ := List.getElem_of_mem hc
    have hj' : j < s.size := by rw [Lib.size_eq]; exact hj
    rcases ha j (by omega) hj' with hl | ⟨_, _, hh⟩
    · exact host_of_low _ hl
    · exact hh
  rw [serverB_yes s (by rw [filledB_in _ _ h1 h2]; exact hall) hz]
  rcases ha 0 (by omega) hz with h0 | ⟨h0, _, _⟩
  · rcases ha (s.size - 1) (by omega) (by omega) with hl | ⟨_, hl, _⟩
    · rw [h0, hl]; rfl
    · omega
  · omega
theorem srv_stop (s : ByteArray) (k : Nat) (h : k < s.size) (hl : lowI (s[k].toNat : Int) = false) (hi : ¬ 0 < k ∨ ¬ k < s.size - 1 ∨ hostI (s[k].toNat : Int) = false) : serverB s = false := by
  cases hf : filledB hostI s
  · exact serverB_no s hf
  · rw [serverB_yes s hf (by omega)]
    rcases hi with hi | hi | hi
    · have e : k = 0 := by omega
      subst e
      rw [hl]; rfl
    · have e : k = s.size - 1 := by omega
      subst e
      rw [hl, Bool.and_false]
    · rw [filledB_stop hostI s (allI_stop hostI s k h hi)] at hf
      cases hf
theorem srv_long (s : ByteArray) (h : s.size < 1 ∨ 16 < s.size) : serverB s = false := serverB_no s (filledB_no _ _ h)

/-- An event: a dollar sign, and 1 to 16 bytes behind it. -/
def eventB (s : ByteArray) : Bool := if h : 0 < s.size then ((s[0].toNat : Int) == 36) && filledB signI (restS s) else false
def threadB (s : ByteArray) : Bool := (s.toList == []) || (s.toList == [109, 97, 105, 110]) || eventB s
/-- The bytes from the second on to the k-th stand as an event's. -/
def evTo (s : ByteArray) (k : Nat) : Prop := ∀ j, 1 ≤ j → j < k → ∀ h : j < s.size, signI (s[j].toNat : Int) = true
theorem ev_step (s : ByteArray) (k : Nat) (ha : evTo s k) (h : k < s.size) (hk : signI (s[k].toNat : Int) = true) : evTo s (k + 1) := by
  intro j h1 hj hs
  by_cases e : j = k
  · subst e; exact hk
  · exact ha j h1 (by omega) hs
theorem restS_get (s : ByteArray) (j : Nat) (h : j < (restS s).data.toList.length) : (restS s).data.toList[j] = s[j + 1]'(by rw [← Lib.size_eq, restS_size] at h; omega) := by
  have hd := restS_data s
  have h2 : j < (s.data.toList.drop 1).length := by rw [← hd]; exact h
  have : (restS s).data.toList[j] = (s.data.toList.drop 1)[j] := by congr 1
  have h3 : j + 1 < s.data.toList.length := by rw [List.length_drop] at h2; omega
  have h4 : 1 + j < s.data.toList.length := by omega
  rw [this, List.getElem_drop]
  show s.data.toList[1 + j] = s.data.toList[j + 1]
  simp only [Nat.add_comm 1 j]
theorem ev_full (s : ByteArray) (k : Nat) (ha : evTo s k) (h : s.size ≤ k) (h1 : 2 ≤ s.size) (h2 : s.size ≤ 17) (hd : ((s[0].toNat : Int) == 36) = true) : eventB s = true := by
  unfold eventB
  have hz := restS_size s
  rw [dif_pos (by omega), hd, filledB_in _ _ (by omega) (by omega)]
  unfold allI
  rw [Bool.true_and, List.all_eq_true]
  intro c hc
  obtain ⟨j, hj, rfl⟩ := List.getElem_of_mem hc
  rw [restS_get s j hj]
  have hj' := hj
  rw [← Lib.size_eq, hz] at hj'
  exact ha (j + 1) (by omega) (by omega) (by omega)
theorem ev_stop (s : ByteArray) (k : Nat) (h1 : 1 ≤ k) (h : k < s.size) (hl : signI (s[k].toNat : Int) = false) : eventB s = false := by
  unfold eventB
  rw [dif_pos (by omega)]
  have hz := restS_size s
  have hj : k - 1 < (restS s).size := by omega
  have hf : allI signI (restS s).data.toList = false := by
    apply allI_stop signI (restS s) (k - 1) hj
    have hj2 : k - 1 < (restS s).data.toList.length := by rw [← Lib.size_eq]; exact hj
    have e := restS_get s (k - 1) hj2
    have e2 : (restS s)[k - 1] = s[k - 1 + 1]'(by omega) := e
    rw [e2]
    have e3 : s[k - 1 + 1]'(by omega) = s[k] := by congr 1; omega
    rw [e3]
    exact hl
  rw [filledB_stop _ _ hf, Bool.and_false]
theorem ev_size (s : ByteArray) (h : s.size < 2 ∨ 17 < s.size) : eventB s = false := by
  unfold eventB
  have hz := restS_size s
  split
  · rw [filledB_no _ _ (by omega), Bool.and_false]
  · rfl
theorem ev_other (s : ByteArray) (hz : 0 < s.size) (hd : ((s[0].toNat : Int) == 36) = false) : eventB s = false := by
  unfold eventB
  rw [dif_pos hz, hd]; rfl
theorem ev_yes (s : ByteArray) (hz : 0 < s.size) (hd : ((s[0].toNat : Int) == 36) = true) : eventB s = filledB signI (restS s) := by
  unfold eventB
  rw [dif_pos hz, hd]; rfl
end Go.Proofs.Ytahgkhcmchbpbaa
