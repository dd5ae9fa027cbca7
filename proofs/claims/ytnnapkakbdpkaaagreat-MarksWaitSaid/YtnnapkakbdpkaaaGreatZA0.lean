/-
  What the statements stand on, part ZA0.
-/
import Derived.WalkKit
import Derived.WalkSpells
import Derived.WalkLawsBesides
import Derived.Lib.Bytealg
import Derived.Lib.IndexBytes
import Derived.Lib.Hide
import Derived.Below
import Derived.Laws.BytesArg
import Derived.Deep.RegionHeld3
import Derived.Deep.DeepCutAuto
import Derived.Laws.OwnMore
import Derived.Deep.AppendSrc
import Derived.Deep.AppendLies
import Derived.OneCell
import Derived.OrdersHeld
import Derived.Deep.RegionHeld
import Derived.Sort.Walk0
import Derived.OwnWalk
import Derived.Deep.MidRow
import Derived.Great.BuildSlice
import Derived.LoopTactic
import Derived.Deep.QuietTactic
import Derived.BigQuiet
import Derived.BigRegion
import Derived.Shelf.SlSortCmp.QuietGrown
import Derived.Deep.OwnRows
import Derived.Test.YtnnapkakbdpkaaaGreatShelf
import Derived.Lib.SmallJoins
import Derived.Deep.Slices
import Derived.Deep.Fields
import Derived.ChangeSame
import Derived.OpenShut
import Derived.ProofKit
import Derived.Maps.OwnSet
import Derived.Maps.Range
import Derived.Test.YtnnapkakbdpkaaaGreatGrow
import Derived.Maps.Views
import Derived.Maps.RangeWalk
import Derived.DeepKeys4
import Derived.Test.YtnnapkakbdpkaaaGreatSort
import Derived.Lib.SliceRun
import Derived.Laws.CopyOwn
import Derived.Laws.ResultCell
import Derived.Deep.CutRange
import Derived.Deep.CutBlock
set_option linter.unusedVariables false
set_option linter.unusedSimpArgs false
namespace Go.Proofs.YtnnapkakbdpkaaaGreat
theorem actS : (∀ (a : Act) (d : Tmp) (v : Value), a.put (some d) v = { a with tmps := a.tmps.setIfInBounds d v }) ∧ (∀ (a : Act) (v : Value), a.put none v = a) ∧ (∀ (l : List Value) (i : Nat) (x : Value), l.toArray.setIfInBounds i x = (l.set i x).toArray) ∧ (∀ (x y : Value) (l : List Value), (x :: l).set 0 y = y :: l) ∧ (∀ (x y : Value) (l : List Value) (n : Nat), (x :: l).set (n + 1) y = x :: l.set n y) := ⟨fun _ _ _ => rfl, fun _ _ => rfl, fun _ _ _ => List.setIfInBounds_toArray .., fun _ _ _ => rfl, fun _ _ _ _ => rfl⟩
end Go.Proofs.YtnnapkakbdpkaaaGreat
namespace Go.Proofs.YtnnapkakbdpkaaaGreat
set_option maxRecDepth 20000
open Go.RowKit
def fewS (s : ByteArray) (m : Nat) : ByteArray := if m < s.size then s.extract 0 m else s
theorem fewS_size (s : ByteArray) (m : Nat) : (fewS s m).size ≤ m := by
 unfold fewS
 split
 ·rw [Lib.size_eq, Lib.extract_data, List.length_take]; omega
 ·omega
def aroundI (n m : Int) : Int := (if n < 0 then -(n + 1) else n) % m
theorem aroundI_bd (n m : Int) (h : 0 < m) : 0 ≤ aroundI n m ∧ aroundI n m < m := by
 unfold aroundI
 exact ⟨Int.emod_nonneg _ (by omega), Int.emod_lt_of_pos _ h⟩
theorem few_any (s : ByteArray) (m : Nat) (hm : m ≤ 1000) (w : World) (hs : s.size ≤ maxLen) :
  Calls Tryz.prog 39 #[.string s, .int .i64 (m : Int)] w fun e w' => e = .returned (.string (fewS s m)) ∧ w = w' := by
 unfold maxLen at hs
 by_cases h : m < s.size
 ·have Hn := Lib.hid (show fewS s m = s.extract 0 m by simp [fewS, h])
  go_enter Tryz.func39, Tryz.ntmps39
  go_wp2
  go_ret
  rw [Hn.out]
  exact ⟨rfl, rfl⟩
 ·have Hn := Lib.hid (show fewS s m = s by simp [fewS, h])
  go_enter Tryz.func39, Tryz.ntmps39
  go_wp2
  go_ret
  rw [Hn.out]
  exact ⟨rfl, rfl⟩
theorem around_any (n m : Int) (w : World) (h0 : -9223372036854775808 ≤ n) (h1 : n ≤ 9223372036854775807) (hm0 : 0 < m) (hm1 : m ≤ 9223372036854775807) :
  Calls Tryz.prog 8 #[.int .i64 n, .int .i64 m] w fun e w' => e = .returned (.int .i64 (aroundI n m)) ∧ w = w' := by
 have q0 : (m == 0) = false := by rw [beq_eq_false_iff_ne]; omega
 by_cases h : n < 0
 ·have Hn := Lib.hid (show aroundI n m = -((n + 1).tmod m) by unfold aroundI; rw [if_pos h, ← Int.neg_tmod, Int.tmod_eq_emod_of_nonneg (by omega)])
  go_enter Tryz.func8, Tryz.ntmps8
  go_wp2
  go_ret
  rw [Hn.out]
  exact ⟨rfl, rfl⟩
 ·have Hn := Lib.hid (show aroundI n m = n % m by simp [aroundI, h])
  go_enter Tryz.func8, Tryz.ntmps8
  go_wp2
  go_ret
  rw [Hn.out]
  exact ⟨rfl, rfl⟩
end Go.Proofs.YtnnapkakbdpkaaaGreat
namespace Go.Proofs.YtnnapkakbdpkaaaGreat
set_option maxRecDepth 20000
open Go.RowKit
def lowI (c : Int) : Bool := decide (97 ≤ c ∧ c ≤ 122) || decide (48 ≤ c ∧ c ≤ 57)
def withI (more : ByteArray) (c : Int) : Bool := lowI c || decide (0 ≤ Lib.indexByte more.data.toList c.toNat.toUInt8)
def eventI (more : ByteArray) (c : Int) : Bool := withI more c || decide (65 ≤ c ∧ c ≤ 90)
def partI : Int → Bool := withI ⟨#[46, 45, 95]⟩
def hostI : Int → Bool := withI ⟨#[46, 45]⟩
def signI : Int → Bool := eventI ⟨#[45, 95]⟩
theorem take_snoc (s : ByteArray) (k : Nat) (h : k < s.size) : s.data.toList.take (k + 1) = s.data.toList.take k ++ [s[k]] := by
 rw [List.take_succ_eq_append_getElem (by simpa using h)]; rfl
def allI (p : Int → Bool) (l : List UInt8) : Bool := l.all fun c => p (c.toNat : Int)
def filledB (p : Int → Bool) (s : ByteArray) : Bool := decide (1 ≤ s.size ∧ s.size ≤ 16) && allI p s.data.toList
theorem allI_step (p : Int → Bool) (s : ByteArray) (k : Nat) (h : k < s.size) (ha : allI p (s.data.toList.take k) = true) (hp : p (s[k].toNat : Int) = true) : allI p (s.data.toList.take (k + 1)) = true := by
 rw [take_snoc s k h]
 simp only [allI, List.all_append, List.all_cons, List.all_nil, Bool.and_true, Bool.and_eq_true] at *
 exact ⟨ha, hp⟩
theorem allI_stop (p : Int → Bool) (s : ByteArray) (k : Nat) (h : k < s.size) (hp : p (s[k].toNat : Int) = false) : allI p s.data.toList = false := by
 unfold allI
 rw [List.all_eq_false]
 exact ⟨s[k], List.getElem_mem (l := s.data.toList) (n := k) (by simpa using h), by rw [hp]; simp⟩
theorem allI_full (p : Int → Bool) (s : ByteArray) (k : Nat) (h : s.size ≤ k) (ha : allI p (s.data.toList.take k) = true) : allI p s.data.toList = true := by
 rwa [List.take_of_length_le (by simpa using h)] at ha
theorem filledB_no (p : Int → Bool) (s : ByteArray) (h : s.size < 1 ∨ 16 < s.size) : filledB p s = false := by
 unfold filledB
 have : decide (1 ≤ s.size ∧ s.size ≤ 16) = false := by simp; omega
 rw [this]; rfl
theorem filledB_in (p : Int → Bool) (s : ByteArray) (h1 : 1 ≤ s.size) (h2 : s.size ≤ 16) : filledB p s = allI p s.data.toList := by
 unfold filledB
 have : decide (1 ≤ s.size ∧ s.size ≤ 16) = true := by simp; omega
 rw [this]; rfl
theorem filledB_stop (p : Int → Bool) (s : ByteArray) (h : allI p s.data.toList = false) : filledB p s = false := by
 unfold filledB; rw [h, Bool.and_false]
theorem filledB_size {p : Int → Bool} {s : ByteArray} (h : filledB p s = true) : 0 < s.size ∧ s.size ≤ 16 := by
 unfold filledB at h
 rw [Bool.and_eq_true, decide_eq_true_iff] at h
 omega
def edgeB (s : ByteArray) : Bool := if h : 0 < s.size then lowI (s[0].toNat : Int) && lowI (s[s.size - 1].toNat : Int) else false
def serverB (s : ByteArray) : Bool := filledB hostI s && edgeB s
theorem serverB_no (s : ByteArray) (h : filledB hostI s = false) : serverB s = false := by unfold serverB; rw [h]; rfl
theorem serverB_yes (s : ByteArray) (h : filledB hostI s = true) (z : 0 < s.size) : serverB s = (lowI (s[0].toNat : Int) && lowI (s[s.size - 1].toNat : Int)) := by
 unfold serverB edgeB
 rw [h, dif_pos z]; rfl
theorem bytes_all {P : Int → Prop} (h : ∀ n : Fin 256, P ((n.val : Nat) : Int)) {c : Int} (h0 : 0 ≤ c) (h1 : c ≤ 255) : P c := by
 obtain ⟨n, rfl⟩ := Int.eq_ofNat_of_zero_le h0
 exact h ⟨n, by omega⟩
theorem partI_eq {c : Int} (h0 : 0 ≤ c) (h1 : c ≤ 255) : partI c = (lowI c || c == 46 || c == 45 || c == 95) :=
 bytes_all (P := fun c => partI c = (lowI c || c == 46 || c == 45 || c == 95)) (by decide +kernel) h0 h1
theorem hostI_eq {c : Int} (h0 : 0 ≤ c) (h1 : c ≤ 255) : hostI c = (lowI c || c == 46 || c == 45) :=
 bytes_all (P := fun c => hostI c = (lowI c || c == 46 || c == 45)) (by decide +kernel) h0 h1
theorem signI_eq {c : Int} (h0 : 0 ≤ c) (h1 : c ≤ 255) : signI c = (lowI c || decide (65 ≤ c ∧ c ≤ 90) || c == 45 || c == 95) :=
 bytes_all (P := fun c => signI c = (lowI c || decide (65 ≤ c ∧ c ≤ 90) || c == 45 || c == 95)) (by decide +kernel) h0 h1
end Go.Proofs.YtnnapkakbdpkaaaGreat
namespace Go.Proofs.YtnnapkakbdpkaaaGreat
set_option maxRecDepth 20000
open Go.RowKit
theorem indexByte_lt (l : List UInt8) (c : UInt8) : Lib.indexByte l c < l.length := by
 induction l with
 | nil => simp [Lib.indexByte]
 | cons b l ih =>
  unfold Lib.indexByte
  simp only [List.length_cons]
  split
  ·omega
  ·split <;> omega
theorem not_empty (s : ByteArray) (h : 0 < s.size) : s.toList.isEmpty = false := by
 rw [Lib.toList_data, List.isEmpty_eq_false_iff]
 intro he
 have hz := Lib.size_eq s
 rw [he, List.length_nil] at hz
 omega
def colonK (s : ByteArray) : Int := Lib.indexByte s.data.toList 58
theorem colonK_ge (s : ByteArray) : -1 ≤ colonK s := Lib.indexByte_ge _ _
theorem colonK_lt (s : ByteArray) : colonK s < s.size := by
 have := indexByte_lt s.data.toList 58
 rw [← Lib.size_eq] at this
 exact this
theorem drop_cons (s : ByteArray) (k : Nat) (h : k < s.size) : s.data.toList.drop k = s[k] :: s.data.toList.drop (k + 1) := by
 have hl : k < s.data.toList.length := by rw [← Lib.size_eq]; exact h
 rw [List.drop_eq_getElem_cons hl]
 rfl
theorem colon_miss (s : ByteArray) (k : Nat) (h : k < s.size) (hc : ((s[k].toNat : Int) == 58) = false) :
  (if Lib.indexByte (s.data.toList.drop k) 58 = -1 then -1 else Lib.indexByte (s.data.toList.drop k) 58 + (k : Int)) = (if Lib.indexByte (s.data.toList.drop (k + 1)) 58 = -1 then -1 else Lib.indexByte (s.data.toList.drop (k + 1)) 58 + ((k + 1 : Nat) : Int)) := by
 rw [drop_cons s k h]
 have hb : (s[k] == 58) = false := by
  rw [beq_eq_false_iff_ne] at hc ⊢
  intro e
  exact hc (by rw [e]; rfl)
 have hg := Lib.indexByte_ge (s.data.toList.drop (k + 1)) 58
 conv => lhs; unfold Lib.indexByte
 rw [hb]
 by_cases he : Lib.indexByte (s.data.toList.drop (k + 1)) 58 = -1
 ·simp [he]
 ·simp [he]; omega
theorem colon_hit (s : ByteArray) (k : Nat) (h : k < s.size) (hc : ((s[k].toNat : Int) == 58) = true) :
  (if Lib.indexByte (s.data.toList.drop k) 58 = -1 then -1 else Lib.indexByte (s.data.toList.drop k) 58 + (k : Int)) = (k : Int) := by
 rw [drop_cons s k h]
 have hb : (s[k] == 58) = true := by
  rw [beq_iff_eq] at hc ⊢
  apply UInt8.toNat_inj.1
  show s[k].toNat = 58
  omega
 conv => lhs; unfold Lib.indexByte
 rw [hb]
 simp
theorem colon_end (s : ByteArray) (k : Nat) (h : s.size ≤ k) :
  (if Lib.indexByte (s.data.toList.drop k) 58 = -1 then -1 else Lib.indexByte (s.data.toList.drop k) 58 + (k : Int)) = -1 := by
 rw [List.drop_of_length_le (by rw [← Lib.size_eq]; exact h)]
 rfl
def restS (s : ByteArray) : ByteArray := s.extract 1 s.size
theorem restS_data (s : ByteArray) : (restS s).data.toList = s.data.toList.drop 1 := Lib.extract_to_end s 1
theorem restS_size (s : ByteArray) : (restS s).size = s.size - 1 := by
 rw [Lib.size_eq, restS_data, List.length_drop, ← Lib.size_eq]
theorem data_cons (s : ByteArray) (h : 0 < s.size) : s.data.toList = s[0] :: s.data.toList.drop 1 := by
 have hl : 0 < s.data.toList.length := by rw [← Lib.size_eq]; exact h
 conv => lhs; rw [← List.drop_zero (l := s.data.toList), List.drop_eq_getElem_cons hl]
 rfl
theorem colonK_rest (s : ByteArray) (h : 0 < s.size) (hc : s[0] ≠ 58) : colonK s = if colonK (restS s) = -1 then -1 else colonK (restS s) + 1 := by
 unfold colonK
 rw [restS_data, data_cons s h, List.drop_succ_cons, List.drop_zero]
 conv => lhs; unfold Lib.indexByte
 have hb : (s[0] == 58) = false := by rw [beq_eq_false_iff_ne]; exact hc
 rw [hb]
 simp
theorem ext_data {a b : ByteArray} (h : a.data.toList = b.data.toList) : a = b := by
 rw [← Lib.mk_data a, ← Lib.mk_data b, h]
theorem rest_left (s : ByteArray) (i : Nat) : (restS s).extract 0 i = s.extract 1 (i + 1) := by
 apply ext_data
 rw [Lib.extract_data, Lib.extract_data, restS_data, List.drop_zero, Nat.sub_zero, Nat.add_sub_cancel]
theorem rest_right (s : ByteArray) (i : Nat) : (restS s).extract (i + 1) (restS s).size = s.extract (i + 2) s.size := by
 apply ext_data
 rw [Lib.extract_to_end, Lib.extract_to_end, restS_data, List.drop_drop]
 congr 1
 omega
def namedB (sign : Int) (s : ByteArray) : Bool := if h : 0 < s.size then ((s[0].toNat : Int) == sign) && decide (1 ≤ colonK s) && filledB partI (s.extract 1 (colonK s).toNat) && serverB (s.extract ((colonK s).toNat + 1) s.size) else false
def nameB (s : ByteArray) : Bool := namedB 64 s || namedB 33 s
def signS (s : ByteArray) : Int := if namedB 64 s then 64 else if namedB 33 s then 33 else 0
def partS (s : ByteArray) : ByteArray := if nameB s then s.extract 1 (colonK s).toNat else ⟨#[]⟩
def homeS (s : ByteArray) : ByteArray := if nameB s then s.extract ((colonK s).toNat + 1) s.size else ⟨#[]⟩
theorem server_none : serverB ⟨#[]⟩ = false := by decide +kernel
theorem named_empty (sign : Int) (s : ByteArray) (h : s.size = 0) : namedB sign s = false := by
 unfold namedB; rw [dif_neg (by omega)]
theorem named_other (sign : Int) (s : ByteArray) (h : 0 < s.size) (hc : ((s[0].toNat : Int) == sign) = false) : namedB sign s = false := by
 unfold namedB; rw [dif_pos h, hc]; rfl
theorem named_off (sign : Int) (s : ByteArray) (h : colonK s < 1) : namedB sign s = false := by
 unfold namedB
 by_cases hz : 0 < s.size
 ·have : decide (1 ≤ colonK s) = false := by simp; omega
  rw [dif_pos hz, this]; simp
 ·rw [dif_neg hz]
theorem named_on (sign : Int) (s : ByteArray) (k : Nat) (hk : colonK s = (k : Int)) (h1 : 1 ≤ k) (hz : 0 < s.size) : namedB sign s = (((s[0].toNat : Int) == sign) && filledB partI (s.extract 1 k) && serverB (s.extract (k + 1) s.size)) := by
 unfold namedB
 rw [dif_pos hz, hk]
 have : decide ((1 : Int) ≤ (k : Int)) = true := by simp; omega
 rw [this]; simp
theorem splits_no (s : ByteArray) (h : nameB s = false) : signS s = 0 ∧ partS s = ⟨#[]⟩ ∧ homeS s = ⟨#[]⟩ := by
 have h' := h
 unfold nameB at h'
 rw [Bool.or_eq_false_iff] at h'
 simp [signS, partS, homeS, h, h'.1, h'.2]
theorem splits_yes (s : ByteArray) (h : nameB s = true) (k : Nat) (hk : colonK s = (k : Int)) : partS s = s.extract 1 k ∧ homeS s = s.extract (k + 1) s.size := by
 simp [partS, homeS, h, hk]
theorem nameB_size (s : ByteArray) (h : nameB s = true) : 0 < s.size := by
 by_cases hz : 0 < s.size
 ·exact hz
 ·exfalso
  unfold nameB at h
  rw [named_empty 64 s (by omega), named_empty 33 s (by omega)] at h
  cases h
theorem signS_yes (s : ByteArray) (h : nameB s = true) : signS s = (s[0]'(nameB_size s h)).toNat := by
 have hz := nameB_size s h
 unfold nameB at h
 unfold signS
 by_cases h64 : namedB 64 s = true
 ·rw [if_pos h64]
  unfold namedB at h64
  rw [dif_pos hz] at h64
  simp only [Bool.and_eq_true, beq_iff_eq] at h64
  omega
 ·rw [if_neg h64]
  have h64' : namedB 64 s = false := by simpa using h64
  rw [h64', Bool.false_or] at h
  rw [if_pos h]
  unfold namedB at h
  rw [dif_pos hz] at h
  simp only [Bool.and_eq_true, beq_iff_eq] at h
  omega
theorem nameB_on (s : ByteArray) (k : Nat) (hk : colonK s = (k : Int)) (h1 : 1 ≤ k) (hz : 0 < s.size) (hs : (((s[0].toNat : Int) == 64) || ((s[0].toNat : Int) == 33)) = true) :
  nameB s = (filledB partI (s.extract 1 k) && serverB (s.extract (k + 1) s.size)) := by
 unfold nameB
 rw [named_on 64 s k hk h1 hz, named_on 33 s k hk h1 hz]
 revert hs
 generalize ((s[0].toNat : Int) == 64) = a
 generalize ((s[0].toNat : Int) == 33) = b
 generalize filledB partI (s.extract 1 k) = x
 generalize serverB (s.extract (k + 1) s.size) = y
 cases a <;> cases b <;> cases x <;> cases y <;> decide
theorem nameB_other (s : ByteArray) (hz : 0 < s.size) (hs : (((s[0].toNat : Int) == 64) || ((s[0].toNat : Int) == 33)) = false) : nameB s = false := by
 rw [Bool.or_eq_false_iff] at hs
 unfold nameB
 rw [named_other 64 s hz hs.1, named_other 33 s hz hs.2]; rfl
theorem nameB_off (s : ByteArray) (h : colonK s < 1) : nameB s = false := by
 unfold nameB
 rw [named_off 64 s h, named_off 33 s h]; rfl
def srvTo (s : ByteArray) (k : Nat) : Prop := ∀ j, j < k → ∀ h : j < s.size, lowI (s[j].toNat : Int) = true ∨ (0 < j ∧ j < s.size - 1 ∧ hostI (s[j].toNat : Int) = true)
theorem srv_step (s : ByteArray) (k : Nat) (ha : srvTo s k) (h : k < s.size) (hk : lowI (s[k].toNat : Int) = true ∨ (0 < k ∧ k < s.size - 1 ∧ hostI (s[k].toNat : Int) = true)) : srvTo s (k + 1) := by
 intro j hj hs
 by_cases e : j = k
 ·subst e; exact hk
 ·exact ha j (by omega) hs
theorem byte_le (c : UInt8) : (c.toNat : Int) ≤ 255 := by have := c.toNat_lt; omega
theorem host_of_low (c : UInt8) (h : lowI (c.toNat : Int) = true) : hostI (c.toNat : Int) = true := by
 rw [hostI_eq (by omega) (byte_le c), h]; rfl
theorem srv_full (s : ByteArray) (k : Nat) (ha : srvTo s k) (h : s.size ≤ k) (h1 : 1 ≤ s.size) (h2 : s.size ≤ 16) : serverB s = true := by
 have hz : 0 < s.size := h1
 have hall : allI hostI s.data.toList = true := by
  unfold allI
  rw [List.all_eq_true]
  intro c hc
  obtain ⟨j, hj, rfl⟩ := List.getElem_of_mem hc
  have hj' : j < s.size := by rw [Lib.size_eq]; exact hj
  rcases ha j (by omega) hj' with hl | ⟨_, _, hh⟩
  ·exact host_of_low _ hl
  ·exact hh
 rw [serverB_yes s (by rw [filledB_in _ _ h1 h2]; exact hall) hz]
 rcases ha 0 (by omega) hz with h0 | ⟨h0, _, _⟩
 ·rcases ha (s.size - 1) (by omega) (by omega) with hl | ⟨_, hl, _⟩
  ·rw [h0, hl]; rfl
  ·omega
 ·omega
theorem srv_stop (s : ByteArray) (k : Nat) (h : k < s.size) (hl : lowI (s[k].toNat : Int) = false) (hi : ¬ 0 < k ∨ ¬ k < s.size - 1 ∨ hostI (s[k].toNat : Int) = false) : serverB s = false := by
 cases hf : filledB hostI s
 ·exact serverB_no s hf
 ·rw [serverB_yes s hf (by omega)]
  rcases hi with hi | hi | hi
  ·have e : k = 0 := by omega
   subst e
   rw [hl]; rfl
  ·have e : k = s.size - 1 := by omega
   subst e
   rw [hl, Bool.and_false]
  ·rw [filledB_stop hostI s (allI_stop hostI s k h hi)] at hf
   cases hf
theorem srv_long (s : ByteArray) (h : s.size < 1 ∨ 16 < s.size) : serverB s = false := serverB_no s (filledB_no _ _ h)
def eventB (s : ByteArray) : Bool := if h : 0 < s.size then ((s[0].toNat : Int) == 36) && filledB signI (restS s) else false
def threadB (s : ByteArray) : Bool := (s.toList == []) || (s.toList == [109, 97, 105, 110]) || eventB s
def evTo (s : ByteArray) (k : Nat) : Prop := ∀ j, 1 ≤ j → j < k → ∀ h : j < s.size, signI (s[j].toNat : Int) = true
theorem ev_step (s : ByteArray) (k : Nat) (ha : evTo s k) (h : k < s.size) (hk : signI (s[k].toNat : Int) = true) : evTo s (k + 1) := by
 intro j h1 hj hs
 by_cases e : j = k
 ·subst e; exact hk
 ·exact ha j h1 (by omega) hs
theorem restS_get (s : ByteArray) (j : Nat) (h : j < (restS s).data.toList.length) : (restS s).data.toList[j] = s[j + 1]'(by rw [← Lib.size_eq, restS_size] at h; omega) := by
 have hd := restS_data s
 have h2 : j < (s.data.toList.drop 1).length := by rw [← hd]; exact h
 have : (restS s).data.toList[j] = (s.data.toList.drop 1)[j] := by congr 1
 have h3 : j + 1 < s.data.toList.length := by rw [List.length_drop] at h2; omega
 have h4 : 1 + j < s.data.toList.length := by omega
 rw [this, List.getElem_drop]
 show s.data.toList[1 + j] = s.data.toList[j + 1]
 simp only [Nat.add_comm 1 j]
theorem ev_full (s : ByteArray) (k : Nat) (ha : evTo s k) (h : s.size ≤ k) (h1 : 2 ≤ s.size) (h2 : s.size ≤ 17) (hd : ((s[0].toNat : Int) == 36) = true) : eventB s = true := by
 unfold eventB
 have hz := restS_size s
 rw [dif_pos (by omega), hd, filledB_in _ _ (by omega) (by omega)]
 unfold allI
 rw [Bool.true_and, List.all_eq_true]
 intro c hc
 obtain ⟨j, hj, rfl⟩ := List.getElem_of_mem hc
 rw [restS_get s j hj]
 have hj' := hj
 rw [← Lib.size_eq, hz] at hj'
 exact ha (j + 1) (by omega) (by omega) (by omega)
theorem ev_stop (s : ByteArray) (k : Nat) (h1 : 1 ≤ k) (h : k < s.size) (hl : signI (s[k].toNat : Int) = false) : eventB s = false := by
 unfold eventB
 rw [dif_pos (by omega)]
 have hz := restS_size s
 have hj : k - 1 < (restS s).size := by omega
 have hf : allI signI (restS s).data.toList = false := by
  apply allI_stop signI (restS s) (k - 1) hj
  have hj2 : k - 1 < (restS s).data.toList.length := by rw [← Lib.size_eq]; exact hj
  have e := restS_get s (k - 1) hj2
  have e2 : (restS s)[k - 1] = s[k - 1 + 1]'(by omega) := e
  rw [e2]
  have e3 : s[k - 1 + 1]'(by omega) = s[k] := by congr 1; omega
  rw [e3]
  exact hl
 rw [filledB_stop _ _ hf, Bool.and_false]
theorem ev_size (s : ByteArray) (h : s.size < 2 ∨ 17 < s.size) : eventB s = false := by
 unfold eventB
 have hz := restS_size s
 split
 ·rw [filledB_no _ _ (by omega), Bool.and_false]
 ·rfl
theorem ev_other (s : ByteArray) (hz : 0 < s.size) (hd : ((s[0].toNat : Int) == 36) = false) : eventB s = false := by
 unfold eventB
 rw [dif_pos hz, hd]; rfl
theorem ev_yes (s : ByteArray) (hz : 0 < s.size) (hd : ((s[0].toNat : Int) == 36) = true) : eventB s = filledB signI (restS s) := by
 unfold eventB
 rw [dif_pos hz, hd]; rfl
end Go.Proofs.YtnnapkakbdpkaaaGreat
namespace Go.Proofs.YtnnapkakbdpkaaaGreat
set_option maxRecDepth 20000
def goes : List UInt8 → Nat
 | [] => 0
 | b :: r => if 128 ≤ b.toNat then goes r + 1 else 0
def val : List UInt8 → Nat
 | [] => 0
 | b :: r => b.toNat % 128 + 128 * val r
abbrev St := List UInt8 × Nat
def Ok (s : St) : Prop := s.2 ≠ 0 → s.1 = []
theorem Ok.err {s : St} (h : Ok s) (he : s.2 ≠ 0) : s = ([], s.2) := by
 obtain ⟨b, e⟩ := s
 have := h he
 simp at this
 subst this
 rfl
end Go.Proofs.YtnnapkakbdpkaaaGreat

namespace Go.Proofs.YtnnapkakbdpkaaaGreat
open Go.RowKit
set_option maxRecDepth 20000
set_option maxHeartbeats 400000 in
theorem low_any (c : Int) (w : World) (h0 : 0 ≤ c) (h1 : c ≤ 255) :
  Calls Tryz.prog 90 #[.int .u8 c] w fun e w' => e = .returned (.bool (lowI c)) ∧ w = w' := by
 have hd : (97 ≤ c ∧ c ≤ 122) ∨ (48 ≤ c ∧ c ≤ 57) ∨ (122 < c) ∨ (57 < c ∧ c < 97) ∨ (c < 48) := by omega
 rcases hd with h | h | h | h | h
 all_goals
  go_enter Tryz.func90, Tryz.ntmps90
  go_wp2
  go_ret
  refine ⟨?_, rfl⟩
  simp [lowI]
  all_goals first | omega | (rw [Bool.eq_iff_iff]; simp; omega)
set_option maxHeartbeats 400000 in
theorem plain_any (c : Int) (w : World) (h0 : 0 ≤ c) (h1 : c ≤ 255) :
  Calls Tryz.prog 126 #[.int .u8 c] w fun e w' => e = .returned (.bool (lowI c)) ∧ w = w' := by
 have hd : (97 ≤ c ∧ c ≤ 122) ∨ (48 ≤ c ∧ c ≤ 57) ∨ (122 < c) ∨ (57 < c ∧ c < 97) ∨ (c < 48) := by omega
 rcases hd with h | h | h | h | h
 all_goals
  go_enter Tryz.func126, Tryz.ntmps126
  go_wp2
  go_ret
  refine ⟨?_, rfl⟩
  simp [lowI]
  all_goals first | omega | (rw [Bool.eq_iff_iff]; simp; omega)
set_option maxHeartbeats 400000 in
theorem indexByte_lite (s : ByteArray) (c : Int) (w : World) :
  Calls Tryz.prog 133 #[.string s, .int .u8 c] w fun e w' => e = .returned (.int .i64 (Lib.indexByte s.data.toList c.toNat.toUInt8)) ∧ w = w' := by
 go_enter Tryz.func133, Tryz.ntmps133
 go_wp2
 rw [run_callFunc_extern Tryz.func137 (by kernel_rfl) (by kernel_rfl) (by kernel_rfl) (e := Extern.BytealgIndexByte.indexByte) (by kernel_rfl), Lib.run_indexByteString]
 simp only [Result.andThen]
 rw [Oper.upon_value]
 go_wp2
 go_ret
 exact ⟨rfl, rfl⟩
set_option maxHeartbeats 400000 in
theorem indexByte_any (s : ByteArray) (c : Int) (w : World) :
  Calls Tryz.prog 129 #[.string s, .int .u8 c] w fun e w' => e = .returned (.int .i64 (Lib.indexByte s.data.toList c.toNat.toUInt8)) ∧ w = w' := by
 go_enter Tryz.func129, Tryz.ntmps129
 go_wp2_with fail
 refine (indexByte_lite s c _).mono ?_
 rintro e w' ⟨rfl, rfl⟩
 go_wp2
 go_ret
 exact ⟨rfl, rfl⟩
set_option maxHeartbeats 400000 in
theorem signed_any (c : Int) (w : World) :
  Calls Tryz.prog 117 #[.int .u8 c] w fun e w' => e = .returned (.bool (c == 64 || c == 33)) ∧ w = w' := by
 cases h : (c == 64) <;> cases h2 : (c == 33)
 all_goals
  go_enter Tryz.func117, Tryz.ntmps117
  go_wp2
  go_ret
  exact ⟨rfl, rfl⟩
end Go.Proofs.YtnnapkakbdpkaaaGreat
namespace Go.Proofs.YtnnapkakbdpkaaaGreat
open Go.RowKit
set_option maxRecDepth 20000
set_option maxHeartbeats 400000 in
theorem with_any (c : Int) (bp bm : Addr) (more : ByteArray) (w : World) (h0 : 0 ≤ c) (h1 : c ≤ 255)
  (hp : w.cell? bp = some (.func (.func 126) #[] #[])) (hm : w.cell? bm = some (.string more)) :
  Calls Tryz.prog 128 #[.int .u8 c, .pointer (some bp), .pointer (some bm)] w fun e w' => e = .returned (.bool (withI more c)) ∧ w = w' := by
 cases hl : lowI c
 ·have hL : withI more c = decide (0 ≤ Lib.indexByte more.data.toList c.toNat.toUInt8) := by simp [withI, hl]
  rw [hL]
  have HL := Lib.hid hl
  clear hl hL
  go_enter Tryz.func128, Tryz.ntmps128
  go_wp2_with fail
  refine (plain_any c _ h0 h1).mono ?_
  rintro e w' ⟨rfl, rfl⟩
  rw [HL.out]
  go_wp2_with fail
  refine (indexByte_any more c _).mono ?_
  rintro e w' ⟨rfl, rfl⟩
  go_wp2
  go_ret
  exact ⟨rfl, rfl⟩
 ·have hL : withI more c = true := by simp [withI, hl]
  rw [hL]
  have HL := Lib.hid hl
  clear hl hL
  go_enter Tryz.func128, Tryz.ntmps128
  go_wp2_with fail
  refine (plain_any c _ h0 h1).mono ?_
  rintro e w' ⟨rfl, rfl⟩
  rw [HL.out]
  go_wp2
  go_ret
  exact ⟨rfl, rfl⟩
set_option maxHeartbeats 400000 in
theorem event_any (c : Int) (bd bp bm : Addr) (more : ByteArray) (w : World) (h0 : 0 ≤ c) (h1 : c ≤ 255)
  (hd : w.cell? bd = some (.func (.func 128) #[] #[.pointer (some bp), .pointer (some bm)]))
  (hp : w.cell? bp = some (.func (.func 126) #[] #[])) (hm : w.cell? bm = some (.string more)) :
  Calls Tryz.prog 130 #[.int .u8 c, .pointer (some bd)] w fun e w' => e = .returned (.bool (eventI more c)) ∧ w = w' := by
 cases hl : withI more c
 ·have hL : eventI more c = (decide (65 ≤ c) && decide (c ≤ 90)) := by simp [eventI, hl]
  rw [hL]
  have HL := Lib.hid hl
  clear hl hL
  by_cases h65 : 65 ≤ c
  all_goals
   go_enter Tryz.func130, Tryz.ntmps130
   go_wp2_with fail
   refine (with_any c bp bm more _ h0 h1 hp hm).mono ?_
   rintro e w' ⟨rfl, rfl⟩
   rw [HL.out]
   go_wp2
   go_ret
   refine ⟨?_, rfl⟩
   simp
   all_goals omega
 ·have hL : eventI more c = true := by simp [eventI, hl]
  rw [hL]
  have HL := Lib.hid hl
  clear hl hL
  go_enter Tryz.func130, Tryz.ntmps130
  go_wp2_with fail
  refine (with_any c bp bm more _ h0 h1 hp hm).mono ?_
  rintro e w' ⟨rfl, rfl⟩
  rw [HL.out]
  go_wp2
  go_ret
  exact ⟨rfl, rfl⟩
set_option maxHeartbeats 400000 in
theorem make_with (bp : Addr) (more : ByteArray) (w : World) :
  Calls Tryz.prog 127 #[.string more, .pointer (some bp)] w fun e w' => e = .returned (.func (.func 128) #[] #[.pointer (some bp), .pointer (some ⟨w.heap.size, 0, none⟩)]) ∧ w' = w.alloc (.cells #[.string more] 9) := by
 have hmf : ∀ (fn : Fn) (first cap : Array Value) (w : World), (Instr.makeFunc fn first cap).run Tryz.prog w = .ok (.func fn first cap) w := fun _ _ _ _ => rfl
 go_enter Tryz.func127, Tryz.ntmps127
 go_wp2
 go_ret
 exact ⟨rfl, rfl⟩
structure Made (w : World) (v : Value) : Prop where
 ex : ∃ bp b0 b1 b2 bd : Addr, v = .agg #[.func (.func 128) #[] #[.pointer (some bp), .pointer (some b1)], .func (.func 128) #[] #[.pointer (some bp), .pointer (some b2)], .func (.func 126) #[] #[], .func (.func 130) #[] #[.pointer (some bd)]]
  ∧ w.cell? bp = some (.func (.func 126) #[] #[]) ∧ w.cell? b0 = some (.string ⟨#[45, 95]⟩) ∧ w.cell? b1 = some (.string ⟨#[46, 45, 95]⟩) ∧ w.cell? b2 = some (.string ⟨#[46, 45]⟩)
  ∧ w.cell? bd = some (.func (.func 128) #[] #[.pointer (some bp), .pointer (some b0)])
def MadePost (w : World) (e : Ending) (w' : World) : Prop := ∃ v, e = .returned v ∧ Made w' v ∧ Below w.heap.size w w'
set_option maxHeartbeats 1600000 in
theorem stands_any (w : World) : Calls Tryz.prog 121 #[] w (MadePost w) := by
 have hmf : ∀ (fn : Fn) (first cap : Array Value) (w : World), (Instr.makeFunc fn first cap).run Tryz.prog w = .ok (.func fn first cap) w := fun _ _ _ _ => rfl
 have hsf := fun (a : Addr) (f : Fn) (c : Array Value) (w : World) => run_store Tryz.prog w a (.func f #[] c) .plain rfl
 go_enter Tryz.func121, Tryz.ntmps121
 go_wp2_with fail
 refine (make_with _ _ _).mono ?_
 rintro e w' ⟨rfl, rfl⟩
 go_wp2_with fail
 go_region_held3 (fun w' => w'.cell? ⟨w.heap.size + 1, 0, none⟩ = some (.func (.func 126) #[] #[])) (simp [World.cell?_alloc_past, World.cell?_alloc_at])
  (first | (go_at_call 127; refine (make_with _ _ _).mono ?_; rintro e w' ⟨rfl, rfl⟩))
 all_goals
  go_wp2
  refine bodyPost_ret (v := .agg #[.func (.func 128) #[] #[.pointer (some ⟨w.heap.size + 1, 0, none⟩), .pointer (some ⟨w.heap.size + 1 + 1 + 1 + 1, 0, none⟩)], .func (.func 128) #[] #[.pointer (some ⟨w.heap.size + 1, 0, none⟩), .pointer (some ⟨w.heap.size + 1 + 1 + 1 + 1 + 1, 0, none⟩)], .func (.func 126) #[] #[], .func (.func 130) #[] #[.pointer (some ⟨w.heap.size + 1 + 1 + 1, 0, none⟩)]]) (by simp [results, Tryz.results121, go_sem]) rfl ?_
  refine ⟨_, rfl, ⟨⟨⟨w.heap.size + 1, 0, none⟩, ⟨w.heap.size + 1 + 1, 0, none⟩, ⟨w.heap.size + 1 + 1 + 1 + 1, 0, none⟩, ⟨w.heap.size + 1 + 1 + 1 + 1 + 1, 0, none⟩, ⟨w.heap.size + 1 + 1 + 1, 0, none⟩, rfl, ?_, ?_, ?_, ?_, ?_⟩⟩, ?_⟩
  iterate 5 (simp [World.cell?_alloc_past, World.cell?_alloc_at])
  repeat (first | exact Below.refl _ _ | refine Below.drew ?_ | refine Below.alloc ?_ (by simp; try omega) _)
end Go.Proofs.YtnnapkakbdpkaaaGreat
namespace Go.Proofs.YtnnapkakbdpkaaaGreat
open Go.RowKit
set_option maxRecDepth 20000
def BoolPost (b : Bool) (w : World) (e : Ending) (w' : World) : Prop := e = .returned (.bool b) ∧ Below w.heap.size w w'
theorem may_part (c : Int) (bp bm : Addr) (w : World) (h0 : 0 ≤ c) (h1 : c ≤ 255)
  (hp : w.cell? bp = some (.func (.func 126) #[] #[])) (hm : w.cell? bm = some (.string ⟨#[46, 45, 95]⟩)) :
  Calls Tryz.prog 128 #[.int .u8 c, .pointer (some bp), .pointer (some bm)] w fun e w' => e = .returned (.bool (partI c)) ∧ w = w' :=
 with_any c bp bm _ w h0 h1 hp hm
theorem may_host (c : Int) (bp bm : Addr) (w : World) (h0 : 0 ≤ c) (h1 : c ≤ 255)
  (hp : w.cell? bp = some (.func (.func 126) #[] #[])) (hm : w.cell? bm = some (.string ⟨#[46, 45]⟩)) :
  Calls Tryz.prog 128 #[.int .u8 c, .pointer (some bp), .pointer (some bm)] w fun e w' => e = .returned (.bool (hostI c)) ∧ w = w' :=
 with_any c bp bm _ w h0 h1 hp hm
theorem may_sign (c : Int) (bd bp bm : Addr) (w : World) (h0 : 0 ≤ c) (h1 : c ≤ 255)
  (hd : w.cell? bd = some (.func (.func 128) #[] #[.pointer (some bp), .pointer (some bm)]))
  (hp : w.cell? bp = some (.func (.func 126) #[] #[])) (hm : w.cell? bm = some (.string ⟨#[45, 95]⟩)) :
  Calls Tryz.prog 130 #[.int .u8 c, .pointer (some bd)] w fun e w' => e = .returned (.bool (signI c)) ∧ w = w' :=
 event_any c bd bp bm _ w h0 h1 hd hp hm
set_option maxHeartbeats 1600000 in
theorem filled_part (s : ByteArray) (w : World) (hs : s.size ≤ maxLen) :
  Calls Tryz.prog 112 #[.int .i64 0, .string s] w (BoolPost (filledB partI s) w) := by
 unfold maxLen at hs
 have hi : ∀ (x0 x1 x2 x3 : Value) (w : World), (Instr.index 192 (.agg #[x0, x1, x2, x3]) (.int .i64 0)).run Tryz.prog w = .ok x0 w := fun _ _ _ _ _ => by kernel_rfl
 by_cases h1 : s.size < 1
 ·rw [filledB_no _ _ (.inl h1)]
  go_enter Tryz.func112, Tryz.ntmps112
  go_wp2
  go_ret
  exact ⟨rfl, Below.refl _ _⟩
 ·by_cases h2 : 16 < s.size
  ·rw [filledB_no _ _ (.inr h2)]
   go_enter Tryz.func112, Tryz.ntmps112
   go_wp2
   go_ret
   exact ⟨rfl, Below.refl _ _⟩
  ·rw [filledB_in _ _ (by omega) (by omega)]
   have q1 : decide ((s.size : Int) < 1) = false := by simp; omega
   have q2 : decide ((16 : Int) < (s.size : Int)) = false := by simp; omega
   go_enter Tryz.func112, Tryz.ntmps112
   go_wp2_with fail
   refine (stands_any _).mono ?_
   rintro e w1 ⟨v, rfl, ⟨bp, b0, b1, b2, bd, rfl, hp, hb0, hb1, hb2, hbd⟩, hbel⟩
   go_wp2_with fail
   go_loop [20] (fun i => ∃ k : Nat, k ≤ s.size ∧ i = .int .i64 k ∧ allI partI (s.data.toList.take k) = true) (fun i => s.size - (intOf i).toNat)
   case atStart => exact ⟨0, Nat.zero_le _, rfl, by simp [allI]⟩
   case round =>
    obtain ⟨k, hk, rfl, hall⟩ := hrel
    have Hall := Lib.hid hall
    clear hall
    by_cases hlt : k < s.size
    ·have hb : (s[k].toNat : Int) ≤ 255 := by have := s[k].toNat_lt; omega
     cases hv : partI (s[k].toNat : Int)
     ·have Hv := Lib.hid hv
      have Hf := Lib.hid (allI_stop partI s k hlt hv)
      clear hv
      go_wp2_with fail
      refine (may_part _ bp b1 _ (by omega) hb hp hb1).mono ?_
      rintro e w' ⟨rfl, rfl⟩
      rw [Hv.out]
      go_wp2
      go_ret
      rw [Hf.out]
      exact ⟨rfl, hbel⟩
     ·have Hv := Lib.hid hv
      have Hf := Lib.hid (allI_step partI s k hlt Hall.out hv)
      clear hv
      go_wp2_with fail
      refine (may_part _ bp b1 _ (by omega) hb hp hb1).mono ?_
      rintro e w' ⟨rfl, rfl⟩
      rw [Hv.out]
      go_wp2
      go_round
      case rel => exact ⟨k + 1, by omega, by go_num, Hf.out⟩
      case measure => simp [intOf]; omega
    ·have Hf := Lib.hid (allI_full partI s k (by omega) Hall.out)
     go_wp2
     go_ret
     rw [Hf.out]
     exact ⟨rfl, hbel⟩
set_option maxHeartbeats 1600000 in
theorem filled_host (s : ByteArray) (w : World) (hs : s.size ≤ maxLen) :
  Calls Tryz.prog 112 #[.int .i64 1, .string s] w (BoolPost (filledB hostI s) w) := by
 unfold maxLen at hs
 have hi : ∀ (x0 x1 x2 x3 : Value) (w : World), (Instr.index 192 (.agg #[x0, x1, x2, x3]) (.int .i64 1)).run Tryz.prog w = .ok x1 w := fun _ _ _ _ _ => by kernel_rfl
 by_cases h1 : s.size < 1
 ·rw [filledB_no _ _ (.inl h1)]
  go_enter Tryz.func112, Tryz.ntmps112
  go_wp2
  go_ret
  exact ⟨rfl, Below.refl _ _⟩
 ·by_cases h2 : 16 < s.size
  ·rw [filledB_no _ _ (.inr h2)]
   go_enter Tryz.func112, Tryz.ntmps112
   go_wp2
   go_ret
   exact ⟨rfl, Below.refl _ _⟩
  ·rw [filledB_in _ _ (by omega) (by omega)]
   have q1 : decide ((s.size : Int) < 1) = false := by simp; omega
   have q2 : decide ((16 : Int) < (s.size : Int)) = false := by simp; omega
   go_enter Tryz.func112, Tryz.ntmps112
   go_wp2_with fail
   refine (stands_any _).mono ?_
   rintro e w1 ⟨v, rfl, ⟨bp, b0, b1, b2, bd, rfl, hp, hb0, hb1, hb2, hbd⟩, hbel⟩
   go_wp2_with fail
   go_loop [20] (fun i => ∃ k : Nat, k ≤ s.size ∧ i = .int .i64 k ∧ allI hostI (s.data.toList.take k) = true) (fun i => s.size - (intOf i).toNat)
   case atStart => exact ⟨0, Nat.zero_le _, rfl, by simp [allI]⟩
   case round =>
    obtain ⟨k, hk, rfl, hall⟩ := hrel
    have Hall := Lib.hid hall
    clear hall
    by_cases hlt : k < s.size
    ·have hb : (s[k].toNat : Int) ≤ 255 := by have := s[k].toNat_lt; omega
     cases hv : hostI (s[k].toNat : Int)
     ·have Hv := Lib.hid hv
      have Hf := Lib.hid (allI_stop hostI s k hlt hv)
      clear hv
      go_wp2_with fail
      refine (may_host _ bp b2 _ (by omega) hb hp hb2).mono ?_
      rintro e w' ⟨rfl, rfl⟩
      rw [Hv.out]
      go_wp2
      go_ret
      rw [Hf.out]
      exact ⟨rfl, hbel⟩
     ·have Hv := Lib.hid hv
      have Hf := Lib.hid (allI_step hostI s k hlt Hall.out hv)
      clear hv
      go_wp2_with fail
      refine (may_host _ bp b2 _ (by omega) hb hp hb2).mono ?_
      rintro e w' ⟨rfl, rfl⟩
      rw [Hv.out]
      go_wp2
      go_round
      case rel => exact ⟨k + 1, by omega, by go_num, Hf.out⟩
      case measure => simp [intOf]; omega
    ·have Hf := Lib.hid (allI_full hostI s k (by omega) Hall.out)
     go_wp2
     go_ret
     rw [Hf.out]
     exact ⟨rfl, hbel⟩
set_option maxHeartbeats 1600000 in
theorem filled_sign (s : ByteArray) (w : World) (hs : s.size ≤ maxLen) :
  Calls Tryz.prog 112 #[.int .i64 3, .string s] w (BoolPost (filledB signI s) w) := by
 unfold maxLen at hs
 have hi : ∀ (x0 x1 x2 x3 : Value) (w : World), (Instr.index 192 (.agg #[x0, x1, x2, x3]) (.int .i64 3)).run Tryz.prog w = .ok x3 w := fun _ _ _ _ _ => by kernel_rfl
 by_cases h1 : s.size < 1
 ·rw [filledB_no _ _ (.inl h1)]
  go_enter Tryz.func112, Tryz.ntmps112
  go_wp2
  go_ret
  exact ⟨rfl, Below.refl _ _⟩
 ·by_cases h2 : 16 < s.size
  ·rw [filledB_no _ _ (.inr h2)]
   go_enter Tryz.func112, Tryz.ntmps112
   go_wp2
   go_ret
   exact ⟨rfl, Below.refl _ _⟩
  ·rw [filledB_in _ _ (by omega) (by omega)]
   have q1 : decide ((s.size : Int) < 1) = false := by simp; omega
   have q2 : decide ((16 : Int) < (s.size : Int)) = false := by simp; omega
   go_enter Tryz.func112, Tryz.ntmps112
   go_wp2_with fail
   refine (stands_any _).mono ?_
   rintro e w1 ⟨v, rfl, ⟨bp, b0, b1, b2, bd, rfl, hp, hb0, hb1, hb2, hbd⟩, hbel⟩
   go_wp2_with fail
   go_loop [20] (fun i => ∃ k : Nat, k ≤ s.size ∧ i = .int .i64 k ∧ allI signI (s.data.toList.take k) = true) (fun i => s.size - (intOf i).toNat)
   case atStart => exact ⟨0, Nat.zero_le _, rfl, by simp [allI]⟩
   case round =>
    obtain ⟨k, hk, rfl, hall⟩ := hrel
    have Hall := Lib.hid hall
    clear hall
    by_cases hlt : k < s.size
    ·have hb : (s[k].toNat : Int) ≤ 255 := by have := s[k].toNat_lt; omega
     cases hv : signI (s[k].toNat : Int)
     ·have Hv := Lib.hid hv
      have Hf := Lib.hid (allI_stop signI s k hlt hv)
      clear hv
      go_wp2_with fail
      refine (may_sign _ bd bp b0 _ (by omega) hb hbd hp hb0).mono ?_
      rintro e w' ⟨rfl, rfl⟩
      rw [Hv.out]
      go_wp2
      go_ret
      rw [Hf.out]
      exact ⟨rfl, hbel⟩
     ·have Hv := Lib.hid hv
      have Hf := Lib.hid (allI_step signI s k hlt Hall.out hv)
      clear hv
      go_wp2_with fail
      refine (may_sign _ bd bp b0 _ (by omega) hb hbd hp hb0).mono ?_
      rintro e w' ⟨rfl, rfl⟩
      rw [Hv.out]
      go_wp2
      go_round
      case rel => exact ⟨k + 1, by omega, by go_num, Hf.out⟩
      case measure => simp [intOf]; omega
    ·have Hf := Lib.hid (allI_full signI s k (by omega) Hall.out)
     go_wp2
     go_ret
     rw [Hf.out]
     exact ⟨rfl, hbel⟩
end Go.Proofs.YtnnapkakbdpkaaaGreat
namespace Go.Proofs.YtnnapkakbdpkaaaGreat
open Go.RowKit
set_option maxRecDepth 20000
set_option maxHeartbeats 1600000 in
theorem server_any (s : ByteArray) (w : World) (hs : s.size ≤ maxLen) :
  Calls Tryz.prog 119 #[.string s] w (BoolPost (serverB s) w) := by
 have hi : ∀ (x0 x1 x2 x3 : Value) (w : World), (Instr.index 192 (.agg #[x0, x1, x2, x3]) (.int .i64 2)).run Tryz.prog w = .ok x2 w := fun _ _ _ _ _ => by kernel_rfl
 cases hf : filledB hostI s
 ·have Hs := Lib.hid (serverB_no s hf)
  have Hf := Lib.hid hf
  clear hf
  go_enter Tryz.func119, Tryz.ntmps119
  go_wp2_with fail
  refine (filled_host s _ hs).mono ?_
  rintro e w1 ⟨rfl, hb1⟩
  rw [Hf.out]
  go_wp2
  go_ret
  rw [Hs.out]
  exact ⟨rfl, hb1⟩
 ·obtain ⟨z1, z2⟩ := filledB_size hf
  have hb0 : (s[0].toNat : Int) ≤ 255 := by have := s[0].toNat_lt; omega
  have hbl : (s[s.size - 1].toNat : Int) ≤ 255 := by have := s[s.size - 1].toNat_lt; omega
  have hyes := serverB_yes s hf z1
  have Hf := Lib.hid hf
  clear hf
  cases h0 : lowI (s[0].toNat : Int)
  ·rw [h0] at hyes
   have Hs := Lib.hid hyes
   have H0 := Lib.hid h0
   clear hyes h0
   go_enter Tryz.func119, Tryz.ntmps119
   go_wp2_with fail
   refine (filled_host s _ hs).mono ?_
   rintro e w1 ⟨rfl, hb1⟩
   rw [Hf.out]
   go_wp2_with fail
   refine (stands_any _).mono ?_
   rintro e w2 ⟨v, rfl, ⟨bp, b0, b1, b2, bd, rfl, hp, hb0', hb1', hb2', hbd⟩, hbel⟩
   go_wp2_with fail
   refine (plain_any _ _ (by omega) hb0).mono ?_
   rintro e w' ⟨rfl, rfl⟩
   rw [H0.out]
   go_wp2
   go_ret
   rw [Hs.out]
   exact ⟨rfl, hb1.trans (hbel.mono hb1.size)⟩
  ·rw [h0] at hyes
   have Hs := Lib.hid hyes
   have H0 := Lib.hid h0
   clear hyes h0
   go_enter Tryz.func119, Tryz.ntmps119
   go_wp2_with fail
   refine (filled_host s _ hs).mono ?_
   rintro e w1 ⟨rfl, hb1⟩
   rw [Hf.out]
   go_wp2_with fail
   refine (stands_any _).mono ?_
   rintro e w2 ⟨v, rfl, ⟨bp, b0, b1, b2, bd, rfl, hp, hb0', hb1', hb2', hbd⟩, hbel⟩
   go_wp2_with fail
   refine (plain_any _ _ (by omega) hb0).mono ?_
   rintro e w' ⟨rfl, rfl⟩
   rw [H0.out]
   go_wp2_with fail
   trace_state
   refine (plain_any _ _ (by omega) hbl).mono ?_
   rintro e w' ⟨rfl, rfl⟩
   go_wp2
   go_ret
   rw [Hs.out]
   exact ⟨rfl, hb1.trans (hbel.mono hb1.size)⟩
end Go.Proofs.YtnnapkakbdpkaaaGreat
