/-
  A name is made of its sign, its part and its home again, and no other text is: what package name's Make answers of the first byte of a text and of its part and home.
-/
import Derived.Test.YtobmgjbpgiofpaaMake
namespace Go.Proofs.Ytobmgjbpgiofpaa
open Go.RowKit
set_option linter.unusedVariables false
set_option linter.unusedSimpArgs false

theorem indexByte_at (l : List UInt8) (c : UInt8) : ∀ (k : Nat), Lib.indexByte l c = (k : Int) → l[k]? = some c := by
  induction l with
  | nil => intro k h; simp [Lib.indexByte] at h
  | cons b l ih =>
    intro k h
    unfold Lib.indexByte at h
    by_cases hb : (b == c) = true
    · rw [if_pos hb] at h
      obtain rfl : k = 0 := by omega
      simp at hb
      simp [hb]
    · rw [if_neg hb] at h
      by_cases hn : (Lib.indexByte l c == -1) = true
      · rw [if_pos hn] at h; omega
      · rw [if_neg hn] at h
        have hg := Lib.indexByte_ge l c
        have hne : Lib.indexByte l c ≠ -1 := by simpa using hn
        obtain ⟨j, hj⟩ := Int.eq_ofNat_of_zero_le (a := Lib.indexByte l c) (by omega)
        obtain rfl : k = j + 1 := by omega
        rw [List.getElem?_cons_succ]
        exact ih j hj

theorem byteS_data (c : UInt8) : (byteS (c.toNat : Int)).data.toList = [c] := by
  unfold byteS
  rw [strOfNums_data]
  simp
theorem append_data (a b : ByteArray) : (a ++ b).data.toList = a.data.toList ++ b.data.toList := by
  rw [ByteArray.data_append, Array.toList_append]

theorem name_halves (t : ByteArray) (h : nameB t = true) : filledB partI (partS t) = true ∧ serverB (homeS t) = true ∧ ((((t[0]'(nameB_size t h)).toNat : Int) == 64) || (((t[0]'(nameB_size t h)).toNat : Int) == 33)) = true := by
  have hz := nameB_size t h
  obtain ⟨k, hk, h1, hkl⟩ := nameB_colon t h
  obtain ⟨e1, e2⟩ := splits_yes t h k hk
  cases hs : ((((t[0]).toNat : Int) == 64) || (((t[0]).toNat : Int) == 33))
  · rw [nameB_other t hz hs] at h; cases h
  · have ho := nameB_on t k hk h1 hz hs
    rw [h] at ho
    have ho' := ho.symm
    rw [Bool.and_eq_true] at ho'
    rw [e1, e2]
    exact ⟨ho'.1, ho'.2, rfl⟩

theorem name_join (t : ByteArray) (h : nameB t = true) : joinS ((t[0]'(nameB_size t h)).toNat : Int) (partS t) (homeS t) = t := by
  have hz := nameB_size t h
  obtain ⟨k, hk, h1, hkl⟩ := nameB_colon t h
  obtain ⟨e1, e2⟩ := splits_yes t h k hk
  have hc := indexByte_at t.data.toList 58 k hk
  rw [e1, e2]
  unfold joinS
  apply ext_data
  rw [append_data, append_data, append_data, byteS_data, Lib.extract_data, Lib.extract_to_end]
  have hl : k < t.data.toList.length := by rw [← Lib.size_eq]; exact hkl
  have hd := data_cons t hz
  obtain ⟨j, rfl⟩ : ∃ j, k = j + 1 := ⟨k - 1, by omega⟩
  have hk2 : (t.data.toList.drop 1)[j]? = some 58 := by rw [List.getElem?_drop, Nat.add_comm]; exact hc
  have hj : j < (t.data.toList.drop 1).length := by rw [List.length_drop]; omega
  have h58 : (t.data.toList.drop 1)[j] = 58 := by rw [List.getElem?_eq_getElem hj] at hk2; exact Option.some.inj hk2
  have hsp : t.data.toList.drop 1 = (t.data.toList.drop 1).take j ++ 58 :: (t.data.toList.drop 1).drop (j + 1) := by
    conv => lhs; rw [← List.take_append_drop j (t.data.toList.drop 1), List.drop_eq_getElem_cons hj, h58]
  have hdd : (t.data.toList.drop 1).drop (j + 1) = t.data.toList.drop (j + 1 + 1) := by rw [List.drop_drop]; congr 1; omega
  conv => rhs; rw [hd, hsp, hdd]
  show [t[0]] ++ (t.data.toList.drop 1).take (j + 1 - 1) ++ [58] ++ _ = _
  simp

theorem make_name (t : ByteArray) (h : nameB t = true) (hz : t.size ≤ 1000) (w : World) :
    Calls Try.prog 25 #[.int .u8 ((t[0]'(nameB_size t h)).toNat : Int), .string (partS t), .string (homeS t)] w (MakePost t 0 w) := by
  obtain ⟨h1, h2, h3⟩ := name_halves t h
  have hp := partS_size t
  have hh := homeS_size t
  have hm := make_signed ((t[0]'(nameB_size t h)).toNat : Int) (partS t) (homeS t) w (by omega) (by omega) (by omega) (byte_le _) h3
  rw [h1, h2, name_join t h] at hm
  exact hm

theorem filled_none (p : Int → Bool) : filledB p ⟨#[]⟩ = false := filledB_no p _ (.inl (by decide))

theorem make_other (t : ByteArray) (c : Int) (h0 : 0 ≤ c) (h1 : c ≤ 255) (h : nameB t = false) (w : World) :
    ∃ n : Int, (n = 1 ∨ n = 2) ∧ Calls Try.prog 25 #[.int .u8 c, .string (partS t), .string (homeS t)] w (MakePost ⟨#[]⟩ n w) := by
  obtain ⟨_, e1, e2⟩ := splits_no t h
  rw [e1, e2]
  cases hc : (c == 64 || c == 33)
  · exact ⟨1, .inl rfl, make_unsigned c _ _ w hc⟩
  · have hm := make_signed c ⟨#[]⟩ ⟨#[]⟩ w (by decide) (by decide) h0 h1 hc
    rw [filled_none] at hm
    exact ⟨2, .inr rfl, hm⟩
end Go.Proofs.Ytobmgjbpgiofpaa
