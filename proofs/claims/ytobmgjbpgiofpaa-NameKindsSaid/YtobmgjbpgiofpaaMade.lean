/-
  The statements' own helpers: a text that is made of a list of numbers is at most so long as is asked; what the numbers' list holds is left alone.
-/
import Derived.Test.YtobmgjbpgiofpaaRefC
import Derived.OpenShut
namespace Go.Proofs.Ytobmgjbpgiofpaa
open Go.RowKit
set_option linter.unusedVariables false
set_option linter.unusedSimpArgs false

/-- A list of integers that came in: each of its elements is there, and fits. -/
def IntsAt (w : World) (a : Option Addr) (len : Nat) : Prop := len = 0 ∨ ∃ b off, a = some ⟨b, off, none⟩ ∧ ∀ j, j < len → ∃ n : Int, w.cell? ⟨b, off + j, none⟩ = some (.int .i64 n) ∧ -9223372036854775808 ≤ n ∧ n ≤ 9223372036854775807
theorem IntsAt.later {w w' : World} {a : Option Addr} {len : Nat} (h : IntsAt w a len) (hb : Below w.heap.size w w') : IntsAt w' a len := by
  rcases h with h | ⟨b, off, ha, h⟩
  · exact .inl h
  · exact .inr ⟨b, off, ha, fun j hj => by obtain ⟨n, hc, hn⟩ := h j hj; exact ⟨n, cell_later hb hc, hn⟩⟩

/-- A list of integers as it is handed in: nil, or a row of cells that hold numbers which fit. -/
def RowOf (w : World) (a : Option Addr) (len cap : Nat) (zs : List Int) : Prop :=
  (a = none ∧ len = 0 ∧ cap = 0 ∧ zs = []) ∨
  ∃ x, a = some x ∧ len ≤ cap ∧ cap ≤ maxLen ∧ zs.length = cap ∧ (∀ i, i < zs.length → w.cell? (x.add i) = some (.int .i64 (zs.getD i 0))) ∧ ∀ n ∈ zs, (Lit.int .i64 n).wf = true
theorem RowOf.len_le {w : World} {a : Option Addr} {len cap : Nat} {zs : List Int} (h : RowOf w a len cap zs) : len ≤ maxLen := by
  rcases h with ⟨_, rfl, _, _⟩ | ⟨x, _, h1, h2, _⟩
  · exact Nat.zero_le _
  · exact Nat.le_trans h1 h2
theorem RowOf.ints {w : World} {a : Option Addr} {len cap : Nat} {zs : List Int} (h : RowOf w a len cap zs) : IntsAt w a len := by
  rcases h with ⟨_, h, _, _⟩ | ⟨x, rfl, h1, h2, h3, h4, h5⟩
  · exact .inl h
  · by_cases hz : len = 0
    · exact .inl hz
    · obtain ⟨b, off, rfl, hc⟩ := ints_at h4 (by omega)
      refine .inr ⟨b, off, rfl, fun j hj => ⟨zs.getD j 0, hc j (by omega), ?_⟩⟩
      apply bounds_i64
      apply h5
      have hj' : j < zs.length := by omega
      rw [List.getD_eq_getElem?_getD, List.getElem?_eq_getElem hj']
      exact List.getElem_mem _

/-- The numbers of such a list. -/
def IntsZ (w : World) (a : Option Addr) (len : Nat) (z : Nat → Int) : Prop := len = 0 ∨ ∃ b off, a = some ⟨b, off, none⟩ ∧ ∀ j, j < len → w.cell? ⟨b, off + j, none⟩ = some (.int .i64 (z j)) ∧ -9223372036854775808 ≤ z j ∧ z j ≤ 9223372036854775807
theorem IntsAt.get {w : World} {a : Option Addr} {len : Nat} (h : IntsAt w a len) : ∃ z, IntsZ w a len z := by
  rcases h with h | ⟨b, off, ha, h⟩
  · exact ⟨fun _ => 0, .inl h⟩
  · refine ⟨fun j => if hj : j < len then (h j hj).choose else 0, .inr ⟨b, off, ha, fun j hj => ?_⟩⟩
    simp only [dif_pos hj]
    exact (h j hj).choose_spec
theorem IntsZ.later {w w' : World} {a : Option Addr} {len : Nat} {z : Nat → Int} (h : IntsZ w a len z) (hb : Below w.heap.size w w') : IntsZ w' a len z := by
  rcases h with h | ⟨b, off, ha, h⟩
  · exact .inl h
  · exact .inr ⟨b, off, ha, fun j hj => ⟨cell_later hb (h j hj).1, (h j hj).2⟩⟩

/-- The bytes that such a text is made of. -/
def alphaS (odd : ByteArray) : ByteArray := ByteArray.mk #[97, 98, 122, 48, 57, 46, 45, 95, 65, 90] ++ odd
/-- The text that is made of the first k numbers. -/
def madeF (all : ByteArray) (z : Nat → Int) : Nat → ByteArray
  | 0 => ⟨#[]⟩
  | k + 1 => madeF all z k ++ all.extract (aroundI (z k) all.size).toNat ((aroundI (z k) all.size).toNat + 1)
theorem madeF_size (all : ByteArray) (z : Nat → Int) (k : Nat) : (madeF all z k).size ≤ k := by
  induction k with
  | zero => exact Nat.le_refl _
  | succ k ih =>
    unfold madeF
    rw [ByteArray.size_append, Lib.size_eq (all.extract _ _), Lib.extract_data, List.length_take]
    omega
/-- The text that is made of a list of so many numbers, of at most m of them. -/
def madeS (odd : ByteArray) (z : Nat → Int) (len m : Nat) : ByteArray := madeF (alphaS odd) z (min len m)
theorem madeS_size (odd : ByteArray) (z : Nat → Int) (len m : Nat) : (madeS odd z len m).size ≤ m := Nat.le_trans (madeF_size _ _ _) (Nat.min_le_right _ _)

set_option maxHeartbeats 1600000 in
theorem made_any (a : Option Addr) (len cap m : Nat) (odd : ByteArray) (z : Nat → Int) (w : World) (hl : len ≤ maxLen) (hm : m ≤ 100) (ho : odd.size ≤ 100) (ha : IntsZ w a len z) :
    Calls Try.prog 9 #[.slice a len cap, .int .i64 (m : Int), .string odd] w fun e w' => e = .returned (.string (madeS odd z len m)) ∧ w = w' := by
  unfold maxLen at hl
  have hA : ∃ all : ByteArray, all = ByteArray.mk #[97, 98, 122, 48, 57, 46, 45, 95, 65, 90] ++ odd ∧ 10 ≤ all.size ∧ all.size ≤ 110 := ⟨_, rfl, by rw [ByteArray.size_append]; show 10 ≤ 10 + _; omega, by rw [ByteArray.size_append]; show 10 + _ ≤ 110; omega⟩
  obtain ⟨all, hall, hA1, hA2⟩ := hA
  have Hall := Lib.hid hall
  have Hd := Lib.hid (show madeS odd z len m = madeF all z (min len m) by rw [hall]; rfl)
  clear hall
  go_enter Try.func9, Try.ntmps9
  go_wp2_with fail
  rw [← Hall.out]
  clear Hall
  go_loop [8, 9] (fun t i => ∃ k : Nat, k ≤ len ∧ k ≤ m ∧ i = .int .i64 k ∧ t = .string (madeF all z k)) (fun _ i => len - (intOf i).toNat)
  case atStart => exact ⟨0, Nat.zero_le _, Nat.zero_le _, rfl, rfl⟩
  case round =>
    obtain ⟨k, hk, hkm, rfl, rfl⟩ := hrel
    have hx := madeF_size all z k
    by_cases hlt : k < len
    · have q1 : decide ((k : Int) < (len : Int)) = true := by simp; omega
      by_cases hm2 : k < m
      · have q2 : decide ((k : Int) < (m : Int)) = true := by simp; omega
        rcases ha with ha | ⟨b, off, rfl, ha⟩
        · omega
        obtain ⟨hc, hn0, hn1⟩ := ha k hlt
        clear ha
        have Hs := Lib.hid (show madeF all z (k + 1) = madeF all z k ++ all.extract (aroundI (z k) all.size).toNat ((aroundI (z k) all.size).toNat + 1) from rfl)
        obtain ⟨hr0, hr1⟩ := aroundI_bd (z k) (all.size : Int) (by omega)
        obtain ⟨r, hr⟩ := Int.eq_ofNat_of_zero_le hr0
        have Hr := Lib.hid hr
        have hr2 : r < all.size := by omega
        clear hr hr0 hr1
        go_wp2_with fail
        refine (around_any (z k) _ _ hn0 hn1 (by omega) (by omega)).mono ?_
        rintro e w' ⟨rfl, rfl⟩
        rw [Hr.out]
        go_wp2
        go_round
        case rel => exact ⟨k + 1, by omega, by omega, by go_num, by rw [Hs.out, Hr.out]; rfl⟩
        case measure => simp [intOf]; omega
      · have q2 : decide ((k : Int) < (m : Int)) = false := by simp; omega
        go_wp2
        go_ret
        rw [Hd.out, show min len m = k by omega]
        exact ⟨rfl, rfl⟩
    · have q1 : decide ((k : Int) < (len : Int)) = false := by simp; omega
      go_wp2
      go_ret
      rw [Hd.out, show min len m = k by omega]
      exact ⟨rfl, rfl⟩
end Go.Proofs.Ytobmgjbpgiofpaa
