/-
  The statements' own helpers: a text that is made of a list of numbers is at most so long as is asked; what the numbers' list holds is left alone.
-/
import Derived.Test.YtobmgjbpgiofpaaRefC
import Derived.OpenShut
namespace Go.Proofs.Ytobmgjbpgiofpaa
open Go.RowKit
set_option linter.unusedVariables false

/-- A list of integers that came in: each of its elements is there, and fits. -/
def IntsAt (w : World) (a : Option Addr) (len : Nat) : Prop := len = 0 ∨ ∃ b off, a = some ⟨b, off, none⟩ ∧ ∀ j, j < len → ∃ n : Int, w.cell? ⟨b, off + j, none⟩ = some (.int .i64 n) ∧ -9223372036854775808 ≤ n ∧ n ≤ 9223372036854775807
theorem IntsAt.later {w w' : World} {a : Option Addr} {len : Nat} (h : IntsAt w a len) (hb : Below w.heap.size w w') : IntsAt w' a len := by
  rcases h with h | ⟨b, off, ha, h⟩
  · exact .inl h
  · exact .inr ⟨b, off, ha, fun j hj => by obtain ⟨n, hc, hn⟩ := h j hj; exact ⟨n, cell_later hb hc, hn⟩⟩

/-- A list of integers as it is handed in: nil, or a row of cells that hold numbers which fit. -/
def RowOf (w : World) (a : Option Addr) (len cap : Nat) (zs : List Int) : Prop :=
  (a = none ∧ len = 0 ∧ cap = 0 ∧ zs = []) ∨
  ∃ x, a = some x ∧ len ≤ cap ∧ cap ≤ maxLen ∧ zs.length = cap ∧ (∀ i, i < zs.length → w.cell? (x.add i) = some (.int .i64 (zs.getD i 0))) ∧ ∀ n ∈ zs, (Lit.int .i64 n).wf = true
theorem RowOf.len_le {w : World} {a : Option Addr} {len cap : Nat} {zs : List Int} (h : RowOf w a len cap zs) : len ≤ maxLen := by
  rcases h with ⟨_, rfl, _, _⟩ | ⟨x, _, h1, h2, _⟩
  · exact Nat.zero_le _
  · exact Nat.le_trans h1 h2
theorem RowOf.ints {w : World} {a : Option Addr} {len cap : Nat} {zs : List Int} (h : RowOf w a len cap zs) : IntsAt w a len := by
  rcases h with ⟨_, h, _, _⟩ | ⟨x, rfl, h1, h2, h3, h4, h5⟩
  · exact .inl h
  · by_cases hz : len = 0
    · exact .inl hz
    · obtain ⟨b, off, rfl, hc⟩ := ints_at h4 (by omega)
      refine .inr ⟨b, off, rfl, fun j hj => ⟨zs.getD j 0, hc j (by omega), ?_⟩⟩
      apply bounds_i64
      apply h5
      have hj' : j < zs.length := by omega
      rw [List.getD_eq_getElem?_getD, List.getElem?_eq_getElem hj']
      exact List.getElem_mem _

/-- A text of at most so many bytes, and the world is as it was. -/
def SomeText (m : Nat) (w : World) (e : Ending) (w' : World) : Prop := ∃ x : ByteArray, x.size ≤ m ∧ e = .returned (.string x) ∧ w = w'

set_option maxHeartbeats 1600000 in
theorem made_any (a : Option Addr) (len cap m : Nat) (odd : ByteArray) (w : World) (hl : len ≤ maxLen) (hm : m ≤ 100) (ho : odd.size ≤ 100) (ha : IntsAt w a len) :
    Calls Try.prog 9 #[.slice a len cap, .int .i64 (m : Int), .string odd] w (SomeText m w) := by
  unfold maxLen at hl
  have hA : ∃ all : ByteArray, all = ByteArray.mk #[97, 98, 122, 48, 57, 46, 45, 95, 65, 90] ++ odd ∧ 10 ≤ all.size ∧ all.size ≤ 110 := ⟨_, rfl, by rw [ByteArray.size_append]; show 10 ≤ 10 + _; omega, by rw [ByteArray.size_append]; show 10 + _ ≤ 110; omega⟩
  obtain ⟨all, hall, hA1, hA2⟩ := hA
  have Hall := Lib.hid hall
  clear hall
  go_enter Try.func9, Try.ntmps9
  go_wp2_with fail
  rw [← Hall.out]
  clear Hall
  go_loop [8, 9] (fun t i => ∃ (k : Nat) (x : ByteArray), k ≤ len ∧ k ≤ m ∧ i = .int .i64 k ∧ t = .string x ∧ x.size ≤ k) (fun _ i => len - (intOf i).toNat)
  case atStart => exact ⟨0, ⟨#[]⟩, Nat.zero_le _, Nat.zero_le _, rfl, rfl, Nat.zero_le _⟩
  case round =>
    obtain ⟨k, x, hk, hkm, rfl, rfl, hx⟩ := hrel
    by_cases hlt : k < len
    · have q1 : decide ((k : Int) < (len : Int)) = true := by simp; omega
      by_cases hm2 : k < m
      · have q2 : decide ((k : Int) < (m : Int)) = true := by simp; omega
        rcases ha with ha | ⟨b, off, rfl, ha⟩
        · omega
        obtain ⟨n, hc, hn0, hn1⟩ := ha k hlt
        clear ha
        obtain ⟨hr0, hr1⟩ := aroundI_bd n (all.size : Int) (by omega)
        obtain ⟨r, hr⟩ := Int.eq_ofNat_of_zero_le hr0
        have Hr := Lib.hid hr
        have hr2 : r < all.size := by omega
        clear hr hr0 hr1
        go_wp2_with fail
        refine (around_any n _ _ hn0 hn1 (by omega) (by omega)).mono ?_
        rintro e w' ⟨rfl, rfl⟩
        rw [Hr.out]
        go_wp2
        go_round
        case rel => exact ⟨k + 1, _, by omega, by omega, by go_num, rfl, by rw [ByteArray.size_append, Lib.size_eq (all.extract _ _), Lib.extract_data, List.length_take]; omega⟩
        case measure => simp [intOf]; omega
      · have q2 : decide ((k : Int) < (m : Int)) = false := by simp; omega
        go_wp2
        go_ret
        exact ⟨x, by omega, rfl, rfl⟩
    · have q1 : decide ((k : Int) < (len : Int)) = false := by simp; omega
      go_wp2
      go_ret
      exact ⟨x, by omega, rfl, rfl⟩
end Go.Proofs.Ytobmgjbpgiofpaa
