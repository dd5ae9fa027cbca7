/-
  Small facts on package lay's readers and rows: one reader beside another, a byte that is turned, what is cut off.
-/
import Derived.Test.YtahgkhcmchbpbaaReadMore
namespace Go.Proofs.Ytahgkhcmchbpbaa
open Go.RowKit
set_option linter.unusedVariables false
set_option linter.unusedSimpArgs false

theorem below_grown {w a b : World} {g : Nat} (h : Below w.heap.size w a) (hg : a.grownBy b (some g)) (hw : w.heap.size ≤ g) : Below w.heap.size w b :=
  h.grown hg h.size (fun k hk => by injection hk with hk; omega)
theorem numS_cut (n k : Nat) (h : n < 128 ^ 9) (hk : k < (digs n).length) : numS ((digs n).take k, 0) = (0, ([], 3)) := by rw [numS_bad (numErr_cut n k h hk) (by decide)]; rfl
theorem natI_lt (n : Int) (h : n ≤ 9223372036854775807) : natI n < 128 ^ 9 := by rw [pow128_9]; unfold natI; omega
theorem textS_nil (e : Nat) (he : e ≠ 0) (m : Int) (hm : 0 ≤ m) : textS ([], e) m = ([], ([], e)) := by
  have h := numS_err he
  rw [textS_err (n := 0) (s1 := ([], e)) (by rw [h]) (by rw [h]) (by omega) (by simp) he]

/-- One byte of a row of one's own is turned. -/
theorem Own.set {w : World} {g cap : Nat} {bs : List UInt8} (h : Own w g cap bs) (i : Nat) (x : UInt8) : Own (w.setCell ⟨g, i, none⟩ (bV x)) g cap (bs.set i x) := by
  obtain ⟨cur, hh, h1, h2, h3, h4⟩ := h
  refine ⟨_, heap_set hh i (bV x), by simpa using h1, h2, by simpa using h3, ?_⟩
  rw [List.length_set, Array.toList_setIfInBounds, List.take_set, h4]
  unfold bVs
  rw [List.map_set]

theorem forms_last {K m : Nat} (hm : (digs K).length = m + 1) : ∃ x, (digs K)[m]? = some x ∧ x.toNat < 128 ∧ ∀ y ∈ (digs K).set m (UInt8.ofNat (x.toNat + 128)), 128 ≤ y.toNat := by
  have hg := goes_digs K []
  rw [List.append_nil, hm] at hg
  have hg : goes (digs K) = m := by omega
  obtain ⟨x, hx⟩ : ∃ x, (digs K)[m]? = some x := ⟨_, List.getElem?_eq_getElem (by omega)⟩
  have hx1 : x.toNat < 128 := goes_stops (by rw [hg]; exact hx)
  refine ⟨x, hx, hx1, fun y hy => ?_⟩
  obtain ⟨j, hj, rfl⟩ := List.getElem_of_mem hy
  rw [List.length_set] at hj
  rw [List.getElem_set]
  split
  · rw [toNat_ofNat (by omega)]; omega
  · exact goes_on (l := digs K) (j := j) (by omega) (List.getElem?_eq_getElem hj)

theorem own_new (w : World) (bs : List UInt8) (cur : Array Value) (n : Nat) (hn : bs.length = n) (h : cur.toList = bVs bs) (hm : n ≤ 1000) (B : Nat) (hB : B = w.heap.size) : Own (w.alloc (.cells cur 5)) B n bs := by
  subst hB hn
  refine ⟨cur, heap_alloc_new w _, Nat.le_refl _, by unfold maxLen; omega, ?_, ?_⟩
  · rw [← Array.length_toList, h, bVs_len]
  · rw [h, List.take_of_length_le (by rw [bVs_len]; exact Nat.le_refl _)]

theorem not_bytes {w : World} {k : Nat} {cs : Array Value} {t : TypeId} (h : w.heap[k]? = some (.cells cs t (0, 0))) (ht : t ≠ 5) : ∀ cur, w.heap[k]? ≠ some (.cells cur 5 (0, 0)) :=
  fun cur hc => by rw [h] at hc; injection hc with hc; injection hc with _ hc; exact ht hc
/-- Another reader is not turned. -/
theorem Rd.other {w w' : World} {lo lo' g k : Nat} {s s' : St} (h : Rd w lo g s) (hk : Rd w lo' k s') (hne : g ≠ k) (hg : w.grownBy w' (some k)) : Rd w' lo g s := by
  obtain ⟨⟨v, hh, hr⟩, ho⟩ := h
  obtain ⟨⟨v', hh', _⟩, _⟩ := hk
  exact ⟨⟨v, (hg.block g (heap_lt hh) (fun e => hne (by injection e))).trans hh, hr.grown hg (not_bytes hh' (by decide))⟩, ho⟩
theorem Rd.lt {w : World} {lo g : Nat} {s : St} (h : Rd w lo g s) : g < w.heap.size := by obtain ⟨⟨v, hh, _⟩, _⟩ := h; exact heap_lt hh

end Go.Proofs.Ytahgkhcmchbpbaa
