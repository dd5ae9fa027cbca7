/-
  Lists that are handed in, of things that lie in so many cells each, whatever the program.
-/
import Derived.Test.YtimlomflgnnmnaaSMem
import Derived.Lib.SmallJoins
import Derived.Deep.Slices
import Derived.Deep.Fields
import Derived.ChangeSame
import Derived.OpenShut
import Derived.ProofKit
namespace Go.Proofs.Ytimlomflgnnmnaa
open Go.Joins Go.ChangeShapes Go.WideShapes Go.RowKit Go.Deep
set_option linter.unusedVariables false
set_option linter.unusedSimpArgs false

section
variable {H : Type} {enc : TypeId × Value → H} {P : Program} {w : World} {base : Nat} {spare : Nat → Bool} {held : Bool} {α : Type}
theorem lies_vs_at {L : Lies α} : ∀ {xs : List α} {q : Nat} {u : Value}, 0 < L.c → (L.vs xs)[q]? = some u → ∃ i j y, q = i * L.c + j ∧ xs[i]? = some y ∧ (L.cl y)[j]? = some u
  | [], q, u, _, h => by simp [Lies.vs] at h
  | x :: xs, q, u, hp, h => by
    rw [L.vs_cons] at h
    by_cases hq : q < L.c
    · rw [List.getElem?_append_left (by rw [L.len]; exact hq)] at h
      exact ⟨0, q, x, by omega, rfl, h⟩
    · rw [List.getElem?_append_right (by rw [L.len]; omega), L.len] at h
      obtain ⟨i, j, y, h1, h2, h3⟩ := lies_vs_at hp h
      exact ⟨i + 1, j, y, by rw [Nat.succ_mul]; omega, h2, h3⟩
/-- A slice of such things that is handed in. -/
theorem open_lies {L : Lies α} {ok : α → Prop} (dflt : α) {t : TypeId} {fuel : Nat} {cs : List Value} {x : DataW H × List MemPlace} (ht : P.underlying t = some (.slice L.e)) (hC : P.cellsOf L.e = L.c) (hp : 0 < L.c)
    (rd : ∀ (fuel : Nat) (cs : List Value) (x : DataW H × List MemPlace), cs.length = L.c → DataW.trod enc P w base spare held fuel L.e cs = some x → ∃ y, cs = L.cl y ∧ ok y)
    (hf : DataW.trod enc P w base spare held fuel t cs = some x) : ∃ A cap xs, cs = [.slice A xs.length cap] ∧ L.Slice w (.slice A xs.length cap) xs ∧ ∀ y ∈ xs, ok y := by
  rcases open_slice ht hf with ⟨hcs, _⟩ | ⟨a, l, c, m, n, D, Pl, hcs, _, hl, hm, hmm, _, hi⟩
  · exact ⟨none, 0, [], hcs, Lies.Slice.nil w, fun y hy => (List.not_mem_nil hy).elim⟩
  · have hml : l ≤ m := by rw [hmm]; split <;> omega
    have hone' : ∀ i, ∃ e : α, i < l → ok e ∧ ∀ j u, (L.cl e)[j]? = some u → w.cell? ((a.add (i * L.c)).add j) = some u := by
      intro i
      by_cases hil : i < l
      · obtain ⟨cs', hc, ht'⟩ := hi i (by omega)
        rw [hC] at hc
        obtain ⟨_, hcl, hat⟩ := World.cells?_some hc
        obtain ⟨e, rfl, hw⟩ := rd _ _ _ hcl ht'
        refine ⟨e, fun _ => ⟨hw, fun j u hu => ?_⟩⟩
        have hj : j < L.c := by have := (List.getElem?_eq_some_iff.1 hu).1; rw [hcl] at this; exact this
        rw [hat j hj, hu]
      · exact ⟨dflt, fun h => absurd h hil⟩
    obtain ⟨f, hf'⟩ := Classical.axiomOfChoice hone'
    have hlen : ((List.range l).map f).length = l := by simp
    have hget : ∀ i e, ((List.range l).map f)[i]? = some e → i < l ∧ e = f i := by
      intro i e he
      rw [List.getElem?_map] at he
      have hil : i < l := by
        rcases Nat.lt_or_ge i l with h | h
        · exact h
        · rw [List.getElem?_eq_none (by simpa using h)] at he
          cases he
      rw [List.getElem?_range hil] at he
      injection he with he
      exact ⟨hil, he.symm⟩
    refine ⟨some a, c, (List.range l).map f, by rw [hlen]; exact hcs, ⟨some a, c, rfl, by rw [hlen]; exact hl, hm, (fun h => by cases h), fun h0 => ?_⟩, ?_⟩
    · rw [hlen] at h0
      obtain ⟨b, off, spot⟩ := a
      have hc0 : ∃ u, (L.cl (f 0))[0]? = some u := ⟨_, List.getElem?_eq_getElem (by rw [L.len]; exact hp)⟩
      obtain ⟨u0, hu0⟩ := hc0
      have h00 := (hf' 0 h0).2 0 u0 hu0
      have hspot : spot = none := by simpa [Addr.add] using World.cell?_spot h00
      subst hspot
      refine ⟨b, off, rfl, ?_, fun q u hu => ?_⟩
      · have := World.block_lt_of_cell? w _ h00
        simpa [Addr.add] using this
      · obtain ⟨i, j, y, rfl, hy, hu'⟩ := lies_vs_at hp hu
        obtain ⟨hil, rfl⟩ := hget i y hy
        have := (hf' i hil).2 j u hu'
        rw [Go.WideShapes.add_plain, Go.WideShapes.add_plain, Nat.add_assoc] at this
        exact this
    · intro e he
      obtain ⟨i, hi', rfl⟩ := List.mem_map.1 he
      exact (hf' i (List.mem_range.1 hi')).1
end
end Go.Proofs.Ytimlomflgnnmnaa
