/-
  The document's reader: its first error, what is left, how it ends, a flag.
-/
import Derived.Test.YtahgkhcmchbpbaaRef
import Derived.Deep.QuietTactic
import Derived.BigQuiet
namespace Go.Proofs.Ytahgkhcmchbpbaa
open Go.RowKit
set_option linter.unusedVariables false
set_option linter.unusedSimpArgs false

/-- The document's reader: its bytes, its place, its first error. -/
def Rf (w : World) (lo g : Nat) (s : St) : Prop :=
  ∃ v bs I, w.heap[g]? = some (.cells #[v, .int .i64 ((I : Nat) : Int), .int .i64 (s.2 : Int)] 67 (0, 0)) ∧ Row w lo v bs ∧ I ≤ bs.length ∧ bs.length ≤ 1000000 ∧ s.1 = if s.2 = 0 then bs.drop I else []
theorem Rf.below {w w' : World} {lo g : Nat} {s : St} (h : Rf w lo g s) (hb : Below w.heap.size w w') : Rf w' lo g s := by
  obtain ⟨v, bs, I, hh, hr, r⟩ := h
  exact ⟨v, bs, I, (hb.block g (heap_lt hh)).trans hh, hr.below hb, r⟩
theorem Rf.drewN {w : World} {lo g : Nat} {s : St} (h : Rf w lo g s) (n : Nat) : Rf (w.drewN n) lo g s := h
theorem Rd.drewN {w : World} {lo g : Nat} {s : St} (h : Rd w lo g s) (n : Nat) : Rd (w.drewN n) lo g s := h
theorem Rf.len {w : World} {lo g : Nat} {s : St} (h : Rf w lo g s) : s.1.length ≤ 1000000 := by
  obtain ⟨v, bs, I, hh, hr, h1, h2, h3⟩ := h
  rw [h3]
  split
  · rw [List.length_drop]; omega
  · exact Nat.zero_le _
theorem Rf.ok {w : World} {lo g : Nat} {s : St} (h : Rf w lo g s) : Ok s := by
  obtain ⟨v, bs, I, hh, hr, h1, h2, h3⟩ := h
  intro he
  rw [h3, if_neg he]

def RfPost (w : World) (lo g : Nat) (r : Value) (s : St) (e : Ending) (w' : World) : Prop := e = .returned r ∧ Rf w' lo g s ∧ w.grownBy w' (some g)

set_option maxHeartbeats 800000 in
theorem refFail_any (lo g : Nat) (s : St) (x : Nat) (w : World) (h : Rf w lo g s) (hx : x ≠ 0) (hx2 : x ≤ 9) :
    Calls Try.prog 73 #[.pointer (some ⟨g, 0, none⟩), .int .i64 (x : Int)] w (RfPost w lo g (.tuple #[]) (failS s x)) := by
  have H := Lib.hid h
  obtain ⟨v, bs, I, hh, hr, h1, h2, h3⟩ := h
  obtain ⟨rs, e⟩ := s
  have c2 : w.cell? ⟨g, 2, none⟩ = some (.int .i64 (e : Int)) := cell_at hh 2
  have f2 : w.frozen? ⟨g, 2, none⟩ = false := free_at hh 2
  have Hh := Lib.hid hh
  have HR := Lib.hid hr
  clear hh hr h3
  by_cases he : e = 0
  · subst he
    go_enter Try.func73, Try.ntmps73
    go_wp2
    go_end0
    refine ⟨rfl, ⟨v, bs, I, ?_, HR.out.set Hh.out (by decide) _, h1, h2, ?_⟩, grown_set w g 2 _⟩
    · rw [heap_set Hh.out 2]; rfl
    · show [] = _
      rw [if_neg (by simpa [failS] using hx)]
  · have q : ((e : Int) == 0) = false := by rw [beq_eq_false_iff_ne]; omega
    go_enter Try.func73, Try.ntmps73
    go_wp2
    go_end0
    refine ⟨rfl, ?_, grown_refl _ _⟩
    rw [failS_twice (s := (rs, e)) he]
    exact H.out

/-- What is left of the document's reader. -/
theorem Rf.opens {w : World} {lo g : Nat} {s : St} (h : Rf w lo g s) : ∃ A c bs I, w.cell? ⟨g, 0, none⟩ = some (.slice A bs.length c) ∧ w.cell? ⟨g, 1, none⟩ = some (.int .i64 ((I : Nat) : Int)) ∧ w.cell? ⟨g, 2, none⟩ = some (.int .i64 (s.2 : Int)) ∧
    Row w lo (.slice A bs.length c) bs ∧ bs.length ≤ c ∧ c ≤ maxLen ∧ I ≤ bs.length ∧ bs.length ≤ 1000000 ∧ s.1 = if s.2 = 0 then bs.drop I else [] := by
  obtain ⟨v, bs, I, hh, hr, h1, h2, h3⟩ := h
  obtain ⟨A, c, rfl, hc1, hc2, _⟩ := hr.shape
  exact ⟨A, c, bs, I, cell_at hh 0, cell_at hh 1, cell_at hh 2, hr, hc1, hc2, h1, h2, h3⟩


set_option maxHeartbeats 800000 in
theorem refEnd_any (lo g : Nat) (s : St) (w : World) (h : Rf w lo g s) :
    Calls Try.prog 49 #[.pointer (some ⟨g, 0, none⟩)] w fun e w' => e = .returned (.int .i64 (endS s : Int)) ∧ ∃ m, w' = w.drewN m := by
  obtain ⟨A, c, bs, I, c0, c1, c2, hr, hc1, hc2, h1, h2, h3⟩ := h.opens
  obtain ⟨rs, e⟩ := s
  have h3 : rs = if e = 0 then bs.drop I else [] := h3
  simp at c2
  clear hr h
  by_cases he : e = 0
  · subst he
    rw [if_pos rfl] at h3
    have hl : rs.length = bs.length - I := by rw [h3, List.length_drop]
    by_cases hb : I < bs.length
    · have Hn := Lib.hid (show endS (rs, 0) = 2 by simp only [endS]; rw [if_pos ⟨trivial, by omega⟩])
      have q : decide ((I : Int) < (bs.length : Int)) = true := decide_eq_true (by omega)
      clear h3 hl
      go_enter Try.func49, Try.ntmps49
      go_wp2
      go_quiet (fail)
      go_wp2
      go_ret
      rw [Hn.out]
      exact ⟨rfl, _, rfl⟩
    · have Hn := Lib.hid (show endS (rs, 0) = 0 by simp only [endS]; rw [if_neg (fun h => by have := h.2; omega)])
      have q : decide ((I : Int) < (bs.length : Int)) = false := decide_eq_false (by omega)
      clear h3 hl
      go_enter Try.func49, Try.ntmps49
      go_wp2
      go_quiet (fail)
      go_wp2
      go_ret
      rw [Hn.out]
      exact ⟨rfl, _, rfl⟩
  · have Hn := Lib.hid (show endS (rs, e) = e by simp [endS, he])
    have q : ((e : Int) == 0) = false := by rw [beq_eq_false_iff_ne]; omega
    clear h3
    go_enter Try.func49, Try.ntmps49
    go_wp2
    go_quiet (fail)
    go_wp2
    go_ret
    rw [Hn.out]
    exact ⟨rfl, _, rfl⟩
end Go.Proofs.Ytahgkhcmchbpbaa
