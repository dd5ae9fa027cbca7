/-
  What package lay's reader does, call by call: what each call answers, what is left, which error is the first one; nothing but the reader itself is turned.
-/
import Derived.Test.YtahgkhcmchbpbaaArg
namespace Go.Proofs.Ytahgkhcmchbpbaa
open Go.RowKit
set_option linter.unusedVariables false
set_option linter.unusedSimpArgs false

theorem cell_at {w : World} {g : Nat} {cs : Array Value} {t : TypeId} (h : w.heap[g]? = some (.cells cs t (0, 0))) (i : Nat) : w.cell? ⟨g, i, none⟩ = cs[i]? := cell_of_row w g i cs t (0, 0) h
theorem free_at {w : World} {g : Nat} {cs : Array Value} {t : TypeId} (h : w.heap[g]? = some (.cells cs t (0, 0))) (i : Nat) : w.frozen? ⟨g, i, none⟩ = false := by simp [World.frozen?, h]
theorem heap_set {w : World} {g : Nat} {cs : Array Value} {t : TypeId} (h : w.heap[g]? = some (.cells cs t (0, 0))) (i : Nat) (u : Value) : (w.setCell ⟨g, i, none⟩ u).heap[g]? = some (.cells (cs.setIfInBounds i u) t (0, 0)) := by
  simp [World.setCell, Array.getElem?_modify, h]
theorem grown_set (w : World) (g i : Nat) (u : Value) : w.grownBy (w.setCell ⟨g, i, none⟩ u) (some g) :=
  ⟨rfl, rfl, rfl, by simp [World.setCell], fun k hk hne => Below.heap_setCell w _ u k (fun e => hne (by rw [e]))⟩
theorem grown_trans {a b c : World} {g : Nat} (h : a.grownBy b (some g)) (k : b.grownBy c (some g)) : a.grownBy c (some g) :=
  ⟨k.os.trans h.os, k.tape.trans h.tape, k.output.trans h.output, Nat.le_trans h.size k.size, fun i hi hne => (k.block i (Nat.lt_of_lt_of_le hi h.size) hne).trans (h.block i hi hne)⟩
theorem grown_refl (w : World) (g : Nat) : w.grownBy w (some g) := ⟨rfl, rfl, rfl, Nat.le_refl _, fun _ _ _ => rfl⟩
theorem grown_below {a b : World} (h : Below a.heap.size a b) (g : Nat) : a.grownBy b (some g) := ⟨h.os, h.tape, h.output, h.size, fun i hi _ => h.block i hi⟩
theorem grown_drew {a b : World} {g : Nat} (h : a.grownBy b (some g)) (n : Nat) : a.grownBy (b.drewN n) (some g) := ⟨h.os, h.tape, h.output, h.size, h.block⟩

/-- The rest of a row, and its head. -/
theorem Row.tail {w : World} {lo g off c n : Nat} {bs : List UInt8} (h : Row w lo (.slice (some ⟨g, off, none⟩) bs.length c) bs) (hn : n ≤ bs.length) :
    Row w lo (.slice (if c = n then some ⟨g, off, none⟩ else some ⟨g, off + n, none⟩) (bs.length - n) (c - n)) (bs.drop n) := by
  rcases h with ⟨h, _⟩ | ⟨g', off', c', cur, hv, hg, hh, h1, h2, h3⟩
  · cases h
  · injection hv with ha hb hc
    injection ha with ha
    injection ha with e1 e2 _
    subst e1 e2 hc
    have hl : (bs.drop n).length = bs.length - n := List.length_drop
    split
    · rename_i hc
      have h0 : bs.drop n = [] := by rw [List.drop_eq_nil_iff]; omega
      exact .inr ⟨g, off, c - n, cur, by rw [hl], hg, hh, by omega, by omega, by simp [h0, bVs]⟩
    · refine .inr ⟨g, off + n, c - n, cur, by rw [hl], hg, hh, by omega, by omega, ?_⟩
      rw [hl]
      have := congrArg (List.drop n) h3
      rw [List.drop_take, List.drop_drop] at this
      rw [this]
      simp [bVs]
theorem Row.head {w : World} {lo g off c n : Nat} {bs : List UInt8} (h : Row w lo (.slice (some ⟨g, off, none⟩) bs.length c) bs) (hn : n ≤ bs.length) :
    Row w lo (.slice (some ⟨g, off, none⟩) n c) (bs.take n) := by
  rcases h with ⟨h, _⟩ | ⟨g', off', c', cur, hv, hg, hh, h1, h2, h3⟩
  · cases h
  · injection hv with ha hb hc
    injection ha with ha
    injection ha with e1 e2 _
    subst e1 e2 hc
    have hl : (bs.take n).length = n := by rw [List.length_take]; omega
    refine .inr ⟨g, off, c, cur, by rw [hl], hg, hh, by omega, h2, ?_⟩
    rw [hl]
    have := congrArg (List.take n) h3
    rw [List.take_take, Nat.min_eq_left hn] at this
    rw [this]
    simp [bVs]

theorem Row.set {w : World} {lo g i : Nat} {v : Value} {bs : List UInt8} {cs : Array Value} {t : TypeId} (h : Row w lo v bs) (hh : w.heap[g]? = some (.cells cs t (0, 0))) (ht : t ≠ 5) (u : Value) : Row (w.setCell ⟨g, i, none⟩ u) lo v bs :=
  h.grown (grown_set w g i u) (fun cur hc => by rw [hh] at hc; injection hc with hc; injection hc with _ hc; exact ht hc)

def RdPost (w : World) (lo g : Nat) (r : Value) (s : St) (e : Ending) (w' : World) : Prop := e = .returned r ∧ Rd w' lo g s ∧ w.grownBy w' (some g)

set_option maxHeartbeats 800000 in
theorem fail_any (lo g : Nat) (s : St) (x : Nat) (w : World) (h : Rd w lo g s) (hx : x ≠ 0) (hx2 : x ≤ 9) :
    Calls Try.prog 71 #[.pointer (some ⟨g, 0, none⟩), .int .i64 (x : Int)] w (RdPost w lo g (.tuple #[]) (failS s x)) := by
  have H := Lib.hid h
  obtain ⟨⟨v, hh, hr⟩, ho⟩ := h
  obtain ⟨bs, e⟩ := s
  have c0 : w.cell? ⟨g, 0, none⟩ = some v := cell_at hh 0
  have c1 : w.cell? ⟨g, 1, none⟩ = some (.int .i64 (e : Int)) := cell_at hh 1
  have f0 : w.frozen? ⟨g, 0, none⟩ = false := free_at hh 0
  have f1 : w.frozen? ⟨g, 1, none⟩ = false := free_at hh 1
  obtain ⟨A, c, rfl, _⟩ := hr.shape
  have Hh := Lib.hid hh
  clear hh hr ho
  by_cases he : e = 0
  · subst he
    go_enter Try.func71, Try.ntmps71
    go_wp2
    go_end0
    refine ⟨rfl, ⟨⟨.slice none 0 0, ?_, ?_⟩, ?_⟩, grown_trans (grown_set w g 1 _) (grown_set _ g 0 _)⟩
    · rw [heap_set (heap_set Hh.out 1 _) 0]; rfl
    · exact Row.nil _ _
    · exact fun _ => rfl
  · have q : ((e : Int) == 0) = false := by rw [beq_eq_false_iff_ne]; omega
    go_enter Try.func71, Try.ntmps71
    go_wp2
    go_end0
    refine ⟨rfl, ?_, grown_refl _ _⟩
    rw [show failS (bs, e) x = (bs, e) by simp [failS, he]]
    exact H.out

set_option maxHeartbeats 800000 in
theorem take_any (lo g : Nat) (s : St) (n : Nat) (w : World) (h : Rd w lo g s) (hn : n ≤ s.1.length) (hl : s.1.length ≤ 1000000) (he : s.2 = 0) :
    Calls Try.prog 72 #[.pointer (some ⟨g, 0, none⟩), .int .i64 (n : Int)] w fun e w' => (∃ v, e = .returned v ∧ Row w' lo v (s.1.take n)) ∧ Rd w' lo g (s.1.drop n, 0) ∧ w.grownBy w' (some g) := by
  obtain ⟨⟨v, hh, hr⟩, ho⟩ := h
  obtain ⟨bs, e⟩ := s
  obtain rfl : e = 0 := he
  have c0 : w.cell? ⟨g, 0, none⟩ = some v := cell_at hh 0
  have f0 : w.frozen? ⟨g, 0, none⟩ = false := free_at hh 0
  have hr' := hr
  simp at hn hl
  rcases hr with ⟨rfl, hb⟩ | ⟨g2, off, c, cur, rfl, hg, hh2, h1, h2, h3⟩
  · simp at hb
    subst hb
    obtain rfl : n = 0 := by simpa using hn
    have Hh := Lib.hid hh
    clear hh ho hr'
    go_enter Try.func72, Try.ntmps72
    go_wp2
    go_ret
    refine ⟨⟨_, rfl, Row.nil _ _⟩, ⟨⟨.slice none 0 0, ?_, Row.nil _ _⟩, fun he => absurd rfl he⟩, grown_set _ _ _ _⟩
    rw [heap_set Hh.out 0]; rfl
  · have Hh := Lib.hid hh
    have HT := Lib.hid (hr'.tail (n := n) hn)
    have HH := Lib.hid (hr'.head (n := n) hn)
    clear hh ho hr' hh2 h3
    unfold maxLen at h2
    simp at h1 c0
    by_cases hcn : c = n
    · subst hcn
      rw [if_pos rfl] at HT
      go_enter Try.func72, Try.ntmps72
      go_wp2
      go_ret
      refine ⟨⟨_, rfl, HH.out.set Hh.out (by decide) _⟩, ⟨⟨_, ?_, HT.out.set Hh.out (by decide) _⟩, fun he => absurd rfl he⟩, grown_set _ _ _ _⟩
      rw [heap_set Hh.out 0]
      first | rfl | (simp; omega)
    · rw [if_neg hcn] at HT
      go_enter Try.func72, Try.ntmps72
      go_wp2
      go_ret
      refine ⟨⟨_, rfl, HH.out.set Hh.out (by decide) _⟩, ⟨⟨_, ?_, HT.out.set Hh.out (by decide) _⟩, fun he => absurd rfl he⟩, grown_set _ _ _ _⟩
      rw [heap_set Hh.out 0]
      first | rfl | (simp; omega)



set_option maxHeartbeats 800000 in
theorem end_any (lo g : Nat) (s : St) (w : World) (h : Rd w lo g s) (hl : s.1.length ≤ 1000000) :
    Calls Try.prog 45 #[.pointer (some ⟨g, 0, none⟩)] w fun e w' => e = .returned (.int .i64 (endS s : Int)) ∧ w = w' := by
  obtain ⟨⟨v, hh, hr⟩, ho⟩ := h
  obtain ⟨bs, e⟩ := s
  have c0 : w.cell? ⟨g, 0, none⟩ = some v := cell_at hh 0
  have c1 : w.cell? ⟨g, 1, none⟩ = some (.int .i64 (e : Int)) := cell_at hh 1
  obtain ⟨A, c, rfl, _⟩ := hr.shape
  clear hh hr ho
  simp at c0 hl
  by_cases he : e = 0
  · subst he
    by_cases hb : 0 < bs.length
    · have Hn := Lib.hid (show endS (bs, 0) = 2 by simp [endS, hb])
      have q : decide ((0 : Int) < (bs.length : Int)) = true := by simp; omega
      go_enter Try.func45, Try.ntmps45
      go_wp2
      go_ret
      rw [Hn.out]
      exact ⟨rfl, rfl⟩
    · have Hn := Lib.hid (show endS (bs, 0) = 0 by simp only [endS]; rw [if_neg (fun h => hb h.2)])
      have q : decide ((0 : Int) < (bs.length : Int)) = false := decide_eq_false (by omega)
      go_enter Try.func45, Try.ntmps45
      go_wp2
      go_ret
      rw [Hn.out]
      exact ⟨rfl, rfl⟩
  · have Hn := Lib.hid (show endS (bs, e) = e by simp [endS, he])
    have q : ((e : Int) == 0) = false := by rw [beq_eq_false_iff_ne]; omega
    go_enter Try.func45, Try.ntmps45
    go_wp2
    go_ret
    rw [Hn.out]
    exact ⟨rfl, rfl⟩
end Go.Proofs.Ytahgkhcmchbpbaa
