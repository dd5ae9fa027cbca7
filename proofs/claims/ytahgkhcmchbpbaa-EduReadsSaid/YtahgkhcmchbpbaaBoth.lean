/-
  Both readers in one state; what is laid is read; lists that came in.
-/
import Derived.Test.YtahgkhcmchbpbaaRefText
namespace Go.Proofs.Ytahgkhcmchbpbaa
open Go.RowKit
set_option linter.unusedVariables false
set_option linter.unusedSimpArgs false

/-- Both readers, in one state. -/
def Both (w : World) (g g' : Nat) (s : St) : Prop := Rd w 0 g s ∧ Rf w 0 g' s
theorem Rd.mono {w : World} {lo lo' g : Nat} {s : St} (h : Rd w lo g s) (hl : lo' ≤ lo) : Rd w lo' g s := by
  obtain ⟨⟨v, hh, hr⟩, ho⟩ := h
  exact ⟨⟨v, hh, hr.mono hl⟩, ho⟩
theorem Rf.mono {w : World} {lo lo' g : Nat} {s : St} (h : Rf w lo g s) (hl : lo' ≤ lo) : Rf w lo' g s := by
  obtain ⟨v, bs, I, hh, hr, r⟩ := h
  exact ⟨v, bs, I, hh, hr.mono hl, r⟩
theorem Rd.far {w : World} {lo g k i : Nat} {s : St} (h : Rd w lo g s) (hk : k < lo) (hne : g ≠ k) (u : Value) : Rd (w.setCell ⟨k, i, none⟩ u) lo g s := by
  obtain ⟨⟨v, hh, hr⟩, ho⟩ := h
  exact ⟨⟨v, (Below.heap_setCell w _ u g hne).trans hh, hr.keep fun g' _ hg' _ => Below.heap_setCell w _ u g' (by show g' ≠ k; omega)⟩, ho⟩
theorem Rf.far {w : World} {lo g k i : Nat} {s : St} (h : Rf w lo g s) (hk : k < lo) (hne : g ≠ k) (u : Value) : Rf (w.setCell ⟨k, i, none⟩ u) lo g s := by
  obtain ⟨v, bs, I, hh, hr, r⟩ := h
  exact ⟨v, bs, I, (Below.heap_setCell w _ u g hne).trans hh, hr.keep fun g' _ hg' _ => Below.heap_setCell w _ u g' (by show g' ≠ k; omega), r⟩
theorem Rf.other {w w' : World} {lo lo' g k : Nat} {s s' : St} (h : Rf w lo g s) (hk : Rd w lo' k s') (hg : w.grownBy w' (some k)) : Rf w' lo g s := by
  obtain ⟨v, bs, I, hh, hr, r⟩ := h
  obtain ⟨⟨v', hh', _⟩, _⟩ := hk
  have hne : g ≠ k := by
    rintro rfl
    rw [hh] at hh'
    injection hh' with hh'
    injection hh' with _ hh'
    exact absurd hh' (by decide)
  exact ⟨v, bs, I, (hg.block g (heap_lt hh) (fun e => hne (by injection e))).trans hh, hr.grown hg (not_bytes hh' (by decide)), r⟩
theorem Rd.otherR {w w' : World} {lo lo' g k : Nat} {s s' : St} (h : Rd w lo g s) (hk : Rf w lo' k s') (hg : w.grownBy w' (some k)) : Rd w' lo g s := by
  obtain ⟨⟨v, hh, hr⟩, ho⟩ := h
  obtain ⟨v', _, _, hh', _⟩ := hk
  have hne : g ≠ k := by
    rintro rfl
    rw [hh] at hh'
    injection hh' with hh'
    injection hh' with _ hh'
    exact absurd hh' (by decide)
  exact ⟨⟨v, (hg.block g (heap_lt hh) (fun e => hne (by injection e))).trans hh, hr.grown hg (not_bytes hh' (by decide))⟩, ho⟩
/-- A new one of the document's. -/
theorem Rf.new {w : World} {lo : Nat} {v : Value} {bs : List UInt8} (h : Row w lo v bs) (hl : bs.length ≤ 1000000) : Rf (w.alloc (.cells #[v, .int .i64 0, .int .i64 0] 67)) lo w.heap.size (bs, 0) :=
  ⟨v, bs, 0, heap_alloc_new w _, h.below (below_new w _), Nat.zero_le _, hl, by simp⟩
theorem MadeB.own {w : World} {B : Nat} {A : Option Addr} {n c : Nat} {ts : List UInt8} (h : MadeB w B (.slice A n c) ts) (h0 : 0 < n) : ∃ g, A = some ⟨g, 0, none⟩ ∧ B ≤ g ∧ Own w g c ts ∧ n = ts.length := by
  rcases h with ⟨h, _⟩ | ⟨g, cap, h, hB, ho⟩
  · injection h with _ h _
    omega
  · injection h with e1 e2 e3
    subst e1 e2 e3
    exact ⟨g, rfl, hB, ho, rfl⟩
theorem Rf.e {w : World} {lo g : Nat} {s : St} (h : Rf w lo g s) : w.cell? ⟨g, 2, none⟩ = some (.int .i64 (s.2 : Int)) := by
  obtain ⟨v, bs, I, hh, _⟩ := h
  exact cell_at hh 2
theorem Both.later {w w' : World} {g g' : Nat} {s : St} (h : Both w g g' s) (hb : Below w.heap.size w w') : Both w' g g' s := ⟨h.1.below hb, h.2.below hb⟩
theorem Both.drewN {w : World} {g g' : Nat} {s : St} (h : Both w g g' s) (n : Nat) : Both (w.drewN n) g g' s := h

theorem quiet_left {P : Program} {f : FuncId} {args : Array Value} {w : World} {n : Nat} {v : Value}
    (h : Calls P f args (w.drewN n) fun e w' => e = .returned v ∧ w.drewN n = w') : Calls P f args (w.drewN n) fun e w'' => e = .returned v ∧ ∃ m, w'' = w.drewN m :=
  h.mono fun _ _ ⟨he, hm⟩ => ⟨he, n, hm.symm⟩

theorem textS_len (s : St) (m : Int) : (textS s m).2.1.length ≤ s.1.length := by
  have h1 := numS_len s
  unfold textS
  simp only
  have h2 : (if m < ((numS s).1 : Int) then failS (numS s).2 2 else (numS s).2).1.length ≤ s.1.length := by
    split
    · exact Nat.le_trans (failS_len _ _) h1
    · exact h1
  generalize (if m < ((numS s).1 : Int) then failS (numS s).2 2 else (numS s).2) = q at h2 ⊢
  have h3 : (if q.1.length < (numS s).1 then failS q 3 else q).1.length ≤ s.1.length := by
    split
    · exact Nat.le_trans (failS_len _ _) h2
    · exact h2
  generalize (if q.1.length < (numS s).1 then failS q 3 else q) = r at h3 ⊢
  split
  · rw [List.length_drop]; omega
  · exact h3
theorem flagS_len (s : St) : (flagS s).2.1.length ≤ s.1.length := by
  obtain ⟨bs, e⟩ := s
  cases bs with
  | nil => exact failS_len _ _
  | cons b r =>
    unfold flagS
    simp only
    split
    · have := failS_len (r, e) 2
      simp only [List.length_cons] at *
      omega
    · simp

theorem add_any (p q : ByteArray) (hp : p.size ≤ 10000) (hq : q.size ≤ 10000) (w : World) : (Op.stringOp .add p q).run Try.prog w = .ok (.string (p ++ q)) w := run_string_add_sum w p q (by omega)
/-- A list that came in, its elements one cell each. -/
def ListAt (w : World) (a : Option Addr) (len : Nat) (f : Nat → Value) : Prop := len = 0 ∨ ∃ b off, a = some ⟨b, off, none⟩ ∧ ∀ j, j < len → w.cell? ⟨b, off + j, none⟩ = some (f j)
theorem ListAt.get {w : World} {a : Option Addr} {len : Nat} {f : Nat → Value} (h : ListAt w a len f) {k : Nat} (hk : k < len) : ∃ b off, a = some ⟨b, off, none⟩ ∧ b < w.heap.size ∧ w.cell? ⟨b, off + k, none⟩ = some (f k) := by
  rcases h with h | ⟨b, off, ha, h⟩
  · omega
  · exact ⟨b, off, ha, World.block_lt_of_cell? w _ (h k hk), h k hk⟩

theorem textS_text (f : ByteArray) (h : f.size ≤ 20) (r : List UInt8) : textS (textB f ++ r, 0) 20 = (f.data.toList, (r, 0)) := by
  have hn := numS_digs f.size (Nat.lt_of_le_of_lt h (by decide)) (f.data.toList ++ r) 0
  have hl : f.data.toList.length = f.size := by rw [Array.length_toList]; rfl
  unfold textB
  rw [List.append_assoc]
  rw [textS_take (n := f.size) (s1 := (f.data.toList ++ r, 0)) (by rw [hn]) (by rw [hn]) (by omega) (by simp only [List.length_append]; omega) rfl]
  simp only
  rw [← hl, List.take_left, List.drop_left]
theorem flagS_flag (b : Bool) (r : List UInt8) : flagS (flagB b ++ r, 0) = (b, (r, 0)) := by
  cases b <;> rfl

end Go.Proofs.Ytahgkhcmchbpbaa
