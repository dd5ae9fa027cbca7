/-
  The document's numbers, texts, flags, and its reader.
-/
import Derived.Test.YtnabbebkmafakaaMC
import Derived.Deep.QuietTactic
import Derived.BigQuiet
namespace Go.Proofs.Ytnabbebkmafakaa
set_option maxRecDepth 20000
open Go.RowKit
set_option linter.unusedVariables false
set_option linter.unusedSimpArgs false

theorem below_new (w : World) (o : Obj) : Below w.heap.size w (w.alloc o) := (Below.refl _ w).alloc (Nat.le_refl _) o
theorem put_one (w : World) (x : UInt8) (c : Int) (hc : (x.toNat : Int) = c) : PutPost w [x] (.returned (.slice (some ⟨w.heap.size, 0, none⟩) 1 1)) (w.alloc (.cells #[.int .u8 c] 5)) :=
  ⟨⟨w.heap.size, 1, rfl, Nat.le_refl _, own_new w [x] _ 1 rfl (by subst hc; rfl) (by decide) _ rfl⟩, below_new _ _⟩

set_option maxHeartbeats 1600000 in
theorem refNumber_nat : ∀ (k N : Nat) (w : World), N < 128 ^ (k + 1) → N < 9223372036854775808 → Calls Try.prog 37 #[.int .i64 (N : Int)] w (PutPost w (digs N)) := by
  intro k
  induction k with
  | zero =>
    intro N w h1 h2
    have h3 : N < 128 := by simpa using h1
    have Hd := Lib.hid (digs_small h3)
    have HC := Lib.hid (show (((UInt8.ofNat N).toNat : Nat) : Int) = (N : Int) by rw [toNat_ofNat (by omega)])
    clear h1
    have q0 : decide ((N : Int) < 0) = false := decide_eq_false (by omega)
    have q1 : decide ((N : Int) < 128) = true := decide_eq_true (by omega)
    go_enter Try.func37, Try.ntmps37
    go_wp2_with fail
    go_ret
    rw [Hd.out]
    exact put_one w _ _ HC.out
  | succ k ih =>
    intro N w h1 h2
    by_cases h3 : N < 128
    · have Hd := Lib.hid (digs_small h3)
      have HC := Lib.hid (show (((UInt8.ofNat N).toNat : Nat) : Int) = (N : Int) by rw [toNat_ofNat (by omega)])
      clear ih h1
      have q0 : decide ((N : Int) < 0) = false := decide_eq_false (by omega)
      have q1 : decide ((N : Int) < 128) = true := decide_eq_true (by omega)
      go_enter Try.func37, Try.ntmps37
      go_wp2_with fail
      go_ret
      rw [Hd.out]
      exact put_one w _ _ HC.out
    · have Hd := Lib.hid (digs_great h3)
      have HC : (((UInt8.ofNat (128 + N % 128)).toNat : Nat) : Int) = 128 + (N : Int) % 128 := by rw [toNat_ofNat (by omega)]; omega
      have HO := Lib.hid (own_new w [UInt8.ofNat (128 + N % 128)] #[.int .u8 (128 + (N : Int) % 128)] 1 rfl (by rw [← HC]; rfl) (by decide) _ rfl)
      have HB := Lib.hid (below_new w (.cells #[.int .u8 (128 + (N : Int) % 128)] 5))
      have HI := Lib.hid (ih (N / 128) (w.alloc (.cells #[.int .u8 (128 + (N : Int) % 128)] 5)) (by rw [Nat.div_lt_iff_lt_mul (by decide), ← Nat.pow_succ]; exact h1) (by omega))
      have hq : (digs (N / 128)).length ≤ 9 := len_digs _ (by rw [pow128_9]; omega)
      clear ih HC h1
      have q0 : decide ((N : Int) < 0) = false := decide_eq_false (by omega)
      have q1 : decide ((N : Int) < 128) = false := decide_eq_false (by omega)
      generalize hqs : digs (N / 128) = qs at *
      go_enter Try.func37, Try.ntmps37
      go_wp2_with fail
      refine HI.out.mono ?_
      rintro e w1 ⟨⟨g1, cap1, rfl, hg1, ho1⟩, hb1⟩
      have HO1 := Lib.hid (HO.out.below hb1)
      have HS1 := Lib.hid (Src.ofRow (n := qs.length) rfl (ho1.row (lo := 0) (Nat.zero_le _)))
      have HB1 := Lib.hid (later HB.out hb1)
      clear ho1 hb1 HI
      go_wp2_with (at_builtin; refine wpList_puts rfl (.tmp 16) (.tmp 19) _ rfl rfl (.inr ⟨w.heap.size, 1, rfl, Nat.le_refl _, HO1.out⟩) HB1.out.size (.slice (some ⟨g1, 0, none⟩) qs.length cap1) qs.length qs rfl rfl HS1.out (.inr ⟨w.heap.size, 1, rfl, Nat.le_refl _, HO1.out⟩) (by simp; omega) ?_; rintro g2 cap2 w2 hg2 ho2 hb2)
      go_ret
      rw [Hd.out]
      refine ⟨⟨g2, cap2, ?_, hg2, ho2⟩, HB1.out.trans hb2⟩
      rw [List.length_cons, Nat.add_comm]
      rfl

set_option maxHeartbeats 800000 in
theorem refNumber_put (n : Int) (w : World) (h0 : -9223372036854775808 ≤ n) (h1 : n ≤ 9223372036854775807) : Calls Try.prog 37 #[.int .i64 n] w (PutPost w (digs (natI n))) := by
  by_cases hn : n < 0
  · have Hd := Lib.hid (show digs (natI n) = [0] by rw [show natI n = 0 by unfold natI; omega, digs_small (by decide)]; rfl)
    go_enter Try.func37, Try.ntmps37
    go_wp2_with fail
    go_ret
    rw [Hd.out]
    exact put_one w 0 0 rfl
  · obtain ⟨N, rfl⟩ := Int.eq_ofNat_of_zero_le (show 0 ≤ n by omega)
    exact refNumber_nat 8 N w (by rw [show 8 + 1 = 9 from rfl, pow128_9]; omega) (by omega)

set_option maxHeartbeats 800000 in
theorem refText_put (s : ByteArray) (w : World) (hs : s.size ≤ 1000000) : Calls Try.prog 36 #[.string s] w (PutPost w (textB s)) := by
  have HN := Lib.hid (refNumber_nat 8 s.size w (Nat.lt_of_le_of_lt hs (by decide)) (by omega))
  have hd := len_digs s.size (Nat.lt_of_le_of_lt hs (by decide))
  have Hx := Lib.hid (show textB s = digs s.size ++ s.data.toList from rfl)
  have Hy := Lib.hid (textB_len s)
  generalize digs s.size = xs at *
  go_enter Try.func36, Try.ntmps36
  go_wp2_with fail
  refine HN.out.mono ?_
  rintro e w1 ⟨⟨g, cap, rfl, hg, ho⟩, hb⟩
  have Ho := Lib.hid ho
  have Hb := Lib.hid hb
  clear ho hb HN
  go_wp2_with (at_builtin; refine wpList_puts rfl (.tmp 5) (.tmp 6) _ rfl rfl (.inr ⟨g, cap, rfl, hg, Ho.out⟩) Hb.out.size (.string s) s.size s.data.toList rfl (by rw [Array.length_toList]; rfl) (Src.ofString _ Try.underlying9 s) (.inr ⟨g, cap, rfl, hg, Ho.out⟩) (by omega) ?_; rintro g2 cap2 w2 hg2 ho2 hb2)
  go_ret
  refine ⟨⟨g2, cap2, ?_, hg2, own_cast ho2 Hx.out.symm⟩, Hb.out.trans hb2⟩
  rw [Hy.out]
  rfl

theorem refFlag_put (is : Bool) (w : World) : Calls Try.prog 35 #[.bool is] w (PutPost w (flagB is)) := by
  cases is
  · go_enter Try.func35, Try.ntmps35
    go_wp2_with fail
    go_ret
    exact put_one w 0 0 rfl
  · go_enter Try.func35, Try.ntmps35
    go_wp2_with fail
    go_ret
    exact put_one w 1 1 rfl
end Go.Proofs.Ytnabbebkmafakaa

namespace Go.Proofs.Ytnabbebkmafakaa
set_option maxRecDepth 20000
open Go.RowKit
set_option linter.unusedVariables false
set_option linter.unusedSimpArgs false

/-- The document's reader: its bytes, its place, its first error. -/
def Rf (w : World) (lo g : Nat) (s : St) : Prop :=
  ∃ v bs I, w.heap[g]? = some (.cells #[v, .int .i64 ((I : Nat) : Int), .int .i64 (s.2 : Int)] 68 (0, 0)) ∧ Row w lo v bs ∧ I ≤ bs.length ∧ bs.length ≤ 1000000 ∧ s.1 = if s.2 = 0 then bs.drop I else []
theorem Rf.below {w w' : World} {lo g : Nat} {s : St} (h : Rf w lo g s) (hb : Below w.heap.size w w') : Rf w' lo g s := by
  obtain ⟨v, bs, I, hh, hr, r⟩ := h
  exact ⟨v, bs, I, (hb.block g (heap_lt hh)).trans hh, hr.below hb, r⟩
theorem Rf.drewN {w : World} {lo g : Nat} {s : St} (h : Rf w lo g s) (n : Nat) : Rf (w.drewN n) lo g s := h
theorem Rd.drewN {w : World} {lo g : Nat} {s : St} (h : Rd w lo g s) (n : Nat) : Rd (w.drewN n) lo g s := h
theorem Rf.len {w : World} {lo g : Nat} {s : St} (h : Rf w lo g s) : s.1.length ≤ 1000000 := by
  obtain ⟨v, bs, I, hh, hr, h1, h2, h3⟩ := h
  rw [h3]
  split
  · rw [List.length_drop]; omega
  · exact Nat.zero_le _
theorem Rf.ok {w : World} {lo g : Nat} {s : St} (h : Rf w lo g s) : Ok s := by
  obtain ⟨v, bs, I, hh, hr, h1, h2, h3⟩ := h
  intro he
  rw [h3, if_neg he]

def RfPost (w : World) (lo g : Nat) (r : Value) (s : St) (e : Ending) (w' : World) : Prop := e = .returned r ∧ Rf w' lo g s ∧ w.grownBy w' (some g)

set_option maxHeartbeats 800000 in
theorem refFail_any (lo g : Nat) (s : St) (x : Nat) (w : World) (h : Rf w lo g s) (hx : x ≠ 0) (hx2 : x ≤ 9) :
    Calls Try.prog 64 #[.pointer (some ⟨g, 0, none⟩), .int .i64 (x : Int)] w (RfPost w lo g (.tuple #[]) (failS s x)) := by
  have H := Lib.hid h
  obtain ⟨v, bs, I, hh, hr, h1, h2, h3⟩ := h
  obtain ⟨rs, e⟩ := s
  have c2 : w.cell? ⟨g, 2, none⟩ = some (.int .i64 (e : Int)) := cell_at hh 2
  have f2 : w.frozen? ⟨g, 2, none⟩ = false := free_at hh 2
  have Hh := Lib.hid hh
  have HR := Lib.hid hr
  clear hh hr h3
  by_cases he : e = 0
  · subst he
    go_enter Try.func64, Try.ntmps64
    go_wp2
    go_end0
    refine ⟨rfl, ⟨v, bs, I, ?_, HR.out.set Hh.out (by decide) _, h1, h2, ?_⟩, grown_set w g 2 _⟩
    · rw [heap_set Hh.out 2]; rfl
    · show [] = _
      rw [if_neg (by simpa [failS] using hx)]
  · have q : ((e : Int) == 0) = false := by rw [beq_eq_false_iff_ne]; omega
    go_enter Try.func64, Try.ntmps64
    go_wp2
    go_end0
    refine ⟨rfl, ?_, grown_refl _ _⟩
    rw [failS_twice (s := (rs, e)) he]
    exact H.out

/-- What is left of the document's reader. -/
theorem Rf.opens {w : World} {lo g : Nat} {s : St} (h : Rf w lo g s) : ∃ A c bs I, w.cell? ⟨g, 0, none⟩ = some (.slice A bs.length c) ∧ w.cell? ⟨g, 1, none⟩ = some (.int .i64 ((I : Nat) : Int)) ∧ w.cell? ⟨g, 2, none⟩ = some (.int .i64 (s.2 : Int)) ∧
    Row w lo (.slice A bs.length c) bs ∧ bs.length ≤ c ∧ c ≤ maxLen ∧ I ≤ bs.length ∧ bs.length ≤ 1000000 ∧ s.1 = if s.2 = 0 then bs.drop I else [] := by
  obtain ⟨v, bs, I, hh, hr, h1, h2, h3⟩ := h
  obtain ⟨A, c, rfl, hc1, hc2, _⟩ := hr.shape
  exact ⟨A, c, bs, I, cell_at hh 0, cell_at hh 1, cell_at hh 2, hr, hc1, hc2, h1, h2, h3⟩


set_option maxHeartbeats 800000 in
theorem refEnd_any (lo g : Nat) (s : St) (w : World) (h : Rf w lo g s) :
    Calls Try.prog 45 #[.pointer (some ⟨g, 0, none⟩)] w fun e w' => e = .returned (.int .i64 (endS s : Int)) ∧ ∃ m, w' = w.drewN m := by
  obtain ⟨A, c, bs, I, c0, c1, c2, hr, hc1, hc2, h1, h2, h3⟩ := h.opens
  obtain ⟨rs, e⟩ := s
  have h3 : rs = if e = 0 then bs.drop I else [] := h3
  simp at c2
  clear hr h
  by_cases he : e = 0
  · subst he
    rw [if_pos rfl] at h3
    have hl : rs.length = bs.length - I := by rw [h3, List.length_drop]
    by_cases hb : I < bs.length
    · have Hn := Lib.hid (show endS (rs, 0) = 2 by simp only [endS]; rw [if_pos ⟨trivial, by omega⟩])
      have q : decide ((I : Int) < (bs.length : Int)) = true := decide_eq_true (by omega)
      clear h3 hl
      go_enter Try.func45, Try.ntmps45
      go_wp2
      go_quiet (fail)
      go_wp2
      go_ret
      rw [Hn.out]
      exact ⟨rfl, _, rfl⟩
    · have Hn := Lib.hid (show endS (rs, 0) = 0 by simp only [endS]; rw [if_neg (fun h => by have := h.2; omega)])
      have q : decide ((I : Int) < (bs.length : Int)) = false := decide_eq_false (by omega)
      clear h3 hl
      go_enter Try.func45, Try.ntmps45
      go_wp2
      go_quiet (fail)
      go_wp2
      go_ret
      rw [Hn.out]
      exact ⟨rfl, _, rfl⟩
  · have Hn := Lib.hid (show endS (rs, e) = e by simp [endS, he])
    have q : ((e : Int) == 0) = false := by rw [beq_eq_false_iff_ne]; omega
    clear h3
    go_enter Try.func45, Try.ntmps45
    go_wp2
    go_quiet (fail)
    go_wp2
    go_ret
    rw [Hn.out]
    exact ⟨rfl, _, rfl⟩
end Go.Proofs.Ytnabbebkmafakaa

namespace Go.Proofs.Ytnabbebkmafakaa
set_option maxRecDepth 20000
open Go.RowKit
set_option linter.unusedVariables false
set_option linter.unusedSimpArgs false

theorem grown_drewN (w : World) (n g : Nat) : w.grownBy (w.drewN n) (some g) := ⟨rfl, rfl, rfl, Nat.le_refl _, fun _ _ _ => rfl⟩
theorem grown_pre {w w' : World} {n g : Nat} (h : (w.drewN n).grownBy w' (some g)) : w.grownBy w' (some g) := ⟨h.os, h.tape, h.output, h.size, h.block⟩

/-- The reader goes on by so many bytes. -/
theorem Rf.goes {w : World} {lo g I k : Nat} {v : Value} {bs : List UInt8} (hh : w.heap[g]? = some (.cells #[v, .int .i64 (I : Int), .int .i64 0] 68 (0, 0))) (hr : Row w lo v bs) (hk : I + k ≤ bs.length) (hl : bs.length ≤ 1000000) (J : Int) (hJ : J = ((I + k : Nat) : Int)) :
    Rf (w.setCell ⟨g, 1, none⟩ (.int .i64 J)) lo g (bs.drop (I + k), 0) := by
  subst hJ
  refine ⟨v, bs, I + k, ?_, hr.set hh (by decide) _, hk, hl, by simp⟩
  rw [heap_set hh 1]
  rfl
theorem Rf.heap {w : World} {lo g : Nat} {s : St} (h : Rf w lo g s) : ∃ A c bs I, w.heap[g]? = some (.cells #[.slice A bs.length c, .int .i64 ((I : Nat) : Int), .int .i64 (s.2 : Int)] 68 (0, 0)) ∧
    Row w lo (.slice A bs.length c) bs ∧ bs.length ≤ c ∧ c ≤ maxLen ∧ I ≤ bs.length ∧ bs.length ≤ 1000000 ∧ s.1 = if s.2 = 0 then bs.drop I else [] := by
  obtain ⟨v, bs, I, hh, hr, h1, h2, h3⟩ := h
  obtain ⟨A, c, rfl, hc1, hc2, _⟩ := hr.shape
  exact ⟨A, c, bs, I, hh, hr, hc1, hc2, h1, h2, h3⟩

set_option maxHeartbeats 1600000 in
theorem refFlagR_any (lo g : Nat) (s : St) (w : World) (h : Rf w lo g s) :
    Calls Try.prog 41 #[.pointer (some ⟨g, 0, none⟩)] w (RfPost w lo g (.bool (flagS s).1) (flagS s).2) := by
  have H := Lib.hid h
  obtain ⟨A, c, bs, I, hh, hr, hc1, hc2, h1, h2, h3⟩ := h.heap
  obtain ⟨rs, e⟩ := s
  replace h3 : rs = if e = 0 then bs.drop I else [] := h3
  have c0 : w.cell? ⟨g, 0, none⟩ = some (.slice A bs.length c) := cell_at hh 0
  have c1 : w.cell? ⟨g, 1, none⟩ = some (.int .i64 (I : Int)) := cell_at hh 1
  have c2 : w.cell? ⟨g, 2, none⟩ = some (.int .i64 (e : Int)) := cell_at hh 2
  have f1 : w.frozen? ⟨g, 1, none⟩ = false := free_at hh 1
  have Hh := Lib.hid hh
  have HR := Lib.hid hr
  clear hh hr h
  by_cases he : e = 0
  · subst he
    rw [if_pos rfl] at h3
    by_cases hI : I < bs.length
    · obtain ⟨g2, off, c', hA, _, _, _, hcell⟩ := HR.out.addr (by omega)
      injection hA with hA1 hA2 hA3
      subst hA1
      obtain ⟨x, hx⟩ : ∃ x, bs[I]? = some x := ⟨_, List.getElem?_eq_getElem hI⟩
      have hc := hcell I x hx
      unfold bV at hc
      have hrs : rs = x :: bs.drop (I + 1) := by
        rw [h3, List.drop_eq_getElem_cons hI]
        rw [List.getElem?_eq_getElem hI] at hx
        injection hx with hx
        rw [hx]
      have hx2 : (x.toNat : Int) ≤ 255 := by have := x.toNat_lt; omega
      have Hf := Lib.hid (show flagS (rs, 0) = (x.toNat == 1, if 1 < x.toNat then failS (bs.drop (I + 1), 0) 2 else (bs.drop (I + 1), 0)) by rw [hrs]; rfl)
      have qI : decide ((bs.length : Int) ≤ (I : Int)) = false := decide_eq_false (by omega)
      clear hcell hx hrs h3
      by_cases hb : 1 < x.toNat
      · rw [if_pos hb] at Hf
        have q1 : decide ((1 : Int) < (x.toNat : Int)) = true := decide_eq_true (by omega)
        have Q3 := Lib.hid (show (x.toNat == 1) = false by rw [beq_eq_false_iff_ne]; omega)
        go_enter Try.func41, Try.ntmps41
        go_wp2_with fail
        go_quiet (fail)
        go_wp2_with fail
        go_quiet (fail)
        go_wp2_with fail
        refine (refFail_any lo g (rs, 0) 2 _ (H.out.drewN _) (by decide) (by decide)).mono ?_
        rintro e' w2 ⟨rfl, hr2, hg2⟩
        have HR2 := Lib.hid hr2
        have HG2 := Lib.hid (grown_pre hg2)
        clear hr2 hg2
        go_wp2_with fail
        go_ret
        rw [Hf.out, Q3.out]
        exact ⟨rfl, HR2.out, HG2.out⟩
      · rw [if_neg hb] at Hf
        have q1 : decide ((1 : Int) < (x.toNat : Int)) = false := decide_eq_false (by omega)
        by_cases hb1 : x.toNat = 1
        · have q2 : ((x.toNat : Int) == 1) = true := by rw [beq_iff_eq]; omega
          have Q3 := Lib.hid (show (x.toNat == 1) = true by rw [beq_iff_eq]; omega)
          clear hb1
          go_enter Try.func41, Try.ntmps41
          go_wp2_with fail
          go_quiet (fail)
          go_wp2_with fail
          go_quiet (fail)
          go_wp2_with fail
          go_ret
          rw [Hf.out, Q3.out]
          exact ⟨rfl, Rf.goes (w := w.drewN _) Hh.out HR.out (by omega) h2 _ (by omega), grown_pre (grown_set (w.drewN _) g 1 _)⟩
        · have q2 : ((x.toNat : Int) == 1) = false := by rw [beq_eq_false_iff_ne]; omega
          have Q3 := Lib.hid (show (x.toNat == 1) = false by rw [beq_eq_false_iff_ne]; omega)
          clear hb1
          go_enter Try.func41, Try.ntmps41
          go_wp2_with fail
          go_quiet (fail)
          go_wp2_with fail
          go_quiet (fail)
          go_wp2_with fail
          go_ret
          rw [Hf.out, Q3.out]
          exact ⟨rfl, Rf.goes (w := w.drewN _) Hh.out HR.out (by omega) h2 _ (by omega), grown_pre (grown_set (w.drewN _) g 1 _)⟩
    · have hrs : rs = [] := by rw [h3, List.drop_eq_nil_iff]; omega
      subst hrs
      have qI : decide ((bs.length : Int) ≤ (I : Int)) = true := decide_eq_true (by omega)
      have Hf := Lib.hid (show flagS ([], 0) = (false, failS ([], 0) 3) from rfl)
      clear h3
      go_enter Try.func41, Try.ntmps41
      go_wp2_with fail
      go_quiet (fail)
      go_wp2_with fail
      refine (refFail_any lo g ([], 0) 3 _ (H.out.drewN _) (by decide) (by decide)).mono ?_
      rintro e' w2 ⟨rfl, hr2, hg2⟩
      have HR2 := Lib.hid hr2
      have HG2 := Lib.hid (grown_pre hg2)
      clear hr2 hg2
      go_wp2_with fail
      go_ret
      rw [Hf.out]
      exact ⟨rfl, HR2.out, HG2.out⟩
  · rw [if_neg he] at h3
    have Hf := Lib.hid (show flagS (rs, e) = (false, (rs, e)) by rw [h3]; show (false, failS ([], e) 3) = _; rw [failS_twice (s := ([], e)) he])
    have q : ((e : Int) != 0) = true := by rw [bne_iff_ne]; omega
    clear h3
    go_enter Try.func41, Try.ntmps41
    go_wp2
    go_ret
    rw [Hf.out]
    exact ⟨rfl, H.out, grown_refl _ _⟩
end Go.Proofs.Ytnabbebkmafakaa

namespace Go.Proofs.Ytnabbebkmafakaa
set_option maxRecDepth 20000
open Go.RowKit
set_option linter.unusedVariables false
set_option linter.unusedSimpArgs false

theorem val_down {rs : List UInt8} {i k : Nat} {y : UInt8} (hy : rs[i]? = some y) (hi : i ≤ k) : val ((rs.drop i).take (k + 1 - i)) = y.toNat % 128 + 128 * val ((rs.drop (i + 1)).take (k + 1 - (i + 1))) := by
  have hl : i < rs.length := (List.getElem?_eq_some_iff.1 hy).1
  rw [List.getElem?_eq_getElem hl] at hy
  injection hy with hy
  rw [List.drop_eq_getElem_cons hl, hy, show k + 1 - i = (k + 1 - (i + 1)) + 1 by omega, List.take_succ_cons, val]
theorem val_small (l : List UInt8) (n : Nat) (h : n ≤ 8) : val (l.take n) < 72057594037927936 := Nat.lt_of_lt_of_le (val_take_lt l n) (Nat.le_trans (pow128_le h) (by decide))

set_option maxHeartbeats 3200000 in
theorem refNumR_any (lo g : Nat) (s : St) (w : World) (h : Rf w lo g s) :
    Calls Try.prog 43 #[.pointer (some ⟨g, 0, none⟩)] w (RfPost w lo g (.int .i64 ((numS s).1 : Int)) (numS s).2) := by
  have H := Lib.hid h
  obtain ⟨A, c, bs, I, hh, hr, hc1, hc2, h1, h2, h3⟩ := h.heap
  obtain ⟨rs, e⟩ := s
  replace h3 : rs = if e = 0 then bs.drop I else [] := h3
  have c0 : w.cell? ⟨g, 0, none⟩ = some (.slice A bs.length c) := cell_at hh 0
  have c1 : w.cell? ⟨g, 1, none⟩ = some (.int .i64 (I : Int)) := cell_at hh 1
  have c2 : w.cell? ⟨g, 2, none⟩ = some (.int .i64 (e : Int)) := cell_at hh 2
  have f1 : w.frozen? ⟨g, 1, none⟩ = false := free_at hh 1
  have Hh := Lib.hid hh
  have HR := Lib.hid hr
  clear hh hr h
  by_cases he : e = 0
  · subst he
    rw [if_pos rfl] at h3
    have hrl : rs.length = bs.length - I := by rw [h3, List.length_drop]
    have hat : ∀ (j : Nat) (x : UInt8), rs[j]? = some x → ∃ g2 off, A = some ⟨g2, off, none⟩ ∧ w.cell? ⟨g2, off + (I + j), none⟩ = some (.int .u8 (x.toNat : Int)) := by
      intro j x hx
      rw [h3, List.getElem?_drop] at hx
      have hl : I + j < bs.length := (List.getElem?_eq_some_iff.1 hx).1
      obtain ⟨g2, off, c', hA, _, _, _, hcell⟩ := HR.out.addr (by omega)
      injection hA with hA1 hA2 hA3
      exact ⟨g2, off, hA1, hcell (I + j) x hx⟩
    have HAT := Lib.hid hat
    have H3 := Lib.hid h3
    clear hat h3
    go_enter Try.func43, Try.ntmps43
    go_wp2_with fail
    go_loopw [3] (fun kk wr => ∃ k d : Nat, k ≤ 9 ∧ Hid (k ≤ goes rs) ∧ kk = .int .i64 (k : Int) ∧ wr = w.drewN d) (fun kk _ => 9 - (intOf kk).toNat)
    case atStart => exact ⟨0, 0, by omega, Lib.hid (Nat.zero_le _), rfl, rfl⟩
    case round =>
      obtain ⟨k, d, hk, Hkg, rfl, rfl⟩ := hrel
      have hkl : k ≤ rs.length := Nat.le_trans Hkg.out (goes_le rs)
      by_cases hk9 : k < 9
      · have q1 : decide ((k : Int) < 9) = true := decide_eq_true (by omega)
        by_cases hkr : k < rs.length
        · obtain ⟨x, hx⟩ : ∃ x, rs[k]? = some x := ⟨_, List.getElem?_eq_getElem hkr⟩
          obtain ⟨g2, off, rfl, hc⟩ := HAT.out k x hx
          have hx2 : (x.toNat : Int) ≤ 255 := by have := x.toNat_lt; omega
          have Hx := Lib.hid hx
          clear hx
          have q2 : decide ((I : Int) + (k : Int) < (bs.length : Int)) = true := decide_eq_true (by omega)
          by_cases hx1 : 128 ≤ x.toNat
          · have q3 : decide ((128 : Int) ≤ (x.toNat : Int)) = true := decide_eq_true (by omega)
            go_wp2_with fail
            go_quiet (fail)
            go_wp2_with fail
            refine ⟨⟨k + 1, _, by omega, Lib.hid (goes_more Hkg.out Hx.out hx1), by go_num, rfl⟩, ?_⟩
            simp [intOf]; omega
          · have q3 : decide ((128 : Int) ≤ (x.toNat : Int)) = false := decide_eq_false (by omega)
            have Hg := Lib.hid (goes_here Hkg.out Hx.out hx1)
            have q4 : ((k : Int) == 9) = false := by rw [beq_eq_false_iff_ne]; omega
            have q5 : (((I : Int) + (k : Int)) == (bs.length : Int)) = false := by rw [beq_eq_false_iff_ne]; omega
            go_wp2_with fail
            go_quiet (fail)
            go_wp2_with fail
            go_quiet (fail)
            go_wp2_with fail
            go_loopw [4, 5] (fun n i wr => ∃ j d : Nat, j ≤ k + 1 ∧ i = .int .i64 ((j : Int) - 1) ∧ n = .int .i64 (val ((rs.drop j).take (k + 1 - j)) : Int) ∧ wr = w.drewN d) (fun _ i _ => ((intOf i) + 1).toNat)
            case atStart => exact ⟨k + 1, _, by omega, by go_num, by simp [val], by rw [World.drewN_drewN]⟩
            case round =>
              obtain ⟨j, d2, hj, rfl, rfl, rfl⟩ := hrel
              by_cases hj0 : 0 < j
              · obtain ⟨y, hy⟩ : ∃ y, rs[j - 1]? = some y := ⟨_, List.getElem?_eq_getElem (by omega)⟩
                obtain ⟨g3, off3, hA3, hcy⟩ := HAT.out (j - 1) y hy
                injection hA3 with hA3
                injection hA3 with e1 e2 _
                subst e1 e2
                obtain ⟨i, rfl⟩ : ∃ i, j = i + 1 := ⟨j - 1, by omega⟩
                simp only [Nat.add_sub_cancel] at hy hcy
                have hy2 : (y.toNat : Int) ≤ 255 := by have := y.toNat_lt; omega
                have q6 : decide ((0 : Int) ≤ (i : Int)) = true := decide_eq_true (by omega)
                have HV := Lib.hid (val_down (k := k) hy (by omega))
                have hV := val_small (rs.drop (i + 1)) (k + 1 - (i + 1)) (by omega)
                generalize val ((rs.drop (i + 1)).take (k + 1 - (i + 1))) = V at *
                clear hy
                go_wp2_with fail
                go_quiet (fail)
                go_wp2_with fail
                refine ⟨⟨i, _, by omega, rfl, ?_, rfl⟩, ?_⟩
                · rw [HV.out]
                  exact congrArg (Value.int .i64) (by omega)
                · simp [intOf]
              · obtain rfl : j = 0 := by omega
                have HX : Hid (((digs (val (rs.take (k + 1)))).length ≠ k + 1) ↔ (x = 0 ∧ 0 < k)) := by
                  have := digs_val rs k Hg.out hkr
                  rw [show rs.getD k 0 = x by rw [List.getD_eq_getElem?_getD, Hx.out]; rfl] at this
                  exact Lib.hid this
                have hN : val (rs.take (k + 1)) < 9223372036854775808 := by
                  have h5 := Nat.lt_of_lt_of_le (val_take_lt rs (k + 1)) (pow128_le (show k + 1 ≤ 9 by omega))
                  rw [pow128_9] at h5
                  exact h5
                have HE := Lib.hid (numErr_at Hg.out Hx.out hk9)
                have HG := Lib.hid (numS_good (bs := rs) (e := 0) (k := k))
                have hV0 : val ((rs.drop 0).take (k + 1 - 0)) = val (rs.take (k + 1)) := rfl
                rw [hV0]
                clear hV0
                generalize val (rs.take (k + 1)) = N at *
                have hdl := len_digs N (by rw [pow128_9]; exact hN)
                have q6 : decide ((0 : Int) ≤ ((0 : Nat) : Int) - 1) = false := by decide
                go_wp2_with fail
                refine (refNumber_nat 8 N _ (by rw [show 8 + 1 = 9 from rfl, pow128_9]; exact hN) hN).mono ?_
                rintro e' w1 ⟨⟨g5, cap5, rfl, hg5, ho5⟩, hb5⟩
                have HR5 := Lib.hid ((H.out.drewN d2).below hb5)
                have HG5 := Lib.hid (grown_pre (grown_below hb5 g))
                have HHh := Lib.hid ((hb5.block g (heap_lt Hh.out)).trans Hh.out)
                have HRow := Lib.hid (Row.below (w := w.drewN d2) HR.out hb5)
                have e1 : w1.cell? ⟨g, 1, none⟩ = some (.int .i64 (I : Int)) := cell_at HHh.out 1
                have e2 : w1.frozen? ⟨g, 1, none⟩ = false := free_at HHh.out 1
                clear ho5 hb5 c0 c1 c2 f1 hc
                generalize (digs N).length = L at *
                by_cases hLk : L = k + 1
                · have q7 : ((L : Int) != ((k : Int) + 1)) = false := by rw [bne_eq_false_iff_eq]; omega
                  have Hn := Lib.hid (HG.out (by rw [HE.out, if_neg (fun h => HX.out.2 h hLk)]) Hg.out)
                  go_wp2_with fail
                  go_ret
                  rw [Hn.out]
                  refine ⟨rfl, ?_, grown_trans HG5.out (grown_set w1 g 1 _)⟩
                  rw [H3.out, List.drop_drop]
                  exact Rf.goes HHh.out HRow.out (by omega) h2 _ (by omega)
                · have q7 : ((L : Int) != ((k : Int) + 1)) = true := by rw [bne_iff_ne]; omega
                  have Hn := Lib.hid (numS_bad (e := 0) (x := 2) (show numErr rs = 2 by rw [HE.out, if_pos (HX.out.1 hLk)]) (by decide))
                  go_wp2_with fail
                  refine (refFail_any lo g (rs, 0) 2 _ HR5.out (by decide) (by decide)).mono ?_
                  rintro e' w2 ⟨rfl, hr2, hg2⟩
                  have HR2 := Lib.hid hr2
                  have HG2 := Lib.hid (grown_trans HG5.out hg2)
                  clear hr2 hg2
                  go_wp2_with fail
                  go_ret
                  rw [Hn.out]
                  exact ⟨rfl, HR2.out, HG2.out⟩
        · have q2 : decide ((I : Int) + (k : Int) < (bs.length : Int)) = false := decide_eq_false (by omega)
          have q4 : ((k : Int) == 9) = false := by rw [beq_eq_false_iff_ne]; omega
          have q5 : (((I : Int) + (k : Int)) == (bs.length : Int)) = true := by rw [beq_iff_eq]; omega
          have Hn := Lib.hid (numS_bad (e := 0) (numErr_end (bs := rs) (by have := Hkg.out; have := goes_le rs; omega) (by omega)) (by decide))
          go_wp2_with fail
          go_quiet (fail)
          go_wp2_with fail
          go_quiet (fail)
          go_wp2_with fail
          refine (refFail_any lo g (rs, 0) 3 _ (H.out.drewN _) (by decide) (by decide)).mono ?_
          rintro e' w2 ⟨rfl, hr2, hg2⟩
          have HR2 := Lib.hid hr2
          have HG2 := Lib.hid (grown_pre hg2)
          clear hr2 hg2
          go_wp2_with fail
          go_ret
          rw [Hn.out]
          exact ⟨rfl, HR2.out, HG2.out⟩
      · obtain rfl : k = 9 := by omega
        have Hn := Lib.hid (numS_bad (e := 0) (numErr_go9 Hkg.out) (by decide))
        have q1 : decide (((9 : Nat) : Int) < 9) = false := by decide
        go_wp2_with fail
        go_quiet (fail)
        go_wp2_with fail
        refine (refFail_any lo g (rs, 0) 2 _ (H.out.drewN _) (by decide) (by decide)).mono ?_
        rintro e' w2 ⟨rfl, hr2, hg2⟩
        have HR2 := Lib.hid hr2
        have HG2 := Lib.hid (grown_pre hg2)
        clear hr2 hg2
        go_wp2_with fail
        go_ret
        rw [Hn.out]
        exact ⟨rfl, HR2.out, HG2.out⟩
  · rw [if_neg he] at h3
    subst h3
    have Hf := Lib.hid (numS_err he)
    have q : ((e : Int) != 0) = true := by rw [bne_iff_ne]; omega
    go_enter Try.func43, Try.ntmps43
    go_wp2_with fail
    go_ret
    rw [Hf.out]
    exact ⟨rfl, H.out, grown_refl _ _⟩
end Go.Proofs.Ytnabbebkmafakaa

namespace Go.Proofs.Ytnabbebkmafakaa
set_option maxRecDepth 20000
open Go.RowKit
set_option linter.unusedVariables false
set_option linter.unusedSimpArgs false

theorem textS_bad {s s1 : St} {n : Nat} {most : Int} (h1 : (numS s).1 = n) (h2 : (numS s).2 = s1) (he : s1.2 ≠ 0) : textS s most = ([], s1) := by
  by_cases hm : most < (n : Int)
  · rw [textS_most h1 h2 hm, failS_twice he]
  · by_cases hl : s1.1.length < n
    · rw [textS_short h1 h2 hm hl, failS_twice he]
    · exact textS_err h1 h2 hm hl he

/-- A piece of a row, as it is cut out. -/
theorem conv_piece {w : World} {lo I n c : Nat} {A : Option Addr} {bs : List UInt8} (h : Row w lo (.slice A bs.length c) bs) (hn : I + n ≤ bs.length) (d : Nat) :
    (convert 29 9 (.slice (if c = I then A else A.map (fun x : Addr => x.add I)) n (c - I))).run Try.prog (w.drewN d) = .ok (.string (strOf ((bs.drop I).take n))) (w.drewN d) := by
  cases A with
  | none =>
    rcases h with ⟨h, hb⟩ | ⟨_, _, _, _, h, _⟩
    · subst hb
      obtain rfl : n = 0 := by simp at hn; omega
      obtain rfl : I = 0 := by simpa using hn
      have hc : c = 0 := by injection h
      subst hc
      exact conv_row (w := w.drewN d) (lo := 0) (Row.nil _ _)
    · injection h with h
      cases h
  | some a =>
    have h' := h
    rcases h with ⟨h, hb⟩ | ⟨g, off, c', cur, h, _⟩
    · injection h with h
      cases h
    · injection h with ha _ _
      injection ha with ha
      subst ha
      have ht := h'.tail (n := I) (by omega)
      have hl : (bs.drop I).length = bs.length - I := List.length_drop
      have e1 : (if c = I then some (⟨g, off, none⟩ : Addr) else Option.map (fun x : Addr => x.add I) (some (⟨g, off, none⟩ : Addr))) = if c = I then some (⟨g, off, none⟩ : Addr) else some ⟨g, off + I, none⟩ := by
        split
        · rfl
        · simp [Addr.add_lit]
      rw [e1]
      rw [← hl] at ht
      split at ht
      · rw [if_pos (by assumption)]
        exact conv_row (w := w.drewN d) (Row.head ht (by omega))
      · rw [if_neg (by assumption)]
        exact conv_row (w := w.drewN d) (Row.head ht (by omega))

set_option maxHeartbeats 3200000 in
theorem refTextR_any (lo g : Nat) (s : St) (most : Int) (w : World) (h : Rf w lo g s) (hm0 : -9223372036854775808 ≤ most) (hm1 : most ≤ 9223372036854775807) :
    Calls Try.prog 42 #[.pointer (some ⟨g, 0, none⟩), .int .i64 most] w (RfPost w lo g (.string (strOf (textS s most).1)) (textS s most).2) := by
  obtain ⟨n, s1, hn⟩ : ∃ n s1, numS s = (n, s1) := ⟨_, _, rfl⟩
  have h1 : (numS s).1 = n := by rw [hn]
  have h2 : (numS s).2 = s1 := by rw [hn]
  have hnb := numS_fst_lt s
  rw [h1, pow128_9] at hnb
  have HN := Lib.hid (refNumR_any lo g s w h)
  have H1 := Lib.hid h1
  have H2 := Lib.hid h2
  clear h1 h2 hn h
  go_enter Try.func42, Try.ntmps42
  go_wp2_with fail
  refine HN.out.mono ?_
  rintro e w1 ⟨rfl, hr1, hg1⟩
  rw [H1.out]
  rw [H2.out] at hr1
  obtain ⟨A, c, bs, I, hh, hr, hc1, hc2, g1, g2, h3⟩ := hr1.heap
  have HR1 := Lib.hid hr1
  have HG1 := Lib.hid hg1
  clear hr1 hg1 HN
  obtain ⟨rs, e⟩ := s1
  replace h3 : rs = if e = 0 then bs.drop I else [] := h3
  have c0 : w1.cell? ⟨g, 0, none⟩ = some (.slice A bs.length c) := cell_at hh 0
  have c1 : w1.cell? ⟨g, 1, none⟩ = some (.int .i64 (I : Int)) := cell_at hh 1
  have c2 : w1.cell? ⟨g, 2, none⟩ = some (.int .i64 (e : Int)) := cell_at hh 2
  have f1 : w1.frozen? ⟨g, 1, none⟩ = false := free_at hh 1
  have Hh := Lib.hid hh
  have HR := Lib.hid hr
  clear hh hr
  by_cases he : e = 0
  · subst he
    rw [if_pos rfl] at h3
    have hrl : rs.length = bs.length - I := by rw [h3, List.length_drop]
    have H3 := Lib.hid h3
    clear h3
    by_cases hmost : most < (n : Int)
    · have Ht := Lib.hid (textS_most H1.out H2.out hmost)
      go_wp2_with fail
      refine (refFail_any lo g (rs, 0) 2 _ HR1.out (by decide) (by decide)).mono ?_
      rintro e' w2 ⟨rfl, hr2, hg2⟩
      have HR2 := Lib.hid hr2
      have HG2 := Lib.hid (grown_trans HG1.out hg2)
      clear hr2 hg2
      go_wp2_with fail
      go_ret
      rw [Ht.out]
      exact ⟨rfl, HR2.out, HG2.out⟩
    · by_cases hqn : rs.length < n
      · have Ht := Lib.hid (textS_short H1.out H2.out hmost hqn)
        have q6 : decide ((bs.length : Int) - (I : Int) < (n : Int)) = true := decide_eq_true (by omega)
        go_wp2_with fail
        go_quiet (fail)
        go_wp2_with fail
        refine (refFail_any lo g (rs, 0) 3 _ (HR1.out.drewN _) (by decide) (by decide)).mono ?_
        rintro e' w2 ⟨rfl, hr2, hg2⟩
        have HR2 := Lib.hid hr2
        have HG2 := Lib.hid (grown_trans HG1.out (grown_pre hg2))
        clear hr2 hg2
        go_wp2_with fail
        go_ret
        rw [Ht.out]
        exact ⟨rfl, HR2.out, HG2.out⟩
      · have Ht := Lib.hid (textS_take H1.out H2.out hmost hqn rfl)
        have q6 : decide ((bs.length : Int) - (I : Int) < (n : Int)) = false := decide_eq_false (by omega)
        have hcv := conv_piece HR.out (show I + n ≤ bs.length by omega)
        rw [← H3.out] at hcv
        unfold maxLen at hc2
        go_wp2_with fail
        go_quiet (fail)
        go_wp2_with fail
        go_quiet (fail)
        go_wp2_with fail
        all_goals
          go_ret
          rw [Ht.out]
          refine ⟨rfl, ?_, grown_trans HG1.out (grown_pre (grown_set (w1.drewN _) g 1 _))⟩
          rw [H3.out, List.drop_drop]
          exact Rf.goes (w := w1.drewN _) Hh.out HR.out (by omega) g2 _ (by omega)
  · have Ht := Lib.hid (textS_bad (most := most) H1.out H2.out he)
    have q : ((e : Int) != 0) = true := by rw [bne_iff_ne]; omega
    clear h3
    go_wp2_with fail
    go_ret
    rw [Ht.out]
    exact ⟨rfl, HR1.out, HG1.out⟩
end Go.Proofs.Ytnabbebkmafakaa

namespace Go.Proofs.Ytnabbebkmafakaa
set_option maxRecDepth 20000
open Go.RowKit
set_option linter.unusedVariables false
set_option linter.unusedSimpArgs false

/-- Both readers, in one state. -/
def Both (w : World) (g g' : Nat) (s : St) : Prop := Rd w 0 g s ∧ Rf w 0 g' s
theorem Rd.mono {w : World} {lo lo' g : Nat} {s : St} (h : Rd w lo g s) (hl : lo' ≤ lo) : Rd w lo' g s := by
  obtain ⟨⟨v, hh, hr⟩, ho⟩ := h
  exact ⟨⟨v, hh, hr.mono hl⟩, ho⟩
theorem Rf.mono {w : World} {lo lo' g : Nat} {s : St} (h : Rf w lo g s) (hl : lo' ≤ lo) : Rf w lo' g s := by
  obtain ⟨v, bs, I, hh, hr, r⟩ := h
  exact ⟨v, bs, I, hh, hr.mono hl, r⟩
theorem Rd.far {w : World} {lo g k i : Nat} {s : St} (h : Rd w lo g s) (hk : k < lo) (hne : g ≠ k) (u : Value) : Rd (w.setCell ⟨k, i, none⟩ u) lo g s := by
  obtain ⟨⟨v, hh, hr⟩, ho⟩ := h
  exact ⟨⟨v, (Below.heap_setCell w _ u g hne).trans hh, hr.keep fun g' _ hg' _ => Below.heap_setCell w _ u g' (by show g' ≠ k; omega)⟩, ho⟩
theorem Rf.far {w : World} {lo g k i : Nat} {s : St} (h : Rf w lo g s) (hk : k < lo) (hne : g ≠ k) (u : Value) : Rf (w.setCell ⟨k, i, none⟩ u) lo g s := by
  obtain ⟨v, bs, I, hh, hr, r⟩ := h
  exact ⟨v, bs, I, (Below.heap_setCell w _ u g hne).trans hh, hr.keep fun g' _ hg' _ => Below.heap_setCell w _ u g' (by show g' ≠ k; omega), r⟩
theorem Rf.other {w w' : World} {lo lo' g k : Nat} {s s' : St} (h : Rf w lo g s) (hk : Rd w lo' k s') (hg : w.grownBy w' (some k)) : Rf w' lo g s := by
  obtain ⟨v, bs, I, hh, hr, r⟩ := h
  obtain ⟨⟨v', hh', _⟩, _⟩ := hk
  have hne : g ≠ k := by
    rintro rfl
    rw [hh] at hh'
    injection hh' with hh'
    injection hh' with _ hh'
    exact absurd hh' (by decide)
  exact ⟨v, bs, I, (hg.block g (heap_lt hh) (fun e => hne (by injection e))).trans hh, hr.grown hg (not_bytes hh' (by decide)), r⟩
theorem Rd.otherR {w w' : World} {lo lo' g k : Nat} {s s' : St} (h : Rd w lo g s) (hk : Rf w lo' k s') (hg : w.grownBy w' (some k)) : Rd w' lo g s := by
  obtain ⟨⟨v, hh, hr⟩, ho⟩ := h
  obtain ⟨v', _, _, hh', _⟩ := hk
  have hne : g ≠ k := by
    rintro rfl
    rw [hh] at hh'
    injection hh' with hh'
    injection hh' with _ hh'
    exact absurd hh' (by decide)
  exact ⟨⟨v, (hg.block g (heap_lt hh) (fun e => hne (by injection e))).trans hh, hr.grown hg (not_bytes hh' (by decide))⟩, ho⟩
/-- A new one of the document's. -/
theorem Rf.new {w : World} {lo : Nat} {v : Value} {bs : List UInt8} (h : Row w lo v bs) (hl : bs.length ≤ 1000000) : Rf (w.alloc (.cells #[v, .int .i64 0, .int .i64 0] 68)) lo w.heap.size (bs, 0) :=
  ⟨v, bs, 0, heap_alloc_new w _, h.below (below_new w _), Nat.zero_le _, hl, by simp⟩
theorem MadeB.own {w : World} {B : Nat} {A : Option Addr} {n c : Nat} {ts : List UInt8} (h : MadeB w B (.slice A n c) ts) (h0 : 0 < n) : ∃ g, A = some ⟨g, 0, none⟩ ∧ B ≤ g ∧ Own w g c ts ∧ n = ts.length := by
  rcases h with ⟨h, _⟩ | ⟨g, cap, h, hB, ho⟩
  · injection h with _ h _
    omega
  · injection h with e1 e2 e3
    subst e1 e2 e3
    exact ⟨g, rfl, hB, ho, rfl⟩
theorem Rf.e {w : World} {lo g : Nat} {s : St} (h : Rf w lo g s) : w.cell? ⟨g, 2, none⟩ = some (.int .i64 (s.2 : Int)) := by
  obtain ⟨v, bs, I, hh, _⟩ := h
  exact cell_at hh 2
theorem Both.later {w w' : World} {g g' : Nat} {s : St} (h : Both w g g' s) (hb : Below w.heap.size w w') : Both w' g g' s := ⟨h.1.below hb, h.2.below hb⟩
theorem Both.drewN {w : World} {g g' : Nat} {s : St} (h : Both w g g' s) (n : Nat) : Both (w.drewN n) g g' s := h

theorem quiet_left {P : Program} {f : FuncId} {args : Array Value} {w : World} {n : Nat} {v : Value}
    (h : Calls P f args (w.drewN n) fun e w' => e = .returned v ∧ w.drewN n = w') : Calls P f args (w.drewN n) fun e w'' => e = .returned v ∧ ∃ m, w'' = w.drewN m :=
  h.mono fun _ _ ⟨he, hm⟩ => ⟨he, n, hm.symm⟩

theorem textS_len (s : St) (m : Int) : (textS s m).2.1.length ≤ s.1.length := by
  have h1 := numS_len s
  unfold textS
  simp only
  have h2 : (if m < ((numS s).1 : Int) then failS (numS s).2 2 else (numS s).2).1.length ≤ s.1.length := by
    split
    · exact Nat.le_trans (failS_len _ _) h1
    · exact h1
  generalize (if m < ((numS s).1 : Int) then failS (numS s).2 2 else (numS s).2) = q at h2 ⊢
  have h3 : (if q.1.length < (numS s).1 then failS q 3 else q).1.length ≤ s.1.length := by
    split
    · exact Nat.le_trans (failS_len _ _) h2
    · exact h2
  generalize (if q.1.length < (numS s).1 then failS q 3 else q) = r at h3 ⊢
  split
  · rw [List.length_drop]; omega
  · exact h3
theorem flagS_len (s : St) : (flagS s).2.1.length ≤ s.1.length := by
  obtain ⟨bs, e⟩ := s
  cases bs with
  | nil => exact failS_len _ _
  | cons b r =>
    unfold flagS
    simp only
    split
    · have := failS_len (r, e) 2
      simp only [List.length_cons] at *
      omega
    · simp

theorem add_any (p q : ByteArray) (hp : p.size ≤ 10000) (hq : q.size ≤ 10000) (w : World) : (Op.stringOp .add p q).run Try.prog w = .ok (.string (p ++ q)) w := run_string_add_sum w p q (by omega)
/-- A list that came in, its elements one cell each. -/
def ListAt (w : World) (a : Option Addr) (len : Nat) (f : Nat → Value) : Prop := len = 0 ∨ ∃ b off, a = some ⟨b, off, none⟩ ∧ ∀ j, j < len → w.cell? ⟨b, off + j, none⟩ = some (f j)
theorem ListAt.get {w : World} {a : Option Addr} {len : Nat} {f : Nat → Value} (h : ListAt w a len f) {k : Nat} (hk : k < len) : ∃ b off, a = some ⟨b, off, none⟩ ∧ b < w.heap.size ∧ w.cell? ⟨b, off + k, none⟩ = some (f k) := by
  rcases h with h | ⟨b, off, ha, h⟩
  · omega
  · exact ⟨b, off, ha, World.block_lt_of_cell? w _ (h k hk), h k hk⟩

theorem textS_text (f : ByteArray) (h : f.size ≤ 20) (r : List UInt8) : textS (textB f ++ r, 0) 20 = (f.data.toList, (r, 0)) := by
  have hn := numS_digs f.size (Nat.lt_of_le_of_lt h (by decide)) (f.data.toList ++ r) 0
  have hl : f.data.toList.length = f.size := by rw [Array.length_toList]; rfl
  unfold textB
  rw [List.append_assoc]
  rw [textS_take (n := f.size) (s1 := (f.data.toList ++ r, 0)) (by rw [hn]) (by rw [hn]) (by omega) (by simp only [List.length_append]; omega) rfl]
  simp only
  rw [← hl, List.take_left, List.drop_left]
theorem flagS_flag (b : Bool) (r : List UInt8) : flagS (flagB b ++ r, 0) = (b, (r, 0)) := by
  cases b <;> rfl

end Go.Proofs.Ytnabbebkmafakaa
