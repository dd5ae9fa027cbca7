/-
  The same over bytes that were handed in.
-/
import Derived.Test.YtnabbebkmafakaaMD
import Derived.Test.YtnabbebkmafakaaMK
import Derived.Test.YtnabbebkmafakaaML
namespace Go.Proofs.Ytnabbebkmafakaa
open Go.RowKit
set_option linter.unusedVariables false
set_option linter.unusedSimpArgs false
set_option maxRecDepth 20000

def ArgQ (w : World) (lo : Nat) (v : Value) (bs : List UInt8) : Prop :=
  ∃ A c, v = .slice A bs.length c ∧ bs.length ≤ c ∧ c ≤ maxLen ∧ (A = none → c = 0) ∧ (0 < bs.length → ∃ b off, A = some ⟨b, off, none⟩ ∧ b < lo ∧ ∀ j x, bs[j]? = some x → w.cell? ⟨b, off + j, none⟩ = some (bV x))
def RowQ (w : World) (lo g : Nat) (v : Value) (bs : List UInt8) : Prop := ArgQ w lo v bs ∧ lo ≤ g
theorem cell_heap {w w' : World} {b : Nat} (h : w'.heap[b]? = w.heap[b]?) (i : Nat) : w'.cell? ⟨b, i, none⟩ = w.cell? ⟨b, i, none⟩ := by simp [World.cell?, h]
theorem ArgQ.keep {w w' : World} {lo : Nat} {v : Value} {bs : List UInt8} (h : ArgQ w lo v bs) (hk : ∀ b, b < lo → b < w.heap.size → w'.heap[b]? = w.heap[b]?) : ArgQ w' lo v bs := by
  obtain ⟨A, c, hv, h1, h2, h3, h4⟩ := h
  refine ⟨A, c, hv, h1, h2, h3, fun h0 => ?_⟩
  obtain ⟨b, off, hA, hb, hc⟩ := h4 h0
  refine ⟨b, off, hA, hb, fun j x hx => ?_⟩
  have hcell := hc j x hx
  have hlt : b < w.heap.size := World.block_lt_of_cell? w _ hcell
  rw [cell_heap (hk b hb hlt)]
  exact hcell
theorem ArgQ.below {w w' : World} {lo : Nat} {v : Value} {bs : List UInt8} (h : ArgQ w lo v bs) (hb : Below w.heap.size w w') : ArgQ w' lo v bs := h.keep fun b _ hl => hb.block b hl
theorem ArgQ.more {w : World} {lo lo' : Nat} {v : Value} {bs : List UInt8} (h : ArgQ w lo v bs) (hl : lo ≤ lo') : ArgQ w lo' v bs := by
  obtain ⟨A, c, hv, h1, h2, h3, h4⟩ := h
  refine ⟨A, c, hv, h1, h2, h3, fun h0 => ?_⟩
  obtain ⟨b, off, hA, hb, hc⟩ := h4 h0
  exact ⟨b, off, hA, by omega, hc⟩
theorem RowQ.below {w w' : World} {lo g : Nat} {v : Value} {bs : List UInt8} (h : RowQ w lo g v bs) (hb : Below w.heap.size w w') : RowQ w' lo g v bs := ⟨h.1.below hb, h.2⟩
theorem RowQ.set {w : World} {lo g i : Nat} {v : Value} {bs : List UInt8} {cs : Array Value} {t : TypeId} (h : RowQ w lo g v bs) (hh : w.heap[g]? = some (.cells cs t (0, 0))) (ht : t ≠ 5) (u : Value) : RowQ (w.setCell ⟨g, i, none⟩ u) lo g v bs :=
  ⟨h.1.keep fun b hb _ => Below.heap_setCell w _ u b (by have := h.2; show b ≠ g; omega), h.2⟩
theorem RowQ.store {w : World} {lo g E i : Nat} {v : Value} {bs : List UInt8} (h : RowQ w lo g v bs) (hE : lo ≤ E) (u : Value) : RowQ (w.setCell ⟨E, i, none⟩ u) lo g v bs :=
  ⟨h.1.keep fun b hb _ => Below.heap_setCell w _ u b (by show b ≠ E; omega), h.2⟩
theorem RowQ.shape {w : World} {lo g : Nat} {v : Value} {bs : List UInt8} (h : RowQ w lo g v bs) : ∃ A c, v = .slice A bs.length c ∧ bs.length ≤ c ∧ c ≤ maxLen ∧ (A = none → c = 0) := by
  obtain ⟨⟨A, c, hv, h1, h2, h3, _⟩, _⟩ := h
  exact ⟨A, c, hv, h1, h2, h3⟩
theorem RowQ.addr {w : World} {lo g : Nat} {v : Value} {bs : List UInt8} (h : RowQ w lo g v bs) (h0 : 0 < bs.length) : ∃ b off c, v = .slice (some ⟨b, off, none⟩) bs.length c ∧ b < lo ∧ bs.length ≤ c ∧ c ≤ maxLen ∧ ∀ j x, bs[j]? = some x → w.cell? ⟨b, off + j, none⟩ = some (bV x) := by
  obtain ⟨⟨A, c, hv, h1, h2, h3, h4⟩, _⟩ := h
  obtain ⟨b, off, rfl, hb, hc⟩ := h4 h0
  exact ⟨b, off, c, hv, hb, h1, h2, hc⟩

theorem conv_cells {w : World} {b off c : Nat} {ys : List UInt8} (hcell : ∀ j x, ys[j]? = some x → w.cell? ⟨b, off + j, none⟩ = some (bV x)) : (convert 29 9 (.slice (some ⟨b, off, none⟩) ys.length c)).run Try.prog w = .ok (.string (strOf ys)) w := by
  have hr := run_convert_bytes_arg (P := Try.prog) w 29 5 Try.underlying29 Try.underlying5 b off ys.length c (ys.map fun b => (b.toNat : Int)) (by simp) (fun i hi => by
      rw [hcell i _ (List.getElem?_eq_getElem hi), List.getD_eq_getElem?_getD, List.getElem?_map, List.getElem?_eq_getElem hi]
      rfl) 9 Try.underlying9
  rw [hr]
  congr 2
  apply ByteArray.ext
  simp only [strOfNums, strOf, List.map_map]
  congr 1
  rw [show ys = ys.map id by simp]
  rw [List.map_map]
  apply List.map_congr_left
  intro x _
  simp [Function.comp]
theorem conv_empty (w : World) (X : Option Addr) (k : Nat) : (convert 29 9 (.slice X 0 k)).run Try.prog w = .ok (.string (strOf [])) w := by
  rw [run_convert_bytes_string w 29 9 5 X 0 k Try.underlying29 Try.underlying5 Try.underlying9]
  cases X <;> (simp [Conv.bytesToString, loadCells, loadCellsFrom, strOf, ByteArray.empty, ByteArray.emptyWithCapacity]; try rfl)
/-- A piece of a row, as it is cut out. -/
theorem conv_pieceQ {w : World} {lo g I n c : Nat} {A : Option Addr} {bs : List UInt8} (h : RowQ w lo g (.slice A bs.length c) bs) (hn : I + n ≤ bs.length) (d : Nat) :
    (convert 29 9 (.slice (if c = I then A else A.map (fun x : Addr => x.add I)) n (c - I))).run Try.prog (w.drewN d) = .ok (.string (strOf ((bs.drop I).take n))) (w.drewN d) := by
  rcases Nat.eq_zero_or_pos n with rfl | h0
  · rw [List.take_zero]
    exact conv_empty _ _ _
  · obtain ⟨b, off, c', hA, _, hc1, _, hcell⟩ := h.addr (by omega)
    injection hA with hA1 _ hA3
    subst hA1 hA3
    rw [if_neg (by omega)]
    have hl : ((bs.drop I).take n).length = n := by rw [List.length_take, List.length_drop]; omega
    have e1 : Option.map (fun x : Addr => x.add I) (some (⟨b, off, none⟩ : Addr)) = some ⟨b, off + I, none⟩ := by simp [Addr.add_lit]
    rw [e1]
    have := conv_cells (w := w.drewN d) (b := b) (off := off + I) (c := c - I) (ys := (bs.drop I).take n) (fun j x hx => by
      rw [List.getElem?_take] at hx
      split at hx
      · rw [List.getElem?_drop] at hx
        rw [Nat.add_assoc]
        exact hcell (I + j) x hx
      · cases hx)
    rw [hl] at this
    exact this

theorem Src.ofQ {w : World} {lo : Nat} {a : Addr} {c : Nat} {bs : List UInt8} (h : ArgQ w lo (.slice (some a) bs.length c) bs) : Src Try.prog 1 29 (.slice (some a) bs.length c) bs.length (bVs bs) w := by
  refine Src.ofSlice w Try.underlying29 a bs.length c _ (by rw [bVs_len]; omega) (fun j u hu => ?_) (bVs_one _)
  obtain ⟨x, hx, rfl⟩ := bVs_get hu
  obtain ⟨A, c', hv, _, _, _, h4⟩ := h
  injection hv with hv1 _ _
  obtain ⟨b, off, hA, _, hc⟩ := h4 (by have := (List.getElem?_eq_some_iff.1 hx).1; omega)
  rw [hA] at hv1
  injection hv1 with hv1
  subst hv1
  rw [Go.WideShapes.add_plain]
  exact hc j x hx

theorem cloneQ_any (v : Value) (bs : List UInt8) (lo : Nat) (w : World) (h : ArgQ w lo v bs) (hl : bs.length ≤ 1000000) :
    Calls Try.prog 79 #[v] w fun e w' => (∃ v', e = .returned v' ∧ Row w' w.heap.size v' bs) ∧ Below w.heap.size w w' := by
  have H := Lib.hid h
  obtain ⟨A, c, rfl, h1, h2, h3, h4⟩ := h
  clear h4
  cases A with
  | none =>
    obtain rfl : c = 0 := h3 rfl
    obtain rfl : bs = [] := List.eq_nil_of_length_eq_zero (by omega)
    clear H
    have hn := eql_nil none 0 0
    go_enter Try.func79, Try.ntmps79
    go_wp2_with fail
    go_ret
    exact ⟨⟨_, rfl, Row.nil _ _⟩, Below.refl _ _⟩
  | some a =>
    have hb0 : Below w.heap.size w (w.alloc (.cells #[] 5)) := (Below.refl _ w).alloc (Nat.le_refl _) _
    have HO : Hid (Own (w.alloc (.cells #[] 5)) w.heap.size 0 []) := Lib.hid ⟨#[], heap_alloc_new w _, Nat.le_refl _, Nat.zero_le _, rfl, rfl⟩
    have HS := Lib.hid (Src.ofQ (H.out.below hb0))
    have HB := Lib.hid hb0
    clear hb0 H
    have hn := eql_nil (some a) bs.length c
    go_enter Try.func79, Try.ntmps79
    go_wp2_with (at_builtin; refine wpList_puts rfl (.tmp 5) (.tmp 6) _ rfl rfl (.inr ⟨w.heap.size, 0, rfl, Nat.le_refl _, HO.out⟩) (by simp) (.slice (some a) bs.length c) bs.length bs rfl rfl HS.out (.inr ⟨w.heap.size, 0, rfl, Nat.le_refl _, HO.out⟩) (by simp; omega) ?_; rintro g2 cap2 w2 hg2 ho2 hb2)
    go_ret
    refine ⟨⟨_, rfl, ?_⟩, HB.out.trans hb2⟩
    have := ho2.row hg2
    simpa using this

theorem readQ_any (v : Value) (bs : List UInt8) (lo : Nat) (w : World) (h : ArgQ w lo v bs) (hl : bs.length ≤ 1000000) :
    Calls Try.prog 57 #[v] w fun e w' => (∃ g, e = .returned (.pointer (some ⟨g, 0, none⟩)) ∧ w.heap.size ≤ g ∧ Rd w' w.heap.size g (bs, 0)) ∧ Below w.heap.size w w' := by
  have H := Lib.hid h
  clear h
  go_enter Try.func57, Try.ntmps57
  go_wp2_with fail
  refine (cloneQ_any v bs lo _ H.out hl).mono ?_
  rintro e w1 ⟨⟨v1, rfl, hr⟩, hb⟩
  obtain ⟨A1, c1, rfl, _⟩ := hr.shape
  have HR := Lib.hid hr
  have HB := Lib.hid hb
  clear hr hb
  go_wp2_with fail
  go_ret
  have hb2 : Below w1.heap.size w1 (w1.alloc (.cells #[.slice A1 bs.length c1, .int .i64 0] 91)) := (Below.refl _ w1).alloc (Nat.le_refl _) _
  exact ⟨⟨w1.heap.size, rfl, HB.out.size, ⟨_, heap_alloc_new w1 _, HR.out.below hb2⟩, fun he => absurd rfl he⟩, later HB.out hb2⟩
end Go.Proofs.Ytnabbebkmafakaa

namespace Go.Proofs.Ytnabbebkmafakaa
set_option maxRecDepth 20000
open Go.RowKit
set_option linter.unusedVariables false
set_option linter.unusedSimpArgs false


/-- The document's reader: its bytes, its place, its first error. -/
def RfQ (w : World) (lo g : Nat) (s : St) : Prop :=
  ∃ v bs I, w.heap[g]? = some (.cells #[v, .int .i64 ((I : Nat) : Int), .int .i64 (s.2 : Int)] 68 (0, 0)) ∧ RowQ w lo g v bs ∧ I ≤ bs.length ∧ bs.length ≤ 1000000 ∧ s.1 = if s.2 = 0 then bs.drop I else []
theorem RfQ.below {w w' : World} {lo g : Nat} {s : St} (h : RfQ w lo g s) (hb : Below w.heap.size w w') : RfQ w' lo g s := by
  obtain ⟨v, bs, I, hh, hr, r⟩ := h
  exact ⟨v, bs, I, (hb.block g (heap_lt hh)).trans hh, hr.below hb, r⟩
theorem RfQ.drewN {w : World} {lo g : Nat} {s : St} (h : RfQ w lo g s) (n : Nat) : RfQ (w.drewN n) lo g s := h
theorem RfQ.len {w : World} {lo g : Nat} {s : St} (h : RfQ w lo g s) : s.1.length ≤ 1000000 := by
  obtain ⟨v, bs, I, hh, hr, h1, h2, h3⟩ := h
  rw [h3]
  split
  · rw [List.length_drop]; omega
  · exact Nat.zero_le _
theorem RfQ.ok {w : World} {lo g : Nat} {s : St} (h : RfQ w lo g s) : Ok s := by
  obtain ⟨v, bs, I, hh, hr, h1, h2, h3⟩ := h
  intro he
  rw [h3, if_neg he]

def RfQPost (w : World) (lo g : Nat) (r : Value) (s : St) (e : Ending) (w' : World) : Prop := e = .returned r ∧ RfQ w' lo g s ∧ w.grownBy w' (some g)

set_option maxHeartbeats 800000 in
theorem refFailQ_any (lo g : Nat) (s : St) (x : Nat) (w : World) (h : RfQ w lo g s) (hx : x ≠ 0) (hx2 : x ≤ 9) :
    Calls Try.prog 64 #[.pointer (some ⟨g, 0, none⟩), .int .i64 (x : Int)] w (RfQPost w lo g (.tuple #[]) (failS s x)) := by
  have H := Lib.hid h
  obtain ⟨v, bs, I, hh, hr, h1, h2, h3⟩ := h
  obtain ⟨rs, e⟩ := s
  have c2 : w.cell? ⟨g, 2, none⟩ = some (.int .i64 (e : Int)) := cell_at hh 2
  have f2 : w.frozen? ⟨g, 2, none⟩ = false := free_at hh 2
  have Hh := Lib.hid hh
  have HR := Lib.hid hr
  clear hh hr h3
  by_cases he : e = 0
  · subst he
    go_enter Try.func64, Try.ntmps64
    go_wp2
    go_end0
    refine ⟨rfl, ⟨v, bs, I, ?_, HR.out.set Hh.out (by decide) _, h1, h2, ?_⟩, grown_set w g 2 _⟩
    · rw [heap_set Hh.out 2]; rfl
    · show [] = _
      rw [if_neg (by simpa [failS] using hx)]
  · have q : ((e : Int) == 0) = false := by rw [beq_eq_false_iff_ne]; omega
    go_enter Try.func64, Try.ntmps64
    go_wp2
    go_end0
    refine ⟨rfl, ?_, grown_refl _ _⟩
    rw [failS_twice (s := (rs, e)) he]
    exact H.out

/-- What is left of the document's reader. -/
theorem RfQ.opens {w : World} {lo g : Nat} {s : St} (h : RfQ w lo g s) : ∃ A c bs I, w.cell? ⟨g, 0, none⟩ = some (.slice A bs.length c) ∧ w.cell? ⟨g, 1, none⟩ = some (.int .i64 ((I : Nat) : Int)) ∧ w.cell? ⟨g, 2, none⟩ = some (.int .i64 (s.2 : Int)) ∧
    RowQ w lo g (.slice A bs.length c) bs ∧ bs.length ≤ c ∧ c ≤ maxLen ∧ I ≤ bs.length ∧ bs.length ≤ 1000000 ∧ s.1 = if s.2 = 0 then bs.drop I else [] := by
  obtain ⟨v, bs, I, hh, hr, h1, h2, h3⟩ := h
  obtain ⟨A, c, rfl, hc1, hc2, _⟩ := hr.shape
  exact ⟨A, c, bs, I, cell_at hh 0, cell_at hh 1, cell_at hh 2, hr, hc1, hc2, h1, h2, h3⟩


set_option maxHeartbeats 800000 in
theorem refEndQ_any (lo g : Nat) (s : St) (w : World) (h : RfQ w lo g s) :
    Calls Try.prog 45 #[.pointer (some ⟨g, 0, none⟩)] w fun e w' => e = .returned (.int .i64 (endS s : Int)) ∧ ∃ m, w' = w.drewN m := by
  obtain ⟨A, c, bs, I, c0, c1, c2, hr, hc1, hc2, h1, h2, h3⟩ := h.opens
  obtain ⟨rs, e⟩ := s
  have h3 : rs = if e = 0 then bs.drop I else [] := h3
  simp at c2
  clear hr h
  by_cases he : e = 0
  · subst he
    rw [if_pos rfl] at h3
    have hl : rs.length = bs.length - I := by rw [h3, List.length_drop]
    by_cases hb : I < bs.length
    · have Hn := Lib.hid (show endS (rs, 0) = 2 by simp only [endS]; rw [if_pos ⟨trivial, by omega⟩])
      have q : decide ((I : Int) < (bs.length : Int)) = true := decide_eq_true (by omega)
      clear h3 hl
      go_enter Try.func45, Try.ntmps45
      go_wp2
      go_quiet (fail)
      go_wp2
      go_ret
      rw [Hn.out]
      exact ⟨rfl, _, rfl⟩
    · have Hn := Lib.hid (show endS (rs, 0) = 0 by simp only [endS]; rw [if_neg (fun h => by have := h.2; omega)])
      have q : decide ((I : Int) < (bs.length : Int)) = false := decide_eq_false (by omega)
      clear h3 hl
      go_enter Try.func45, Try.ntmps45
      go_wp2
      go_quiet (fail)
      go_wp2
      go_ret
      rw [Hn.out]
      exact ⟨rfl, _, rfl⟩
  · have Hn := Lib.hid (show endS (rs, e) = e by simp [endS, he])
    have q : ((e : Int) == 0) = false := by rw [beq_eq_false_iff_ne]; omega
    clear h3
    go_enter Try.func45, Try.ntmps45
    go_wp2
    go_quiet (fail)
    go_wp2
    go_ret
    rw [Hn.out]
    exact ⟨rfl, _, rfl⟩

/-- The reader goes on by so many bytes. -/
theorem RfQ.goes {w : World} {lo g I k : Nat} {v : Value} {bs : List UInt8} (hh : w.heap[g]? = some (.cells #[v, .int .i64 (I : Int), .int .i64 0] 68 (0, 0))) (hr : RowQ w lo g v bs) (hk : I + k ≤ bs.length) (hl : bs.length ≤ 1000000) (J : Int) (hJ : J = ((I + k : Nat) : Int)) :
    RfQ (w.setCell ⟨g, 1, none⟩ (.int .i64 J)) lo g (bs.drop (I + k), 0) := by
  subst hJ
  refine ⟨v, bs, I + k, ?_, hr.set hh (by decide) _, hk, hl, by simp⟩
  rw [heap_set hh 1]
  rfl
theorem RfQ.heap {w : World} {lo g : Nat} {s : St} (h : RfQ w lo g s) : ∃ A c bs I, w.heap[g]? = some (.cells #[.slice A bs.length c, .int .i64 ((I : Nat) : Int), .int .i64 (s.2 : Int)] 68 (0, 0)) ∧
    RowQ w lo g (.slice A bs.length c) bs ∧ bs.length ≤ c ∧ c ≤ maxLen ∧ I ≤ bs.length ∧ bs.length ≤ 1000000 ∧ s.1 = if s.2 = 0 then bs.drop I else [] := by
  obtain ⟨v, bs, I, hh, hr, h1, h2, h3⟩ := h
  obtain ⟨A, c, rfl, hc1, hc2, _⟩ := hr.shape
  exact ⟨A, c, bs, I, hh, hr, hc1, hc2, h1, h2, h3⟩

set_option maxHeartbeats 1600000 in
theorem refFlagRQ_any (lo g : Nat) (s : St) (w : World) (h : RfQ w lo g s) :
    Calls Try.prog 41 #[.pointer (some ⟨g, 0, none⟩)] w (RfQPost w lo g (.bool (flagS s).1) (flagS s).2) := by
  have H := Lib.hid h
  obtain ⟨A, c, bs, I, hh, hr, hc1, hc2, h1, h2, h3⟩ := h.heap
  obtain ⟨rs, e⟩ := s
  replace h3 : rs = if e = 0 then bs.drop I else [] := h3
  have c0 : w.cell? ⟨g, 0, none⟩ = some (.slice A bs.length c) := cell_at hh 0
  have c1 : w.cell? ⟨g, 1, none⟩ = some (.int .i64 (I : Int)) := cell_at hh 1
  have c2 : w.cell? ⟨g, 2, none⟩ = some (.int .i64 (e : Int)) := cell_at hh 2
  have f1 : w.frozen? ⟨g, 1, none⟩ = false := free_at hh 1
  have Hh := Lib.hid hh
  have HR := Lib.hid hr
  clear hh hr h
  by_cases he : e = 0
  · subst he
    rw [if_pos rfl] at h3
    by_cases hI : I < bs.length
    · obtain ⟨g2, off, c', hA, _, _, _, hcell⟩ := HR.out.addr (by omega)
      injection hA with hA1 hA2 hA3
      subst hA1
      obtain ⟨x, hx⟩ : ∃ x, bs[I]? = some x := ⟨_, List.getElem?_eq_getElem hI⟩
      have hc := hcell I x hx
      unfold bV at hc
      have hrs : rs = x :: bs.drop (I + 1) := by
        rw [h3, List.drop_eq_getElem_cons hI]
        rw [List.getElem?_eq_getElem hI] at hx
        injection hx with hx
        rw [hx]
      have hx2 : (x.toNat : Int) ≤ 255 := by have := x.toNat_lt; omega
      have Hf := Lib.hid (show flagS (rs, 0) = (x.toNat == 1, if 1 < x.toNat then failS (bs.drop (I + 1), 0) 2 else (bs.drop (I + 1), 0)) by rw [hrs]; rfl)
      have qI : decide ((bs.length : Int) ≤ (I : Int)) = false := decide_eq_false (by omega)
      clear hcell hx hrs h3
      by_cases hb : 1 < x.toNat
      · rw [if_pos hb] at Hf
        have q1 : decide ((1 : Int) < (x.toNat : Int)) = true := decide_eq_true (by omega)
        have Q3 := Lib.hid (show (x.toNat == 1) = false by rw [beq_eq_false_iff_ne]; omega)
        go_enter Try.func41, Try.ntmps41
        go_wp2_with fail
        go_quiet (fail)
        go_wp2_with fail
        go_quiet (fail)
        go_wp2_with fail
        refine (refFailQ_any lo g (rs, 0) 2 _ (H.out.drewN _) (by decide) (by decide)).mono ?_
        rintro e' w2 ⟨rfl, hr2, hg2⟩
        have HR2 := Lib.hid hr2
        have HG2 := Lib.hid (grown_pre hg2)
        clear hr2 hg2
        go_wp2_with fail
        go_ret
        rw [Hf.out, Q3.out]
        exact ⟨rfl, HR2.out, HG2.out⟩
      · rw [if_neg hb] at Hf
        have q1 : decide ((1 : Int) < (x.toNat : Int)) = false := decide_eq_false (by omega)
        by_cases hb1 : x.toNat = 1
        · have q2 : ((x.toNat : Int) == 1) = true := by rw [beq_iff_eq]; omega
          have Q3 := Lib.hid (show (x.toNat == 1) = true by rw [beq_iff_eq]; omega)
          clear hb1
          go_enter Try.func41, Try.ntmps41
          go_wp2_with fail
          go_quiet (fail)
          go_wp2_with fail
          go_quiet (fail)
          go_wp2_with fail
          go_ret
          rw [Hf.out, Q3.out]
          exact ⟨rfl, RfQ.goes (w := w.drewN _) Hh.out HR.out (by omega) h2 _ (by omega), grown_pre (grown_set (w.drewN _) g 1 _)⟩
        · have q2 : ((x.toNat : Int) == 1) = false := by rw [beq_eq_false_iff_ne]; omega
          have Q3 := Lib.hid (show (x.toNat == 1) = false by rw [beq_eq_false_iff_ne]; omega)
          clear hb1
          go_enter Try.func41, Try.ntmps41
          go_wp2_with fail
          go_quiet (fail)
          go_wp2_with fail
          go_quiet (fail)
          go_wp2_with fail
          go_ret
          rw [Hf.out, Q3.out]
          exact ⟨rfl, RfQ.goes (w := w.drewN _) Hh.out HR.out (by omega) h2 _ (by omega), grown_pre (grown_set (w.drewN _) g 1 _)⟩
    · have hrs : rs = [] := by rw [h3, List.drop_eq_nil_iff]; omega
      subst hrs
      have qI : decide ((bs.length : Int) ≤ (I : Int)) = true := decide_eq_true (by omega)
      have Hf := Lib.hid (show flagS ([], 0) = (false, failS ([], 0) 3) from rfl)
      clear h3
      go_enter Try.func41, Try.ntmps41
      go_wp2_with fail
      go_quiet (fail)
      go_wp2_with fail
      refine (refFailQ_any lo g ([], 0) 3 _ (H.out.drewN _) (by decide) (by decide)).mono ?_
      rintro e' w2 ⟨rfl, hr2, hg2⟩
      have HR2 := Lib.hid hr2
      have HG2 := Lib.hid (grown_pre hg2)
      clear hr2 hg2
      go_wp2_with fail
      go_ret
      rw [Hf.out]
      exact ⟨rfl, HR2.out, HG2.out⟩
  · rw [if_neg he] at h3
    have Hf := Lib.hid (show flagS (rs, e) = (false, (rs, e)) by rw [h3]; show (false, failS ([], e) 3) = _; rw [failS_twice (s := ([], e)) he])
    have q : ((e : Int) != 0) = true := by rw [bne_iff_ne]; omega
    clear h3
    go_enter Try.func41, Try.ntmps41
    go_wp2
    go_ret
    rw [Hf.out]
    exact ⟨rfl, H.out, grown_refl _ _⟩

set_option maxHeartbeats 3200000 in
theorem refNumRQ_any (lo g : Nat) (s : St) (w : World) (h : RfQ w lo g s) :
    Calls Try.prog 43 #[.pointer (some ⟨g, 0, none⟩)] w (RfQPost w lo g (.int .i64 ((numS s).1 : Int)) (numS s).2) := by
  have H := Lib.hid h
  obtain ⟨A, c, bs, I, hh, hr, hc1, hc2, h1, h2, h3⟩ := h.heap
  obtain ⟨rs, e⟩ := s
  replace h3 : rs = if e = 0 then bs.drop I else [] := h3
  have c0 : w.cell? ⟨g, 0, none⟩ = some (.slice A bs.length c) := cell_at hh 0
  have c1 : w.cell? ⟨g, 1, none⟩ = some (.int .i64 (I : Int)) := cell_at hh 1
  have c2 : w.cell? ⟨g, 2, none⟩ = some (.int .i64 (e : Int)) := cell_at hh 2
  have f1 : w.frozen? ⟨g, 1, none⟩ = false := free_at hh 1
  have Hh := Lib.hid hh
  have HR := Lib.hid hr
  clear hh hr h
  by_cases he : e = 0
  · subst he
    rw [if_pos rfl] at h3
    have hrl : rs.length = bs.length - I := by rw [h3, List.length_drop]
    have hat : ∀ (j : Nat) (x : UInt8), rs[j]? = some x → ∃ g2 off, A = some ⟨g2, off, none⟩ ∧ w.cell? ⟨g2, off + (I + j), none⟩ = some (.int .u8 (x.toNat : Int)) := by
      intro j x hx
      rw [h3, List.getElem?_drop] at hx
      have hl : I + j < bs.length := (List.getElem?_eq_some_iff.1 hx).1
      obtain ⟨g2, off, c', hA, _, _, _, hcell⟩ := HR.out.addr (by omega)
      injection hA with hA1 hA2 hA3
      exact ⟨g2, off, hA1, hcell (I + j) x hx⟩
    have HAT := Lib.hid hat
    have H3 := Lib.hid h3
    clear hat h3
    go_enter Try.func43, Try.ntmps43
    go_wp2_with fail
    go_loopw [3] (fun kk wr => ∃ k d : Nat, k ≤ 9 ∧ Hid (k ≤ goes rs) ∧ kk = .int .i64 (k : Int) ∧ wr = w.drewN d) (fun kk _ => 9 - (intOf kk).toNat)
    case atStart => exact ⟨0, 0, by omega, Lib.hid (Nat.zero_le _), rfl, rfl⟩
    case round =>
      obtain ⟨k, d, hk, Hkg, rfl, rfl⟩ := hrel
      have hkl : k ≤ rs.length := Nat.le_trans Hkg.out (goes_le rs)
      by_cases hk9 : k < 9
      · have q1 : decide ((k : Int) < 9) = true := decide_eq_true (by omega)
        by_cases hkr : k < rs.length
        · obtain ⟨x, hx⟩ : ∃ x, rs[k]? = some x := ⟨_, List.getElem?_eq_getElem hkr⟩
          obtain ⟨g2, off, rfl, hc⟩ := HAT.out k x hx
          have hx2 : (x.toNat : Int) ≤ 255 := by have := x.toNat_lt; omega
          have Hx := Lib.hid hx
          clear hx
          have q2 : decide ((I : Int) + (k : Int) < (bs.length : Int)) = true := decide_eq_true (by omega)
          by_cases hx1 : 128 ≤ x.toNat
          · have q3 : decide ((128 : Int) ≤ (x.toNat : Int)) = true := decide_eq_true (by omega)
            go_wp2_with fail
            go_quiet (fail)
            go_wp2_with fail
            refine ⟨⟨k + 1, _, by omega, Lib.hid (goes_more Hkg.out Hx.out hx1), by go_num, rfl⟩, ?_⟩
            simp [intOf]; omega
          · have q3 : decide ((128 : Int) ≤ (x.toNat : Int)) = false := decide_eq_false (by omega)
            have Hg := Lib.hid (goes_here Hkg.out Hx.out hx1)
            have q4 : ((k : Int) == 9) = false := by rw [beq_eq_false_iff_ne]; omega
            have q5 : (((I : Int) + (k : Int)) == (bs.length : Int)) = false := by rw [beq_eq_false_iff_ne]; omega
            go_wp2_with fail
            go_quiet (fail)
            go_wp2_with fail
            go_quiet (fail)
            go_wp2_with fail
            go_loopw [4, 5] (fun n i wr => ∃ j d : Nat, j ≤ k + 1 ∧ i = .int .i64 ((j : Int) - 1) ∧ n = .int .i64 (val ((rs.drop j).take (k + 1 - j)) : Int) ∧ wr = w.drewN d) (fun _ i _ => ((intOf i) + 1).toNat)
            case atStart => exact ⟨k + 1, _, by omega, by go_num, by simp [val], by rw [World.drewN_drewN]⟩
            case round =>
              obtain ⟨j, d2, hj, rfl, rfl, rfl⟩ := hrel
              by_cases hj0 : 0 < j
              · obtain ⟨y, hy⟩ : ∃ y, rs[j - 1]? = some y := ⟨_, List.getElem?_eq_getElem (by omega)⟩
                obtain ⟨g3, off3, hA3, hcy⟩ := HAT.out (j - 1) y hy
                injection hA3 with hA3
                injection hA3 with e1 e2 _
                subst e1 e2
                obtain ⟨i, rfl⟩ : ∃ i, j = i + 1 := ⟨j - 1, by omega⟩
                simp only [Nat.add_sub_cancel] at hy hcy
                have hy2 : (y.toNat : Int) ≤ 255 := by have := y.toNat_lt; omega
                have q6 : decide ((0 : Int) ≤ (i : Int)) = true := decide_eq_true (by omega)
                have HV := Lib.hid (val_down (k := k) hy (by omega))
                have hV := val_small (rs.drop (i + 1)) (k + 1 - (i + 1)) (by omega)
                generalize val ((rs.drop (i + 1)).take (k + 1 - (i + 1))) = V at *
                clear hy
                go_wp2_with fail
                go_quiet (fail)
                go_wp2_with fail
                refine ⟨⟨i, _, by omega, rfl, ?_, rfl⟩, ?_⟩
                · rw [HV.out]
                  exact congrArg (Value.int .i64) (by omega)
                · simp [intOf]
              · obtain rfl : j = 0 := by omega
                have HX : Hid (((digs (val (rs.take (k + 1)))).length ≠ k + 1) ↔ (x = 0 ∧ 0 < k)) := by
                  have := digs_val rs k Hg.out hkr
                  rw [show rs.getD k 0 = x by rw [List.getD_eq_getElem?_getD, Hx.out]; rfl] at this
                  exact Lib.hid this
                have hN : val (rs.take (k + 1)) < 9223372036854775808 := by
                  have h5 := Nat.lt_of_lt_of_le (val_take_lt rs (k + 1)) (pow128_le (show k + 1 ≤ 9 by omega))
                  rw [pow128_9] at h5
                  exact h5
                have HE := Lib.hid (numErr_at Hg.out Hx.out hk9)
                have HG := Lib.hid (numS_good (bs := rs) (e := 0) (k := k))
                have hV0 : val ((rs.drop 0).take (k + 1 - 0)) = val (rs.take (k + 1)) := rfl
                rw [hV0]
                clear hV0
                generalize val (rs.take (k + 1)) = N at *
                have hdl := len_digs N (by rw [pow128_9]; exact hN)
                have q6 : decide ((0 : Int) ≤ ((0 : Nat) : Int) - 1) = false := by decide
                go_wp2_with fail
                refine (refNumber_nat 8 N _ (by rw [show 8 + 1 = 9 from rfl, pow128_9]; exact hN) hN).mono ?_
                rintro e' w1 ⟨⟨g5, cap5, rfl, hg5, ho5⟩, hb5⟩
                have HR5 := Lib.hid ((H.out.drewN d2).below hb5)
                have HG5 := Lib.hid (grown_pre (grown_below hb5 g))
                have HHh := Lib.hid ((hb5.block g (heap_lt Hh.out)).trans Hh.out)
                have HRow := Lib.hid (RowQ.below (w := w.drewN d2) HR.out hb5)
                have e1 : w1.cell? ⟨g, 1, none⟩ = some (.int .i64 (I : Int)) := cell_at HHh.out 1
                have e2 : w1.frozen? ⟨g, 1, none⟩ = false := free_at HHh.out 1
                clear ho5 hb5 c0 c1 c2 f1 hc
                generalize (digs N).length = L at *
                by_cases hLk : L = k + 1
                · have q7 : ((L : Int) != ((k : Int) + 1)) = false := by rw [bne_eq_false_iff_eq]; omega
                  have Hn := Lib.hid (HG.out (by rw [HE.out, if_neg (fun h => HX.out.2 h hLk)]) Hg.out)
                  go_wp2_with fail
                  go_ret
                  rw [Hn.out]
                  refine ⟨rfl, ?_, grown_trans HG5.out (grown_set w1 g 1 _)⟩
                  rw [H3.out, List.drop_drop]
                  exact RfQ.goes HHh.out HRow.out (by omega) h2 _ (by omega)
                · have q7 : ((L : Int) != ((k : Int) + 1)) = true := by rw [bne_iff_ne]; omega
                  have Hn := Lib.hid (numS_bad (e := 0) (x := 2) (show numErr rs = 2 by rw [HE.out, if_pos (HX.out.1 hLk)]) (by decide))
                  go_wp2_with fail
                  refine (refFailQ_any lo g (rs, 0) 2 _ HR5.out (by decide) (by decide)).mono ?_
                  rintro e' w2 ⟨rfl, hr2, hg2⟩
                  have HR2 := Lib.hid hr2
                  have HG2 := Lib.hid (grown_trans HG5.out hg2)
                  clear hr2 hg2
                  go_wp2_with fail
                  go_ret
                  rw [Hn.out]
                  exact ⟨rfl, HR2.out, HG2.out⟩
        · have q2 : decide ((I : Int) + (k : Int) < (bs.length : Int)) = false := decide_eq_false (by omega)
          have q4 : ((k : Int) == 9) = false := by rw [beq_eq_false_iff_ne]; omega
          have q5 : (((I : Int) + (k : Int)) == (bs.length : Int)) = true := by rw [beq_iff_eq]; omega
          have Hn := Lib.hid (numS_bad (e := 0) (numErr_end (bs := rs) (by have := Hkg.out; have := goes_le rs; omega) (by omega)) (by decide))
          go_wp2_with fail
          go_quiet (fail)
          go_wp2_with fail
          go_quiet (fail)
          go_wp2_with fail
          refine (refFailQ_any lo g (rs, 0) 3 _ (H.out.drewN _) (by decide) (by decide)).mono ?_
          rintro e' w2 ⟨rfl, hr2, hg2⟩
          have HR2 := Lib.hid hr2
          have HG2 := Lib.hid (grown_pre hg2)
          clear hr2 hg2
          go_wp2_with fail
          go_ret
          rw [Hn.out]
          exact ⟨rfl, HR2.out, HG2.out⟩
      · obtain rfl : k = 9 := by omega
        have Hn := Lib.hid (numS_bad (e := 0) (numErr_go9 Hkg.out) (by decide))
        have q1 : decide (((9 : Nat) : Int) < 9) = false := by decide
        go_wp2_with fail
        go_quiet (fail)
        go_wp2_with fail
        refine (refFailQ_any lo g (rs, 0) 2 _ (H.out.drewN _) (by decide) (by decide)).mono ?_
        rintro e' w2 ⟨rfl, hr2, hg2⟩
        have HR2 := Lib.hid hr2
        have HG2 := Lib.hid (grown_pre hg2)
        clear hr2 hg2
        go_wp2_with fail
        go_ret
        rw [Hn.out]
        exact ⟨rfl, HR2.out, HG2.out⟩
  · rw [if_neg he] at h3
    subst h3
    have Hf := Lib.hid (numS_err he)
    have q : ((e : Int) != 0) = true := by rw [bne_iff_ne]; omega
    go_enter Try.func43, Try.ntmps43
    go_wp2_with fail
    go_ret
    rw [Hf.out]
    exact ⟨rfl, H.out, grown_refl _ _⟩

set_option maxHeartbeats 3200000 in
theorem refTextRQ_any (lo g : Nat) (s : St) (most : Int) (w : World) (h : RfQ w lo g s) (hm0 : -9223372036854775808 ≤ most) (hm1 : most ≤ 9223372036854775807) :
    Calls Try.prog 42 #[.pointer (some ⟨g, 0, none⟩), .int .i64 most] w (RfQPost w lo g (.string (strOf (textS s most).1)) (textS s most).2) := by
  obtain ⟨n, s1, hn⟩ : ∃ n s1, numS s = (n, s1) := ⟨_, _, rfl⟩
  have h1 : (numS s).1 = n := by rw [hn]
  have h2 : (numS s).2 = s1 := by rw [hn]
  have hnb := numS_fst_lt s
  rw [h1, pow128_9] at hnb
  have HN := Lib.hid (refNumRQ_any lo g s w h)
  have H1 := Lib.hid h1
  have H2 := Lib.hid h2
  clear h1 h2 hn h
  go_enter Try.func42, Try.ntmps42
  go_wp2_with fail
  refine HN.out.mono ?_
  rintro e w1 ⟨rfl, hr1, hg1⟩
  rw [H1.out]
  rw [H2.out] at hr1
  obtain ⟨A, c, bs, I, hh, hr, hc1, hc2, g1, g2, h3⟩ := hr1.heap
  have HR1 := Lib.hid hr1
  have HG1 := Lib.hid hg1
  clear hr1 hg1 HN
  obtain ⟨rs, e⟩ := s1
  replace h3 : rs = if e = 0 then bs.drop I else [] := h3
  have c0 : w1.cell? ⟨g, 0, none⟩ = some (.slice A bs.length c) := cell_at hh 0
  have c1 : w1.cell? ⟨g, 1, none⟩ = some (.int .i64 (I : Int)) := cell_at hh 1
  have c2 : w1.cell? ⟨g, 2, none⟩ = some (.int .i64 (e : Int)) := cell_at hh 2
  have f1 : w1.frozen? ⟨g, 1, none⟩ = false := free_at hh 1
  have Hh := Lib.hid hh
  have HR := Lib.hid hr
  clear hh hr
  by_cases he : e = 0
  · subst he
    rw [if_pos rfl] at h3
    have hrl : rs.length = bs.length - I := by rw [h3, List.length_drop]
    have H3 := Lib.hid h3
    clear h3
    by_cases hmost : most < (n : Int)
    · have Ht := Lib.hid (textS_most H1.out H2.out hmost)
      go_wp2_with fail
      refine (refFailQ_any lo g (rs, 0) 2 _ HR1.out (by decide) (by decide)).mono ?_
      rintro e' w2 ⟨rfl, hr2, hg2⟩
      have HR2 := Lib.hid hr2
      have HG2 := Lib.hid (grown_trans HG1.out hg2)
      clear hr2 hg2
      go_wp2_with fail
      go_ret
      rw [Ht.out]
      exact ⟨rfl, HR2.out, HG2.out⟩
    · by_cases hqn : rs.length < n
      · have Ht := Lib.hid (textS_short H1.out H2.out hmost hqn)
        have q6 : decide ((bs.length : Int) - (I : Int) < (n : Int)) = true := decide_eq_true (by omega)
        go_wp2_with fail
        go_quiet (fail)
        go_wp2_with fail
        refine (refFailQ_any lo g (rs, 0) 3 _ (HR1.out.drewN _) (by decide) (by decide)).mono ?_
        rintro e' w2 ⟨rfl, hr2, hg2⟩
        have HR2 := Lib.hid hr2
        have HG2 := Lib.hid (grown_trans HG1.out (grown_pre hg2))
        clear hr2 hg2
        go_wp2_with fail
        go_ret
        rw [Ht.out]
        exact ⟨rfl, HR2.out, HG2.out⟩
      · have Ht := Lib.hid (textS_take H1.out H2.out hmost hqn rfl)
        have q6 : decide ((bs.length : Int) - (I : Int) < (n : Int)) = false := decide_eq_false (by omega)
        have hcv := conv_pieceQ HR.out (show I + n ≤ bs.length by omega)
        rw [← H3.out] at hcv
        unfold maxLen at hc2
        go_wp2_with fail
        go_quiet (fail)
        go_wp2_with fail
        go_quiet (fail)
        go_wp2_with fail
        all_goals
          go_ret
          rw [Ht.out]
          refine ⟨rfl, ?_, grown_trans HG1.out (grown_pre (grown_set (w1.drewN _) g 1 _))⟩
          rw [H3.out, List.drop_drop]
          exact RfQ.goes (w := w1.drewN _) Hh.out HR.out (by omega) g2 _ (by omega)
  · have Ht := Lib.hid (textS_bad (most := most) H1.out H2.out he)
    have q : ((e : Int) != 0) = true := by rw [bne_iff_ne]; omega
    clear h3
    go_wp2_with fail
    go_ret
    rw [Ht.out]
    exact ⟨rfl, HR1.out, HG1.out⟩
end Go.Proofs.Ytnabbebkmafakaa

namespace Go.Proofs.Ytnabbebkmafakaa
open Go.RowKit
set_option linter.unusedVariables false
set_option linter.unusedSimpArgs false
set_option maxRecDepth 20000

set_option maxHeartbeats 3200000 in
theorem readEduQ_any (v : Value) (bs : List UInt8) (lo : Nat) (w : World) (h : ArgQ w lo v bs) (hl : bs.length ≤ 1000000) :
    Calls Try.prog 83 #[v] w fun x w' => x = .returned (.tuple #[(answerE 34 bs).val, .int .i64 (answerN 34 bs)]) ∧ Below w.heap.size w w' := by
  have HA := Lib.hid (answerE_eq 34 bs)
  have HN := Lib.hid (answerN_eq 34 bs)
  have HB := Lib.hid (readB_eq2 34 bs)
  generalize answerE 34 bs = ae at *
  generalize answerN 34 bs = an at *
  have HTl := Lib.hid (fun j => Nat.le_trans (stT_len 34 bs j) hl)
  have HNl := Lib.hid (fun j => Nat.le_trans (stN_len 34 bs j) hl)
  have HF := Lib.hid (fun j => show (fT 34 bs j).size ≤ maxLen from Nat.le_trans (fT_size 34 bs j) (Nat.le_trans hl (by unfold maxLen; omega)))
  have H0 := Lib.hid (stT_zero 34 bs)
  have H1 := Lib.hid (stT_succ 34 bs)
  have H2 := Lib.hid (fT_def 34 bs)
  have H3 := Lib.hid (stN_zero 34 bs)
  have H4 := Lib.hid (stN_succ 34 bs)
  have H5 := Lib.hid (nT_def 34 bs)
  generalize readB 34 bs = rb at *
  generalize stT 34 bs = st at *
  generalize stN 34 bs = sn at *
  generalize fT 34 bs = f at *
  generalize nT 34 bs = n at *
  have HRow := Lib.hid h
  clear h
  go_enter Try.func83, Try.ntmps83
  go_wp2_with fail
  have hz := heap_alloc_new w (.cells #[.int .i64 0, .string ⟨#[]⟩, .string ⟨#[]⟩, .string ⟨#[]⟩, .string ⟨#[]⟩, .bool false, .bool false, .int .i64 0, .int .i64 0, .int .i64 0, .int .i64 0] 50)
  have hbz := below_new w (.cells #[.int .i64 0, .string ⟨#[]⟩, .string ⟨#[]⟩, .string ⟨#[]⟩, .string ⟨#[]⟩, .bool false, .bool false, .int .i64 0, .int .i64 0, .int .i64 0, .int .i64 0] 50)
  have hsz := size_alloc1 w (.cells #[.int .i64 0, .string ⟨#[]⟩, .string ⟨#[]⟩, .string ⟨#[]⟩, .string ⟨#[]⟩, .bool false, .bool false, .int .i64 0, .int .i64 0, .int .i64 0, .int .i64 0] 50)
  have HRow2 := Lib.hid (HRow.out.below hbz)
  generalize hW : (w.alloc (.cells #[.int .i64 0, .string ⟨#[]⟩, .string ⟨#[]⟩, .string ⟨#[]⟩, .string ⟨#[]⟩, .bool false, .bool false, .int .i64 0, .int .i64 0, .int .i64 0, .int .i64 0] 50)) = W at *
  clear hW HRow
  refine (readQ_any v bs lo _ HRow2.out hl).mono ?_
  rintro e w1 ⟨⟨g, rfl, hg, hrd⟩, hb1⟩
  have hz1 := (hb1.block _ (heap_lt hz)).trans hz
  have HB1 := Lib.hid (later hbz (hb1.mono (by omega)))
  have hgw : w.heap.size < g := by omega
  replace hrd := Lib.hid (hrd.mono (Nat.zero_le _))
  clear hb1 hg hz hbz hsz HRow2 W
  go_wp2_with fail
  have HE := Lib.hid (show RdE w g w1.heap.size #[.int .i64 0, .string ⟨#[]⟩, .string ⟨#[]⟩, .string ⟨#[]⟩, .string ⟨#[]⟩, .bool false, .bool false, .int .i64 0, .int .i64 0, .int .i64 0, .int .i64 0] (bs, 0) (w1.alloc (.cells #[.int .i64 0, .string ⟨#[]⟩, .string ⟨#[]⟩, .string ⟨#[]⟩, .string ⟨#[]⟩, .bool false, .bool false, .int .i64 0, .int .i64 0, .int .i64 0, .int .i64 0] 50)) from ⟨later HB1.out (below_new w1 _), ⟨_, rfl, ((below_new w1 _).block _ (heap_lt hz1)).trans hz1⟩, hrd.out.below (below_new w1 _), heap_alloc_new w1 _, hgw, heap_lt hz1, by have := hrd.out.lt; omega⟩)
  generalize hW : (w1.alloc (.cells #[.int .i64 0, .string ⟨#[]⟩, .string ⟨#[]⟩, .string ⟨#[]⟩, .string ⟨#[]⟩, .bool false, .bool false, .int .i64 0, .int .i64 0, .int .i64 0, .int .i64 0] 50)) = W at *
  generalize hE : w1.heap.size = E at *
  clear hW hE HB1 hz1 hrd
  clear w1
  refine (readNum_any 0 g (bs, 0) _ HE.out.2.2.1 hl).mono ?_
  rintro e w2 ⟨rfl, hr2, hg2⟩
  replace HE := Lib.hid (HE.out.read hr2 hg2)
  clear hr2 hg2 W
  rw [H0.out] at HE
  generalize ((numS (bs, 0)).1 : Int) = k at *
  have hc0 : w2.cell? ⟨E, 0, none⟩ = _ := cell_at HE.out.2.2.2.1 0
  replace hc0 : w2.cell? ⟨E, 0, none⟩ = some (.int .i64 0) := hc0
  have hf0 := free_at HE.out.2.2.2.1 0
  go_wp2_with fail
  replace HE := Lib.hid (show RdE w g E #[.int .i64 k, .string ⟨#[]⟩, .string ⟨#[]⟩, .string ⟨#[]⟩, .string ⟨#[]⟩, .bool false, .bool false, .int .i64 0, .int .i64 0, .int .i64 0, .int .i64 0] (st 0) (w2.setCell ⟨E, 0, none⟩ (.int .i64 k)) from HE.out.store)
  have hs2 : (w2.setCell ⟨E, 0, none⟩ (.int .i64 k)).heap.size = w2.heap.size := by simp
  generalize hW : (w2.setCell ⟨E, 0, none⟩ (.int .i64 k)) = W2 at *
  generalize hPP : w2.heap.size = P at *
  clear hW hPP hc0 hf0
  clear w2
  have HP := Lib.hid (heap_alloc_new W2 (.cells #[.pointer (some ⟨E, 1, none⟩), .pointer (some ⟨E, 2, none⟩), .pointer (some ⟨E, 3, none⟩), .pointer (some ⟨E, 4, none⟩)] 98))
  have hP1 := HE.out.2.2.1.lt
  have hP2 := heap_lt HE.out.2.2.2.1
  replace HE := Lib.hid (HE.out.later (below_new W2 (.cells #[.pointer (some ⟨E, 1, none⟩), .pointer (some ⟨E, 2, none⟩), .pointer (some ⟨E, 3, none⟩), .pointer (some ⟨E, 4, none⟩)] 98)))
  generalize hW : (W2.alloc (.cells #[.pointer (some ⟨E, 1, none⟩), .pointer (some ⟨E, 2, none⟩), .pointer (some ⟨E, 3, none⟩), .pointer (some ⟨E, 4, none⟩)] 98)) = W3 at *
  rw [hs2] at HP hP1 hP2
  clear hW hs2
  clear W2
  replace hP1 : P ≠ g := by omega
  replace hP2 : P ≠ E := by omega
  go_loopw [21] (fun i wr => ∃ j : Nat, j ≤ 4 ∧ i = .int .i64 (j : Int) ∧ Hid (RdE w g E #[.int .i64 k, .string (if 0 < j then f 0 else ⟨#[]⟩), .string (if 1 < j then f 1 else ⟨#[]⟩), .string (if 2 < j then f 2 else ⟨#[]⟩), .string (if 3 < j then f 3 else ⟨#[]⟩), .bool false, .bool false, .int .i64 0, .int .i64 0, .int .i64 0, .int .i64 0] (st j) wr) ∧ Hid (wr.heap[P]? = some (.cells #[.pointer (some ⟨E, 1, none⟩), .pointer (some ⟨E, 2, none⟩), .pointer (some ⟨E, 3, none⟩), .pointer (some ⟨E, 4, none⟩)] 98 (0, 0)))) (fun i _ => 4 - (intOf i).toNat)
  case atStart => exact ⟨0, by omega, rfl, HE, HP⟩
  case round =>
    obtain ⟨j, hj, rfl, HK, HQ⟩ := hrel
    clear HE HP W3
    by_cases hlt : j < 4
    · have hc := ptr_cell HQ.out hlt
      have q1 : decide ((j : Int) < 4) = true := decide_eq_true (by omega)
      go_wp2_with fail
      clear hc
      refine (readText_any 0 g (st j) 34 _ HK.out.2.2.1 (HTl.out j) (by decide) (by decide)).mono ?_
      rintro e w3 ⟨rfl, hr3, hg3⟩
      rw [H1.out] at hr3
      rw [H2.out]
      replace HK := Lib.hid (HK.out.read hr3 hg3)
      replace HQ := Lib.hid (listed_read HQ.out hg3 hP1)
      clear hr3 hg3
      have hcc := (cell_at HK.out.2.2.2.1 (1 + j)).trans (cellT k f hlt)
      have hff := free_at HK.out.2.2.2.1 (1 + j)
      go_wp2_with fail
      replace HK := Lib.hid (HK.out.store (i := 1 + j) (u := .string (f j)))
      rw [stepT k f hlt] at HK
      replace HQ := Lib.hid (listed_store (i := 1 + j) (u := .string (f j)) HQ.out hP2)
      clear hcc hff
      go_roundw
      case rel => exact ⟨j + 1, by omega, by go_num, HK, HQ⟩
      case measure => simp [intOf]; omega
    · obtain rfl : j = 4 := by omega
      replace HK := Lib.hid (show RdE w g E #[.int .i64 k, .string (f 0), .string (f 1), .string (f 2), .string (f 3), .bool false, .bool false, .int .i64 0, .int .i64 0, .int .i64 0, .int .i64 0] (st 4) _ from HK.out)
      go_wp2_with fail
      refine (readFlag_any 0 g (st 4) _ HK.out.2.2.1 (HTl.out 4)).mono ?_
      rintro e w4 ⟨rfl, hr4, hg4⟩
      rw [H3.out] at hr4
      replace HK := Lib.hid (HK.out.read hr4 hg4)
      clear hr4 hg4 HQ hP1 hP2
      generalize (flagS (st 4)).1 = o at *
      have hc6 : w4.cell? ⟨E, 6, none⟩ = some (.bool false) := cell_at HK.out.2.2.2.1 6
      have hf6 := free_at HK.out.2.2.2.1 6
      go_wp2_with fail
      replace HK := Lib.hid (show RdE w g E #[.int .i64 k, .string (f 0), .string (f 1), .string (f 2), .string (f 3), .bool false, .bool o, .int .i64 0, .int .i64 0, .int .i64 0, .int .i64 0] (sn 0) (w4.setCell ⟨E, 6, none⟩ (.bool o)) from HK.out.store)
      have hs2 : (w4.setCell ⟨E, 6, none⟩ (.bool o)).heap.size = w4.heap.size := by simp
      generalize hW : (w4.setCell ⟨E, 6, none⟩ (.bool o)) = W2 at *
      generalize hPP : w4.heap.size = P2 at *
      clear hW hPP hc6 hf6
      clear w4
      have HP := Lib.hid (heap_alloc_new W2 (.cells #[.pointer (some ⟨E, 7, none⟩), .pointer (some ⟨E, 8, none⟩), .pointer (some ⟨E, 9, none⟩), .pointer (some ⟨E, 10, none⟩)] 100))
      have hP1 := HK.out.2.2.1.lt
      have hP2 := heap_lt HK.out.2.2.2.1
      have HE := Lib.hid (HK.out.later (below_new W2 (.cells #[.pointer (some ⟨E, 7, none⟩), .pointer (some ⟨E, 8, none⟩), .pointer (some ⟨E, 9, none⟩), .pointer (some ⟨E, 10, none⟩)] 100)))
      generalize hW : (W2.alloc (.cells #[.pointer (some ⟨E, 7, none⟩), .pointer (some ⟨E, 8, none⟩), .pointer (some ⟨E, 9, none⟩), .pointer (some ⟨E, 10, none⟩)] 100)) = W3 at *
      rw [hs2] at HP hP1 hP2
      clear hW hs2 HK
      clear W2
      replace hP1 : P2 ≠ g := by omega
      replace hP2 : P2 ≠ E := by omega
      go_loopw [39] (fun i wr => ∃ j : Nat, j ≤ 4 ∧ i = .int .i64 (j : Int) ∧ Hid (RdE w g E #[.int .i64 k, .string (f 0), .string (f 1), .string (f 2), .string (f 3), .bool false, .bool o, .int .i64 (if 0 < j then n 0 else 0), .int .i64 (if 1 < j then n 1 else 0), .int .i64 (if 2 < j then n 2 else 0), .int .i64 (if 3 < j then n 3 else 0)] (sn j) wr) ∧ Hid (wr.heap[P2]? = some (.cells #[.pointer (some ⟨E, 7, none⟩), .pointer (some ⟨E, 8, none⟩), .pointer (some ⟨E, 9, none⟩), .pointer (some ⟨E, 10, none⟩)] 100 (0, 0)))) (fun i _ => 4 - (intOf i).toNat)
      case atStart => exact ⟨0, by omega, rfl, HE, HP⟩
      case round =>
        obtain ⟨j, hj, rfl, HK, HQ⟩ := hrel
        clear HE HP W3
        by_cases hlt : j < 4
        · have hc := ptr_cell HQ.out hlt
          have q1 : decide ((j : Int) < 4) = true := decide_eq_true (by omega)
          go_wp2_with fail
          clear hc
          refine (readNum_any 0 g (sn j) _ HK.out.2.2.1 (HNl.out j)).mono ?_
          rintro e w3 ⟨rfl, hr3, hg3⟩
          rw [H4.out] at hr3
          rw [H5.out]
          replace HK := Lib.hid (HK.out.read hr3 hg3)
          replace HQ := Lib.hid (listed_read HQ.out hg3 hP1)
          clear hr3 hg3
          have hcc := (cell_at HK.out.2.2.2.1 (7 + j)).trans (cellN k f o n hlt)
          have hff := free_at HK.out.2.2.2.1 (7 + j)
          go_wp2_with fail
          replace HK := Lib.hid (HK.out.store (i := 7 + j) (u := .int .i64 (n j)))
          rw [stepN k f o n hlt] at HK
          replace HQ := Lib.hid (listed_store (i := 7 + j) (u := .int .i64 (n j)) HQ.out hP2)
          clear hcc hff
          go_roundw
          case rel => exact ⟨j + 1, by omega, by go_num, HK, HQ⟩
          case measure => simp [intOf]; omega
        · obtain rfl : j = 4 := by omega
          replace HK := Lib.hid (show RdE w g E #[.int .i64 k, .string (f 0), .string (f 1), .string (f 2), .string (f 3), .bool false, .bool o, .int .i64 (n 0), .int .i64 (n 1), .int .i64 (n 2), .int .i64 (n 3)] (sn 4) _ from HK.out)
          clear HQ hP1 hP2
          go_wp2_with fail
          refine (end_any 0 g (sn 4) _ HK.out.2.2.1 (HNl.out 4)).mono ?_
          rintro e wz ⟨rfl, rfl⟩
          replace HB := HB.out
          generalize endS (sn 4) = ee at *
          obtain ⟨X, hX, hx3⟩ := HK.out.2.1
          replace hx3 := Lib.hid hx3
          by_cases he : ee = 0
          · subst he
            rw [decide_eq_true rfl, Bool.true_and] at HB
            obtain ⟨d0, d1, d2, d3, d4, d5, d6, d7, d8, d9, d10⟩ := cells11 HK.out.2.2.2.1
            go_wp2_with fail
            refine (may_any ⟨k, f 0, f 1, f 2, f 3, false, o, n 0, n 1, n 2, n 3⟩ _ (HF.out 0) (HF.out 1) (HF.out 2) (HF.out 3)).mono ?_
            rintro e w5 ⟨rfl, hb5⟩
            rw [← HB]
            replace HK := Lib.hid (HK.out.later hb5)
            replace hx3 := Lib.hid ((hb5.block _ (heap_lt hx3.out)).trans hx3.out)
            clear d0 d1 d2 d3 d4 d5 d6 d7 d8 d9 d10 hb5 HB
            cases rb
            · have Hset := Lib.hid (setRow_heap _ _ _ #[.int .i64 0, .string ⟨#[]⟩, .string ⟨#[]⟩, .string ⟨#[]⟩, .string ⟨#[]⟩, .bool false, .bool false, .int .i64 0, .int .i64 0, .int .i64 0, .int .i64 0] _ _ hx3.out)
              have HBB := Lib.hid (below_setRow HK.out.1 (Nat.le_refl _) #[.int .i64 0, .string ⟨#[]⟩, .string ⟨#[]⟩, .string ⟨#[]⟩, .string ⟨#[]⟩, .bool false, .bool false, .int .i64 0, .int .i64 0, .int .i64 0, .int .i64 0])
              go_wp2_with (refine wpList_store_row rfl 50 (.tmp 2) (.tmp 56) rfl w.heap.size #[.int .i64 0, .string ⟨#[]⟩, .string ⟨#[]⟩, .string ⟨#[]⟩, .string ⟨#[]⟩, .bool false, .bool false, .int .i64 0, .int .i64 0, .int .i64 0, .int .i64 0] rfl rfl 50 X hx3.out edu_info (hX.trans rfl) (one11 _ _ _ _ _ _ _ _ _ _ _) ?_)
              generalize hW2 : World.setRow _ _ _ = W2 at Hset HBB ⊢
              clear hW2
              obtain ⟨f0, f1, f2, f3, f4, f5, f6, f7, f8, f9, f10⟩ := cells11 Hset.out
              go_wp2_with fail
              refine bodyPost_ret (v := .tuple #[.agg #[.int .i64 0, .string ⟨#[]⟩, .string ⟨#[]⟩, .string ⟨#[]⟩, .string ⟨#[]⟩, .bool false, .bool false, .int .i64 0, .int .i64 0, .int .i64 0, .int .i64 0], .int .i64 2]) ?_ rfl ⟨?_, HBB.out⟩
              · simp [results, Try.results83, go_sem, f0, f1, f2, f3, f4, f5, f6, f7, f8, f9, f10]
              · rw [HA.out, HN.out]; rfl
            · have Hset := Lib.hid (setRow_heap _ _ _ #[.int .i64 k, .string (f 0), .string (f 1), .string (f 2), .string (f 3), .bool false, .bool o, .int .i64 (n 0), .int .i64 (n 1), .int .i64 (n 2), .int .i64 (n 3)] _ _ hx3.out)
              have HBB := Lib.hid (below_setRow HK.out.1 (Nat.le_refl _) #[.int .i64 k, .string (f 0), .string (f 1), .string (f 2), .string (f 3), .bool false, .bool o, .int .i64 (n 0), .int .i64 (n 1), .int .i64 (n 2), .int .i64 (n 3)])
              obtain ⟨d0, d1, d2, d3, d4, d5, d6, d7, d8, d9, d10⟩ := cells11 HK.out.2.2.2.1
              go_wp2_with (refine wpList_store_row rfl 50 (.tmp 2) (.tmp 57) rfl w.heap.size #[.int .i64 k, .string (f 0), .string (f 1), .string (f 2), .string (f 3), .bool false, .bool o, .int .i64 (n 0), .int .i64 (n 1), .int .i64 (n 2), .int .i64 (n 3)] rfl rfl 50 X hx3.out edu_info (hX.trans rfl) (one11 _ _ _ _ _ _ _ _ _ _ _) ?_)
              generalize hW2 : World.setRow _ _ _ = W2 at Hset HBB ⊢
              clear hW2
              clear d0 d1 d2 d3 d4 d5 d6 d7 d8 d9 d10
              obtain ⟨f0, f1, f2, f3, f4, f5, f6, f7, f8, f9, f10⟩ := cells11 Hset.out
              go_wp2_with fail
              refine bodyPost_ret (v := .tuple #[.agg #[.int .i64 k, .string (f 0), .string (f 1), .string (f 2), .string (f 3), .bool false, .bool o, .int .i64 (n 0), .int .i64 (n 1), .int .i64 (n 2), .int .i64 (n 3)], .int .i64 0]) ?_ rfl ⟨?_, HBB.out⟩
              · simp [results, Try.results83, go_sem, f0, f1, f2, f3, f4, f5, f6, f7, f8, f9, f10]
              · rw [HA.out, HN.out]; rfl
          · have q : (((ee : Nat) : Int) != 0) = true := by rw [bne_iff_ne]; omega
            rw [decide_eq_false he, Bool.false_and] at HB
            subst HB
            have Hset := Lib.hid (setRow_heap _ _ _ #[.int .i64 0, .string ⟨#[]⟩, .string ⟨#[]⟩, .string ⟨#[]⟩, .string ⟨#[]⟩, .bool false, .bool false, .int .i64 0, .int .i64 0, .int .i64 0, .int .i64 0] _ _ hx3.out)
            have HBB := Lib.hid (below_setRow HK.out.1 (Nat.le_refl _) #[.int .i64 0, .string ⟨#[]⟩, .string ⟨#[]⟩, .string ⟨#[]⟩, .string ⟨#[]⟩, .bool false, .bool false, .int .i64 0, .int .i64 0, .int .i64 0, .int .i64 0])
            go_wp2_with (refine wpList_store_row rfl 50 (.tmp 2) (.tmp 56) rfl w.heap.size #[.int .i64 0, .string ⟨#[]⟩, .string ⟨#[]⟩, .string ⟨#[]⟩, .string ⟨#[]⟩, .bool false, .bool false, .int .i64 0, .int .i64 0, .int .i64 0, .int .i64 0] rfl rfl 50 X hx3.out edu_info (hX.trans rfl) (one11 _ _ _ _ _ _ _ _ _ _ _) ?_)
            generalize hW2 : World.setRow _ _ _ = W2 at Hset HBB ⊢
            clear hW2
            obtain ⟨f0, f1, f2, f3, f4, f5, f6, f7, f8, f9, f10⟩ := cells11 Hset.out
            go_wp2_with fail
            refine bodyPost_ret (v := .tuple #[.agg #[.int .i64 0, .string ⟨#[]⟩, .string ⟨#[]⟩, .string ⟨#[]⟩, .string ⟨#[]⟩, .bool false, .bool false, .int .i64 0, .int .i64 0, .int .i64 0, .int .i64 0], .int .i64 2]) ?_ rfl ⟨?_, HBB.out⟩
            · simp [results, Try.results83, go_sem, f0, f1, f2, f3, f4, f5, f6, f7, f8, f9, f10]
            · rw [HA.out, HN.out]; rfl
end Go.Proofs.Ytnabbebkmafakaa

namespace Go.Proofs.Ytnabbebkmafakaa
open Go.RowKit
set_option linter.unusedVariables false
set_option linter.unusedSimpArgs false
set_option maxRecDepth 20000

/-- The document's reader, and the EDU that is filled. -/
def RfEQ (w : World) (g E : Nat) (cs : Array Value) (s : St) (w' : World) : Prop :=
  Below w.heap.size w w' ∧ (∃ X : Array Value, X.size = 11 ∧ w'.heap[w.heap.size]? = some (.cells X 50 (0, 0))) ∧ RfQ w' w.heap.size g s ∧ w'.heap[E]? = some (.cells cs 50 (0, 0)) ∧ w.heap.size < g ∧ w.heap.size < E ∧ g ≠ E
theorem RfEQ.later {w w' w'' : World} {g E : Nat} {cs : Array Value} {s : St} (h : RfEQ w g E cs s w') (hb : Below w'.heap.size w' w'') : RfEQ w g E cs s w'' := by
  obtain ⟨h1, ⟨X, hX, h2⟩, h3, h4, h5⟩ := h
  exact ⟨Go.Proofs.Ytnabbebkmafakaa.later h1 hb, ⟨X, hX, (hb.block _ (heap_lt h2)).trans h2⟩, h3.below hb, (hb.block _ (heap_lt h4)).trans h4, h5⟩
theorem RfEQ.drewN {w w' : World} {g E : Nat} {cs : Array Value} {s : St} (h : RfEQ w g E cs s w') (n : Nat) : RfEQ w g E cs s (w'.drewN n) := ⟨below_drewN h.1 n, h.2⟩
theorem RfEQ.read {w w' w'' : World} {g E : Nat} {cs : Array Value} {s s' : St} (h : RfEQ w g E cs s w') (hr : RfQ w'' w.heap.size g s') (hg : w'.grownBy w'' (some g)) : RfEQ w g E cs s' w'' := by
  obtain ⟨h1, ⟨X, hX, h2⟩, h3, h4, h5, h6, h7⟩ := h
  exact ⟨below_grown h1 hg (by omega), ⟨X, hX, (hg.block _ (heap_lt h2) (fun e => by injection e with e; omega)).trans h2⟩, hr, (hg.block _ (heap_lt h4) (fun e => h7 (by injection e with e; exact e.symm))).trans h4, h5, h6, h7⟩
theorem RfEQ.store {w w' : World} {g E i : Nat} {cs : Array Value} {s : St} {u : Value} (h : RfEQ w g E cs s w') : RfEQ w g E (cs.setIfInBounds i u) s (w'.setCell ⟨E, i, none⟩ u) := by
  obtain ⟨h1, ⟨X, hX, h2⟩, ⟨v, bs, I, hh, hr, r⟩, h4, h5, h6, h7⟩ := h
  have hg := grown_set w' E i u
  exact ⟨h1.setCell (by simp; omega) _, ⟨X, hX, (hg.block _ (heap_lt h2) (fun e => by injection e with e; omega)).trans h2⟩, ⟨v, bs, I, (hg.block _ (heap_lt hh) (fun e => h7 (by injection e))).trans hh, hr.store (by omega) _, r⟩, heap_set h4 i u, h5, h6, h7⟩

set_option maxHeartbeats 3200000 in
theorem refReadQ_any (v : Value) (bs : List UInt8) (w : World) (h : ArgQ w w.heap.size v bs) (hl : bs.length ≤ 1000000) :
    Calls Try.prog 44 #[v] w fun x w' => x = .returned (.tuple #[(answerE 1000 bs).val, .int .i64 (answerN 1000 bs)]) ∧ Below w.heap.size w w' := by
  have HA := Lib.hid (answerE_eq 1000 bs)
  have HN := Lib.hid (answerN_eq 1000 bs)
  have HB := Lib.hid (readB_eq2 1000 bs)
  generalize answerE 1000 bs = ae at *
  generalize answerN 1000 bs = an at *
  have HF := Lib.hid (fun j => show (fT 1000 bs j).size ≤ maxLen from Nat.le_trans (fT_size 1000 bs j) (Nat.le_trans hl (by unfold maxLen; omega)))
  have H0 := Lib.hid (stT_zero 1000 bs)
  have H1 := Lib.hid (stT_succ 1000 bs)
  have H2 := Lib.hid (fT_def 1000 bs)
  have H3 := Lib.hid (stN_zero 1000 bs)
  have H4 := Lib.hid (stN_succ 1000 bs)
  have H5 := Lib.hid (nT_def 1000 bs)
  generalize readB 1000 bs = rb at *
  generalize stT 1000 bs = st at *
  generalize stN 1000 bs = sn at *
  generalize fT 1000 bs = f at *
  generalize nT 1000 bs = n at *
  have HRow := Lib.hid h
  obtain ⟨A, cc, rfl, _⟩ := h
  go_enter Try.func44, Try.ntmps44
  go_wp2_with fail
  have hE : RfEQ w (w.heap.size + 1) (w.heap.size + 1 + 1) #[.int .i64 0, .string ⟨#[]⟩, .string ⟨#[]⟩, .string ⟨#[]⟩, .string ⟨#[]⟩, .bool false, .bool false, .int .i64 0, .int .i64 0, .int .i64 0, .int .i64 0] (bs, 0) (((w.alloc (.cells #[.int .i64 0, .string ⟨#[]⟩, .string ⟨#[]⟩, .string ⟨#[]⟩, .string ⟨#[]⟩, .bool false, .bool false, .int .i64 0, .int .i64 0, .int .i64 0, .int .i64 0] 50)).alloc (.cells #[.slice A bs.length cc, .int .i64 0, .int .i64 0] 68)).alloc (.cells #[.int .i64 0, .string ⟨#[]⟩, .string ⟨#[]⟩, .string ⟨#[]⟩, .string ⟨#[]⟩, .bool false, .bool false, .int .i64 0, .int .i64 0, .int .i64 0, .int .i64 0] 50)) := by
    obtain ⟨e0, e1, e2, hb, _⟩ := at_three (w := w) (.cells #[.int .i64 0, .string ⟨#[]⟩, .string ⟨#[]⟩, .string ⟨#[]⟩, .string ⟨#[]⟩, .bool false, .bool false, .int .i64 0, .int .i64 0, .int .i64 0, .int .i64 0] 50) (.cells #[.slice A bs.length cc, .int .i64 0, .int .i64 0] 68) (.cells #[.int .i64 0, .string ⟨#[]⟩, .string ⟨#[]⟩, .string ⟨#[]⟩, .string ⟨#[]⟩, .bool false, .bool false, .int .i64 0, .int .i64 0, .int .i64 0, .int .i64 0] 50) rfl
    obtain ⟨_, e1', _, _⟩ := at_two (w := w) (.cells #[.int .i64 0, .string ⟨#[]⟩, .string ⟨#[]⟩, .string ⟨#[]⟩, .string ⟨#[]⟩, .bool false, .bool false, .int .i64 0, .int .i64 0, .int .i64 0, .int .i64 0] 50) (.cells #[.slice A bs.length cc, .int .i64 0, .int .i64 0] 68) rfl
    have hr1 := HRow.out.below (below_new w (.cells #[.int .i64 0, .string ⟨#[]⟩, .string ⟨#[]⟩, .string ⟨#[]⟩, .string ⟨#[]⟩, .bool false, .bool false, .int .i64 0, .int .i64 0, .int .i64 0, .int .i64 0] 50))
    have hr2 : RfQ ((w.alloc (.cells #[.int .i64 0, .string ⟨#[]⟩, .string ⟨#[]⟩, .string ⟨#[]⟩, .string ⟨#[]⟩, .bool false, .bool false, .int .i64 0, .int .i64 0, .int .i64 0, .int .i64 0] 50)).alloc (.cells #[.slice A bs.length cc, .int .i64 0, .int .i64 0] 68)) w.heap.size (w.heap.size + 1) (bs, 0) := ⟨_, bs, 0, e1', ⟨hr1.below (below_new _ _), by omega⟩, Nat.zero_le _, hl, by simp⟩
    exact ⟨hb, ⟨_, rfl, e0⟩, hr2.below (below_new _ _), e2, by omega, by omega, by omega⟩
  generalize hW : (((w.alloc (.cells #[.int .i64 0, .string ⟨#[]⟩, .string ⟨#[]⟩, .string ⟨#[]⟩, .string ⟨#[]⟩, .bool false, .bool false, .int .i64 0, .int .i64 0, .int .i64 0, .int .i64 0] 50)).alloc (.cells #[.slice A bs.length cc, .int .i64 0, .int .i64 0] 68)).alloc (.cells #[.int .i64 0, .string ⟨#[]⟩, .string ⟨#[]⟩, .string ⟨#[]⟩, .string ⟨#[]⟩, .bool false, .bool false, .int .i64 0, .int .i64 0, .int .i64 0, .int .i64 0] 50)) = W at *
  have HE := Lib.hid hE
  clear hW hE HRow
  generalize hg0 : w.heap.size + 1 = g at *
  generalize hE0 : g + 1 = E at *
  clear hg0 hE0
  refine (refNumRQ_any w.heap.size g (bs, 0) _ HE.out.2.2.1).mono ?_
  rintro e wa0 ⟨rfl, hr, hg⟩
  rw [H0.out] at hr
  replace HE := Lib.hid (HE.out.read hr hg)
  clear hr hg
  generalize ((numS (bs, 0)).1 : Int) = k at *
  have hc : wa0.cell? ⟨E, 0, none⟩ = some (.int .i64 0) := cell_at HE.out.2.2.2.1 0
  have hf := free_at HE.out.2.2.2.1 0
  go_upto_region 4 with (fail)
  replace HE := Lib.hid (show RfEQ w g E #[.int .i64 k, .string ⟨#[]⟩, .string ⟨#[]⟩, .string ⟨#[]⟩, .string ⟨#[]⟩, .bool false, .bool false, .int .i64 0, .int .i64 0, .int .i64 0, .int .i64 0] (st 0) (wa0.setCell ⟨E, 0, none⟩ (.int .i64 k)) from HE.out.store)
  generalize hWs : (wa0.setCell ⟨E, 0, none⟩ (.int .i64 k)) = wb0 at HE ⊢
  clear hWs hc hf
  go_wp2_with fail
  refine (refTextRQ_any w.heap.size g (st 0) 1000 _ HE.out.2.2.1 (by decide) (by decide)).mono ?_
  rintro e wa1 ⟨rfl, hr, hg⟩
  rw [H1.out] at hr
  rw [H2.out]
  replace HE := Lib.hid (HE.out.read hr hg)
  clear hr hg
  have hc : wa1.cell? ⟨E, 1, none⟩ = some (.string ⟨#[]⟩) := cell_at HE.out.2.2.2.1 1
  have hf := free_at HE.out.2.2.2.1 1
  go_upto_region 5 with (fail)
  replace HE := Lib.hid (show RfEQ w g E #[.int .i64 k, .string (f 0), .string ⟨#[]⟩, .string ⟨#[]⟩, .string ⟨#[]⟩, .bool false, .bool false, .int .i64 0, .int .i64 0, .int .i64 0, .int .i64 0] (st 1) (wa1.setCell ⟨E, 1, none⟩ (.string (f 0))) from HE.out.store)
  generalize hWs : (wa1.setCell ⟨E, 1, none⟩ (.string (f 0))) = wb1 at HE ⊢
  clear hWs hc hf
  go_wp2_with fail
  refine (refTextRQ_any w.heap.size g (st 1) 1000 _ HE.out.2.2.1 (by decide) (by decide)).mono ?_
  rintro e wa2 ⟨rfl, hr, hg⟩
  rw [H1.out] at hr
  rw [H2.out]
  replace HE := Lib.hid (HE.out.read hr hg)
  clear hr hg
  have hc : wa2.cell? ⟨E, 2, none⟩ = some (.string ⟨#[]⟩) := cell_at HE.out.2.2.2.1 2
  have hf := free_at HE.out.2.2.2.1 2
  go_upto_region 6 with (fail)
  replace HE := Lib.hid (show RfEQ w g E #[.int .i64 k, .string (f 0), .string (f 1), .string ⟨#[]⟩, .string ⟨#[]⟩, .bool false, .bool false, .int .i64 0, .int .i64 0, .int .i64 0, .int .i64 0] (st 2) (wa2.setCell ⟨E, 2, none⟩ (.string (f 1))) from HE.out.store)
  generalize hWs : (wa2.setCell ⟨E, 2, none⟩ (.string (f 1))) = wb2 at HE ⊢
  clear hWs hc hf
  go_wp2_with fail
  refine (refTextRQ_any w.heap.size g (st 2) 1000 _ HE.out.2.2.1 (by decide) (by decide)).mono ?_
  rintro e wa3 ⟨rfl, hr, hg⟩
  rw [H1.out] at hr
  rw [H2.out]
  replace HE := Lib.hid (HE.out.read hr hg)
  clear hr hg
  have hc : wa3.cell? ⟨E, 3, none⟩ = some (.string ⟨#[]⟩) := cell_at HE.out.2.2.2.1 3
  have hf := free_at HE.out.2.2.2.1 3
  go_upto_region 7 with (fail)
  replace HE := Lib.hid (show RfEQ w g E #[.int .i64 k, .string (f 0), .string (f 1), .string (f 2), .string ⟨#[]⟩, .bool false, .bool false, .int .i64 0, .int .i64 0, .int .i64 0, .int .i64 0] (st 3) (wa3.setCell ⟨E, 3, none⟩ (.string (f 2))) from HE.out.store)
  generalize hWs : (wa3.setCell ⟨E, 3, none⟩ (.string (f 2))) = wb3 at HE ⊢
  clear hWs hc hf
  go_wp2_with fail
  refine (refTextRQ_any w.heap.size g (st 3) 1000 _ HE.out.2.2.1 (by decide) (by decide)).mono ?_
  rintro e wa4 ⟨rfl, hr, hg⟩
  rw [H1.out] at hr
  rw [H2.out]
  replace HE := Lib.hid (HE.out.read hr hg)
  clear hr hg
  have hc : wa4.cell? ⟨E, 4, none⟩ = some (.string ⟨#[]⟩) := cell_at HE.out.2.2.2.1 4
  have hf := free_at HE.out.2.2.2.1 4
  go_upto_region 8 with (fail)
  replace HE := Lib.hid (show RfEQ w g E #[.int .i64 k, .string (f 0), .string (f 1), .string (f 2), .string (f 3), .bool false, .bool false, .int .i64 0, .int .i64 0, .int .i64 0, .int .i64 0] (st 4) (wa4.setCell ⟨E, 4, none⟩ (.string (f 3))) from HE.out.store)
  generalize hWs : (wa4.setCell ⟨E, 4, none⟩ (.string (f 3))) = wb4 at HE ⊢
  clear hWs hc hf
  go_wp2_with fail
  refine (refFlagRQ_any w.heap.size g (st 4) _ HE.out.2.2.1).mono ?_
  rintro e wa5 ⟨rfl, hr, hg⟩
  rw [H3.out] at hr
  replace HE := Lib.hid (HE.out.read hr hg)
  clear hr hg
  generalize (flagS (st 4)).1 = o at *
  have hc : wa5.cell? ⟨E, 6, none⟩ = some (.bool false) := cell_at HE.out.2.2.2.1 6
  have hf := free_at HE.out.2.2.2.1 6
  go_upto_region 9 with (fail)
  replace HE := Lib.hid (show RfEQ w g E #[.int .i64 k, .string (f 0), .string (f 1), .string (f 2), .string (f 3), .bool false, .bool o, .int .i64 0, .int .i64 0, .int .i64 0, .int .i64 0] (sn 0) (wa5.setCell ⟨E, 6, none⟩ (.bool o)) from HE.out.store)
  generalize hWs : (wa5.setCell ⟨E, 6, none⟩ (.bool o)) = wb5 at HE ⊢
  clear hWs hc hf
  go_wp2_with fail
  refine (refNumRQ_any w.heap.size g (sn 0) _ HE.out.2.2.1).mono ?_
  rintro e wa6 ⟨rfl, hr, hg⟩
  rw [H4.out] at hr
  rw [H5.out]
  replace HE := Lib.hid (HE.out.read hr hg)
  clear hr hg
  have hc : wa6.cell? ⟨E, 7, none⟩ = some (.int .i64 0) := cell_at HE.out.2.2.2.1 7
  have hf := free_at HE.out.2.2.2.1 7
  go_upto_region 10 with (fail)
  replace HE := Lib.hid (show RfEQ w g E #[.int .i64 k, .string (f 0), .string (f 1), .string (f 2), .string (f 3), .bool false, .bool o, .int .i64 (n 0), .int .i64 0, .int .i64 0, .int .i64 0] (sn 1) (wa6.setCell ⟨E, 7, none⟩ (.int .i64 (n 0))) from HE.out.store)
  generalize hWs : (wa6.setCell ⟨E, 7, none⟩ (.int .i64 (n 0))) = wb6 at HE ⊢
  clear hWs hc hf
  go_wp2_with fail
  refine (refNumRQ_any w.heap.size g (sn 1) _ HE.out.2.2.1).mono ?_
  rintro e wa7 ⟨rfl, hr, hg⟩
  rw [H4.out] at hr
  rw [H5.out]
  replace HE := Lib.hid (HE.out.read hr hg)
  clear hr hg
  have hc : wa7.cell? ⟨E, 8, none⟩ = some (.int .i64 0) := cell_at HE.out.2.2.2.1 8
  have hf := free_at HE.out.2.2.2.1 8
  go_upto_region 11 with (fail)
  replace HE := Lib.hid (show RfEQ w g E #[.int .i64 k, .string (f 0), .string (f 1), .string (f 2), .string (f 3), .bool false, .bool o, .int .i64 (n 0), .int .i64 (n 1), .int .i64 0, .int .i64 0] (sn 2) (wa7.setCell ⟨E, 8, none⟩ (.int .i64 (n 1))) from HE.out.store)
  generalize hWs : (wa7.setCell ⟨E, 8, none⟩ (.int .i64 (n 1))) = wb7 at HE ⊢
  clear hWs hc hf
  go_wp2_with fail
  refine (refNumRQ_any w.heap.size g (sn 2) _ HE.out.2.2.1).mono ?_
  rintro e wa8 ⟨rfl, hr, hg⟩
  rw [H4.out] at hr
  rw [H5.out]
  replace HE := Lib.hid (HE.out.read hr hg)
  clear hr hg
  have hc : wa8.cell? ⟨E, 9, none⟩ = some (.int .i64 0) := cell_at HE.out.2.2.2.1 9
  have hf := free_at HE.out.2.2.2.1 9
  go_upto_region 12 with (fail)
  replace HE := Lib.hid (show RfEQ w g E #[.int .i64 k, .string (f 0), .string (f 1), .string (f 2), .string (f 3), .bool false, .bool o, .int .i64 (n 0), .int .i64 (n 1), .int .i64 (n 2), .int .i64 0] (sn 3) (wa8.setCell ⟨E, 9, none⟩ (.int .i64 (n 2))) from HE.out.store)
  generalize hWs : (wa8.setCell ⟨E, 9, none⟩ (.int .i64 (n 2))) = wb8 at HE ⊢
  clear hWs hc hf
  go_wp2_with fail
  refine (refNumRQ_any w.heap.size g (sn 3) _ HE.out.2.2.1).mono ?_
  rintro e wa9 ⟨rfl, hr, hg⟩
  rw [H4.out] at hr
  rw [H5.out]
  replace HE := Lib.hid (HE.out.read hr hg)
  clear hr hg
  have hc : wa9.cell? ⟨E, 10, none⟩ = some (.int .i64 0) := cell_at HE.out.2.2.2.1 10
  have hf := free_at HE.out.2.2.2.1 10
  go_upto_region 13 with (fail)
  replace HE := Lib.hid (show RfEQ w g E #[.int .i64 k, .string (f 0), .string (f 1), .string (f 2), .string (f 3), .bool false, .bool o, .int .i64 (n 0), .int .i64 (n 1), .int .i64 (n 2), .int .i64 (n 3)] (sn 4) (wa9.setCell ⟨E, 10, none⟩ (.int .i64 (n 3))) from HE.out.store)
  generalize hWs : (wa9.setCell ⟨E, 10, none⟩ (.int .i64 (n 3))) = wb9 at HE ⊢
  clear hWs hc hf
  obtain ⟨d0, d1, d2, d3, d4, d5, d6, d7, d8, d9, d10⟩ := cells11 HE.out.2.2.2.1
  go_wp2_with fail
  clear d0 d1 d2 d3 d4 d5 d6 d7 d8 d9 d10
  refine (refMay_any ⟨k, f 0, f 1, f 2, f 3, false, o, n 0, n 1, n 2, n 3⟩ _ (HF.out 0) (HF.out 1) (HF.out 2) (HF.out 3)).mono ?_
  rintro e w5 ⟨rfl, hb5⟩
  replace HE := Lib.hid (HE.out.later hb5)
  clear hb5
  replace HB := HB.out
  generalize mayB _ = mb at *
  go_wp2_with fail
  refine (refEndQ_any w.heap.size g (sn 4) _ HE.out.2.2.1).mono ?_
  rintro e w6 ⟨rfl, nn, rfl⟩
  replace HE := Lib.hid (HE.out.drewN nn)
  generalize hWd : w5.drewN nn = w6 at HE ⊢
  clear hWd
  generalize endS (sn 4) = ee at *
  obtain ⟨X, hX, hx3⟩ := HE.out.2.1
  replace hx3 := Lib.hid hx3
  by_cases he : ee = 0
  · subst he
    rw [decide_eq_true rfl, Bool.true_and] at HB
    subst HB
    cases rb
    · have Hset := Lib.hid (setRow_heap _ _ _ #[.int .i64 0, .string ⟨#[]⟩, .string ⟨#[]⟩, .string ⟨#[]⟩, .string ⟨#[]⟩, .bool false, .bool false, .int .i64 0, .int .i64 0, .int .i64 0, .int .i64 0] _ _ hx3.out)
      have HBB := Lib.hid (below_setRow HE.out.1 (Nat.le_refl _) #[.int .i64 0, .string ⟨#[]⟩, .string ⟨#[]⟩, .string ⟨#[]⟩, .string ⟨#[]⟩, .bool false, .bool false, .int .i64 0, .int .i64 0, .int .i64 0, .int .i64 0])
      go_wp2_with (refine wpList_store_row rfl 50 (.tmp 2) (.tmp 49) rfl w.heap.size #[.int .i64 0, .string ⟨#[]⟩, .string ⟨#[]⟩, .string ⟨#[]⟩, .string ⟨#[]⟩, .bool false, .bool false, .int .i64 0, .int .i64 0, .int .i64 0, .int .i64 0] rfl rfl 50 X hx3.out edu_info (hX.trans rfl) (one11 _ _ _ _ _ _ _ _ _ _ _) ?_)
      generalize hW2 : World.setRow _ _ _ = W2 at Hset HBB ⊢
      clear hW2
      obtain ⟨f0, f1, f2, f3, f4, f5, f6, f7, f8, f9, f10⟩ := cells11 Hset.out
      go_wp2_with fail
      refine bodyPost_ret (v := .tuple #[.agg #[.int .i64 0, .string ⟨#[]⟩, .string ⟨#[]⟩, .string ⟨#[]⟩, .string ⟨#[]⟩, .bool false, .bool false, .int .i64 0, .int .i64 0, .int .i64 0, .int .i64 0], .int .i64 2]) ?_ rfl ⟨?_, HBB.out⟩
      · simp [results, Try.results44, go_sem, f0, f1, f2, f3, f4, f5, f6, f7, f8, f9, f10]
      · rw [HA.out, HN.out]; rfl
    · have Hset := Lib.hid (setRow_heap _ _ _ #[.int .i64 k, .string (f 0), .string (f 1), .string (f 2), .string (f 3), .bool false, .bool o, .int .i64 (n 0), .int .i64 (n 1), .int .i64 (n 2), .int .i64 (n 3)] _ _ hx3.out)
      have HBB := Lib.hid (below_setRow HE.out.1 (Nat.le_refl _) #[.int .i64 k, .string (f 0), .string (f 1), .string (f 2), .string (f 3), .bool false, .bool o, .int .i64 (n 0), .int .i64 (n 1), .int .i64 (n 2), .int .i64 (n 3)])
      obtain ⟨d0, d1, d2, d3, d4, d5, d6, d7, d8, d9, d10⟩ := cells11 HE.out.2.2.2.1
      go_wp2_with (refine wpList_store_row rfl 50 (.tmp 2) (.tmp 50) rfl w.heap.size #[.int .i64 k, .string (f 0), .string (f 1), .string (f 2), .string (f 3), .bool false, .bool o, .int .i64 (n 0), .int .i64 (n 1), .int .i64 (n 2), .int .i64 (n 3)] rfl rfl 50 X hx3.out edu_info (hX.trans rfl) (one11 _ _ _ _ _ _ _ _ _ _ _) ?_)
      generalize hW2 : World.setRow _ _ _ = W2 at Hset HBB ⊢
      clear hW2
      clear d0 d1 d2 d3 d4 d5 d6 d7 d8 d9 d10
      obtain ⟨f0, f1, f2, f3, f4, f5, f6, f7, f8, f9, f10⟩ := cells11 Hset.out
      go_wp2_with fail
      refine bodyPost_ret (v := .tuple #[.agg #[.int .i64 k, .string (f 0), .string (f 1), .string (f 2), .string (f 3), .bool false, .bool o, .int .i64 (n 0), .int .i64 (n 1), .int .i64 (n 2), .int .i64 (n 3)], .int .i64 0]) ?_ rfl ⟨?_, HBB.out⟩
      · simp [results, Try.results44, go_sem, f0, f1, f2, f3, f4, f5, f6, f7, f8, f9, f10]
      · rw [HA.out, HN.out]; rfl
  · have q : (((ee : Nat) : Int) != 0) = true := by rw [bne_iff_ne]; omega
    rw [decide_eq_false he, Bool.false_and] at HB
    subst HB
    have Hset := Lib.hid (setRow_heap _ _ _ #[.int .i64 0, .string ⟨#[]⟩, .string ⟨#[]⟩, .string ⟨#[]⟩, .string ⟨#[]⟩, .bool false, .bool false, .int .i64 0, .int .i64 0, .int .i64 0, .int .i64 0] _ _ hx3.out)
    have HBB := Lib.hid (below_setRow HE.out.1 (Nat.le_refl _) #[.int .i64 0, .string ⟨#[]⟩, .string ⟨#[]⟩, .string ⟨#[]⟩, .string ⟨#[]⟩, .bool false, .bool false, .int .i64 0, .int .i64 0, .int .i64 0, .int .i64 0])
    go_wp2_with (refine wpList_store_row rfl 50 (.tmp 2) (.tmp 49) rfl w.heap.size #[.int .i64 0, .string ⟨#[]⟩, .string ⟨#[]⟩, .string ⟨#[]⟩, .string ⟨#[]⟩, .bool false, .bool false, .int .i64 0, .int .i64 0, .int .i64 0, .int .i64 0] rfl rfl 50 X hx3.out edu_info (hX.trans rfl) (one11 _ _ _ _ _ _ _ _ _ _ _) ?_)
    generalize hW2 : World.setRow _ _ _ = W2 at Hset HBB ⊢
    clear hW2
    obtain ⟨f0, f1, f2, f3, f4, f5, f6, f7, f8, f9, f10⟩ := cells11 Hset.out
    go_wp2_with fail
    refine bodyPost_ret (v := .tuple #[.agg #[.int .i64 0, .string ⟨#[]⟩, .string ⟨#[]⟩, .string ⟨#[]⟩, .string ⟨#[]⟩, .bool false, .bool false, .int .i64 0, .int .i64 0, .int .i64 0, .int .i64 0], .int .i64 2]) ?_ rfl ⟨?_, HBB.out⟩
    · simp [results, Try.results44, go_sem, f0, f1, f2, f3, f4, f5, f6, f7, f8, f9, f10]
    · rw [HA.out, HN.out]; rfl
end Go.Proofs.Ytnabbebkmafakaa
