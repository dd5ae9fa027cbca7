/-
  A slice of bytes that was handed in, wherever it lies: it lies below block lo; what package bytes copies of it, and what package lay's reader is of it.
-/
import Derived.Test.YtahgkhcmchbpbaaRefText
import Derived.Test.YtahgkhcmchbpbaaReadB
namespace Go.Proofs.Ytahgkhcmchbpbaa
open Go.RowKit
set_option linter.unusedVariables false
set_option linter.unusedSimpArgs false
set_option maxRecDepth 4000

def ArgQ (w : World) (lo : Nat) (v : Value) (bs : List UInt8) : Prop :=
  ∃ A c, v = .slice A bs.length c ∧ bs.length ≤ c ∧ c ≤ maxLen ∧ (A = none → c = 0) ∧ (0 < bs.length → ∃ b off, A = some ⟨b, off, none⟩ ∧ b < lo ∧ ∀ j x, bs[j]? = some x → w.cell? ⟨b, off + j, none⟩ = some (bV x))
def RowQ (w : World) (lo g : Nat) (v : Value) (bs : List UInt8) : Prop := ArgQ w lo v bs ∧ lo ≤ g
theorem cell_heap {w w' : World} {b : Nat} (h : w'.heap[b]? = w.heap[b]?) (i : Nat) : w'.cell? ⟨b, i, none⟩ = w.cell? ⟨b, i, none⟩ := by simp [World.cell?, h]
theorem ArgQ.keep {w w' : World} {lo : Nat} {v : Value} {bs : List UInt8} (h : ArgQ w lo v bs) (hk : ∀ b, b < lo → b < w.heap.size → w'.heap[b]? = w.heap[b]?) : ArgQ w' lo v bs := by
  obtain ⟨A, c, hv, h1, h2, h3, h4⟩ := h
  refine ⟨A, c, hv, h1, h2, h3, fun h0 => ?_⟩
  obtain ⟨b, off, hA, hb, hc⟩ := h4 h0
  refine ⟨b, off, hA, hb, fun j x hx => ?_⟩
  have hcell := hc j x hx
  have hlt : b < w.heap.size := World.block_lt_of_cell? w _ hcell
  rw [cell_heap (hk b hb hlt)]
  exact hcell
theorem ArgQ.below {w w' : World} {lo : Nat} {v : Value} {bs : List UInt8} (h : ArgQ w lo v bs) (hb : Below w.heap.size w w') : ArgQ w' lo v bs := h.keep fun b _ hl => hb.block b hl
theorem ArgQ.more {w : World} {lo lo' : Nat} {v : Value} {bs : List UInt8} (h : ArgQ w lo v bs) (hl : lo ≤ lo') : ArgQ w lo' v bs := by
  obtain ⟨A, c, hv, h1, h2, h3, h4⟩ := h
  refine ⟨A, c, hv, h1, h2, h3, fun h0 => ?_⟩
  obtain ⟨b, off, hA, hb, hc⟩ := h4 h0
  exact ⟨b, off, hA, by omega, hc⟩
theorem RowQ.below {w w' : World} {lo g : Nat} {v : Value} {bs : List UInt8} (h : RowQ w lo g v bs) (hb : Below w.heap.size w w') : RowQ w' lo g v bs := ⟨h.1.below hb, h.2⟩
theorem RowQ.set {w : World} {lo g i : Nat} {v : Value} {bs : List UInt8} {cs : Array Value} {t : TypeId} (h : RowQ w lo g v bs) (hh : w.heap[g]? = some (.cells cs t (0, 0))) (ht : t ≠ 5) (u : Value) : RowQ (w.setCell ⟨g, i, none⟩ u) lo g v bs :=
  ⟨h.1.keep fun b hb _ => Below.heap_setCell w _ u b (by have := h.2; show b ≠ g; omega), h.2⟩
theorem RowQ.store {w : World} {lo g E i : Nat} {v : Value} {bs : List UInt8} (h : RowQ w lo g v bs) (hE : lo ≤ E) (u : Value) : RowQ (w.setCell ⟨E, i, none⟩ u) lo g v bs :=
  ⟨h.1.keep fun b hb _ => Below.heap_setCell w _ u b (by show b ≠ E; omega), h.2⟩
theorem RowQ.shape {w : World} {lo g : Nat} {v : Value} {bs : List UInt8} (h : RowQ w lo g v bs) : ∃ A c, v = .slice A bs.length c ∧ bs.length ≤ c ∧ c ≤ maxLen ∧ (A = none → c = 0) := by
  obtain ⟨⟨A, c, hv, h1, h2, h3, _⟩, _⟩ := h
  exact ⟨A, c, hv, h1, h2, h3⟩
theorem RowQ.addr {w : World} {lo g : Nat} {v : Value} {bs : List UInt8} (h : RowQ w lo g v bs) (h0 : 0 < bs.length) : ∃ b off c, v = .slice (some ⟨b, off, none⟩) bs.length c ∧ b < lo ∧ bs.length ≤ c ∧ c ≤ maxLen ∧ ∀ j x, bs[j]? = some x → w.cell? ⟨b, off + j, none⟩ = some (bV x) := by
  obtain ⟨⟨A, c, hv, h1, h2, h3, h4⟩, _⟩ := h
  obtain ⟨b, off, rfl, hb, hc⟩ := h4 h0
  exact ⟨b, off, c, hv, hb, h1, h2, hc⟩

theorem conv_cells {w : World} {b off c : Nat} {ys : List UInt8} (hcell : ∀ j x, ys[j]? = some x → w.cell? ⟨b, off + j, none⟩ = some (bV x)) : (convert 28 9 (.slice (some ⟨b, off, none⟩) ys.length c)).run Try.prog w = .ok (.string (strOf ys)) w := by
  have hr := run_convert_bytes_arg (P := Try.prog) w 28 5 Try.underlying28 Try.underlying5 b off ys.length c (ys.map fun b => (b.toNat : Int)) (by simp) (fun i hi => by
      rw [hcell i _ (List.getElem?_eq_getElem hi), List.getD_eq_getElem?_getD, List.getElem?_map, List.getElem?_eq_getElem hi]
      rfl) 9 Try.underlying9
  rw [hr]
  congr 2
  apply ByteArray.ext
  simp only [strOfNums, strOf, List.map_map]
  congr 1
  rw [show ys = ys.map id by simp]
  rw [List.map_map]
  apply List.map_congr_left
  intro x _
  simp [Function.comp]
theorem conv_empty (w : World) (X : Option Addr) (k : Nat) : (convert 28 9 (.slice X 0 k)).run Try.prog w = .ok (.string (strOf [])) w := by
  rw [run_convert_bytes_string w 28 9 5 X 0 k Try.underlying28 Try.underlying5 Try.underlying9]
  cases X <;> (simp [Conv.bytesToString, loadCells, loadCellsFrom, strOf, ByteArray.empty, ByteArray.emptyWithCapacity]; try rfl)
/-- A piece of a row, as it is cut out. -/
theorem conv_pieceQ {w : World} {lo g I n c : Nat} {A : Option Addr} {bs : List UInt8} (h : RowQ w lo g (.slice A bs.length c) bs) (hn : I + n ≤ bs.length) (d : Nat) :
    (convert 28 9 (.slice (if c = I then A else A.map (fun x : Addr => x.add I)) n (c - I))).run Try.prog (w.drewN d) = .ok (.string (strOf ((bs.drop I).take n))) (w.drewN d) := by
  rcases Nat.eq_zero_or_pos n with rfl | h0
  · rw [List.take_zero]
    exact conv_empty _ _ _
  · obtain ⟨b, off, c', hA, _, hc1, _, hcell⟩ := h.addr (by omega)
    injection hA with hA1 _ hA3
    subst hA1 hA3
    rw [if_neg (by omega)]
    have hl : ((bs.drop I).take n).length = n := by rw [List.length_take, List.length_drop]; omega
    have e1 : Option.map (fun x : Addr => x.add I) (some (⟨b, off, none⟩ : Addr)) = some ⟨b, off + I, none⟩ := by simp [Addr.add_lit]
    rw [e1]
    have := conv_cells (w := w.drewN d) (b := b) (off := off + I) (c := c - I) (ys := (bs.drop I).take n) (fun j x hx => by
      rw [List.getElem?_take] at hx
      split at hx
      · rw [List.getElem?_drop] at hx
        rw [Nat.add_assoc]
        exact hcell (I + j) x hx
      · cases hx)
    rw [hl] at this
    exact this

theorem Src.ofQ {w : World} {lo : Nat} {a : Addr} {c : Nat} {bs : List UInt8} (h : ArgQ w lo (.slice (some a) bs.length c) bs) : Src Try.prog 1 28 (.slice (some a) bs.length c) bs.length (bVs bs) w := by
  refine Src.ofSlice w Try.underlying28 a bs.length c _ (by rw [bVs_len]; omega) (fun j u hu => ?_) (bVs_one _)
  obtain ⟨x, hx, rfl⟩ := bVs_get hu
  obtain ⟨A, c', hv, _, _, _, h4⟩ := h
  injection hv with hv1 _ _
  obtain ⟨b, off, hA, _, hc⟩ := h4 (by have := (List.getElem?_eq_some_iff.1 hx).1; omega)
  rw [hA] at hv1
  injection hv1 with hv1
  subst hv1
  rw [Go.WideShapes.add_plain]
  exact hc j x hx

theorem cloneQ_any (v : Value) (bs : List UInt8) (lo : Nat) (w : World) (h : ArgQ w lo v bs) (hl : bs.length ≤ 1000000) :
    Calls Try.prog 70 #[v] w fun e w' => (∃ v', e = .returned v' ∧ Row w' w.heap.size v' bs) ∧ Below w.heap.size w w' := by
  have H := Lib.hid h
  obtain ⟨A, c, rfl, h1, h2, h3, h4⟩ := h
  clear h4
  cases A with
  | none =>
    obtain rfl : c = 0 := h3 rfl
    obtain rfl : bs = [] := List.eq_nil_of_length_eq_zero (by omega)
    clear H
    have hn := eql_nil none 0 0
    go_enter Try.func70, Try.ntmps70
    go_wp2_with fail
    go_ret
    exact ⟨⟨_, rfl, Row.nil _ _⟩, Below.refl _ _⟩
  | some a =>
    have hb0 : Below w.heap.size w (w.alloc (.cells #[] 5)) := (Below.refl _ w).alloc (Nat.le_refl _) _
    have HO : Hid (Own (w.alloc (.cells #[] 5)) w.heap.size 0 []) := Lib.hid ⟨#[], heap_alloc_new w _, Nat.le_refl _, Nat.zero_le _, rfl, rfl⟩
    have HS := Lib.hid (Src.ofQ (H.out.below hb0))
    have HB := Lib.hid hb0
    clear hb0 H
    have hn := eql_nil (some a) bs.length c
    go_enter Try.func70, Try.ntmps70
    go_wp2_with (at_builtin; refine wpList_puts rfl (.tmp 5) (.tmp 6) _ rfl rfl (.inr ⟨w.heap.size, 0, rfl, Nat.le_refl _, HO.out⟩) (by simp) (.slice (some a) bs.length c) bs.length bs rfl rfl HS.out (.inr ⟨w.heap.size, 0, rfl, Nat.le_refl _, HO.out⟩) (by simp; omega) ?_; rintro g2 cap2 w2 hg2 ho2 hb2)
    go_ret
    refine ⟨⟨_, rfl, ?_⟩, HB.out.trans hb2⟩
    have := ho2.row hg2
    simpa using this

theorem readQ_any (v : Value) (bs : List UInt8) (lo : Nat) (w : World) (h : ArgQ w lo v bs) (hl : bs.length ≤ 1000000) :
    Calls Try.prog 41 #[v] w fun e w' => (∃ g, e = .returned (.pointer (some ⟨g, 0, none⟩)) ∧ w.heap.size ≤ g ∧ Rd w' w.heap.size g (bs, 0)) ∧ Below w.heap.size w w' := by
  have H := Lib.hid h
  clear h
  go_enter Try.func41, Try.ntmps41
  go_wp2_with fail
  refine (cloneQ_any v bs lo _ H.out hl).mono ?_
  rintro e w1 ⟨⟨v1, rfl, hr⟩, hb⟩
  obtain ⟨A1, c1, rfl, _⟩ := hr.shape
  have HR := Lib.hid hr
  have HB := Lib.hid hb
  clear hr hb
  go_wp2_with fail
  go_ret
  have hb2 : Below w1.heap.size w1 (w1.alloc (.cells #[.slice A1 bs.length c1, .int .i64 0] 79)) := (Below.refl _ w1).alloc (Nat.le_refl _) _
  exact ⟨⟨w1.heap.size, rfl, HB.out.size, ⟨_, heap_alloc_new w1 _, HR.out.below hb2⟩, fun he => absurd rfl he⟩, later HB.out hb2⟩
end Go.Proofs.Ytahgkhcmchbpbaa
