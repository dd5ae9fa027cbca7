/-
  Texts, flags, copies of bytes, and a new reader: what package lay gives, and what the statements' own helpers give. What is made lies in new memory, and nothing that was there has turned.
-/
import Derived.Test.YtahgkhcmchbpbaaPuts
namespace Go.Proofs.Ytahgkhcmchbpbaa
open Go.RowKit
set_option linter.unusedVariables false
set_option linter.unusedSimpArgs false

/-- A call has made these bytes, in new memory, and nothing that was there has turned. -/
def PutPost (w : World) (bs : List UInt8) (e : Ending) (w' : World) : Prop := (∃ g cap, e = .returned (.slice (some ⟨g, 0, none⟩) bs.length cap) ∧ w.heap.size ≤ g ∧ Own w' g cap bs) ∧ Below w.heap.size w w'
theorem own_cast {w : World} {g cap : Nat} {a b : List UInt8} (h : Own w g cap a) (e : a = b) : Own w g cap b := e ▸ h

theorem number_put (v : Value) (bs : List UInt8) (lo : Nat) (n : Int) (w : World) (h : Row w lo v bs) (hl : bs.length ≤ 1000000) (h0 : -9223372036854775808 ≤ n) (h1 : n ≤ 9223372036854775807) :
    Calls Try.prog 55 #[v, .int .i64 n] w (PutPost w (bs ++ digs (natI n))) :=
  (number_any v bs lo n w h hl h0 h1).mono fun e w' ⟨⟨g, cap, he, hg, ho⟩, hb⟩ => ⟨⟨g, cap, by rw [he, List.length_append], hg, ho⟩, hb⟩

/-- A text's bytes. -/
def textB (s : ByteArray) : List UInt8 := digs s.size ++ s.data.toList
theorem textB_len (s : ByteArray) : (textB s).length = (digs s.size).length + s.size := by unfold textB; rw [List.length_append, Array.length_toList]; rfl
theorem len_digs (n : Nat) (h : n < 128 ^ 9) : (digs n).length ≤ 9 := digs_len 8 n h

set_option maxHeartbeats 800000 in
theorem text_put (v : Value) (bs : List UInt8) (lo : Nat) (s : ByteArray) (w : World) (h : Row w lo v bs) (hl : bs.length ≤ 1000000) (hs : s.size ≤ 1000000) :
    Calls Try.prog 56 #[v, .string s] w (PutPost w (bs ++ textB s)) := by
  have hd := len_digs s.size (Nat.lt_of_le_of_lt hs (by decide))
  obtain ⟨xs, hx⟩ : ∃ xs, xs = bs ++ digs s.size := ⟨_, rfl⟩
  have hxl : xs.length ≤ 1000009 := by rw [hx, List.length_append]; omega
  have Hx := Lib.hid hx
  have H := Lib.hid h
  have Hn := Lib.hid (number_put v bs lo (s.size : Int) w h hl (by omega) (by omega))
  clear hx h hd
  go_enter Try.func56, Try.ntmps56
  go_wp2_with fail
  refine Hn.out.mono ?_
  rintro e w1 ⟨⟨g, cap, rfl, hg, ho⟩, hb⟩
  rw [show natI (s.size : Int) = s.size from rfl, ← Hx.out] at ho ⊢
  have Ho := Lib.hid ho
  have Hb := Lib.hid hb
  clear ho hb Hn
  go_wp2_with (at_builtin; refine wpList_puts rfl (.tmp 8) (.tmp 9) _ rfl rfl (.inr ⟨g, cap, rfl, hg, Ho.out⟩) Hb.out.size (.string s) s.size s.data.toList rfl (by rw [Array.length_toList]; rfl) (Src.ofString _ Try.underlying9 s) (.inr ⟨g, cap, rfl, hg, Ho.out⟩) (by omega) ?_; rintro g2 cap2 w2 hg2 ho2 hb2)
  go_ret
  refine ⟨⟨g2, cap2, ?_, hg2, own_cast ho2 ?_⟩, Hb.out.trans hb2⟩
  · rw [List.length_append, textB_len, Hx.out, List.length_append, Nat.add_assoc]; rfl
  · rw [Hx.out]; unfold textB; rw [List.append_assoc]

/-- A flag's byte. -/
def flagB (is : Bool) : List UInt8 := [if is then 1 else 0]

set_option maxHeartbeats 800000 in
theorem flag_put (v : Value) (bs : List UInt8) (lo : Nat) (is : Bool) (w : World) (h : Row w lo v bs) (hl : bs.length ≤ 1000000) :
    Calls Try.prog 57 #[v, .bool is] w (PutPost w (bs ++ flagB is)) := by
  have H := Lib.hid h
  clear h
  cases is
  · go_enter Try.func57, Try.ntmps57
    go_wp2_with fail
    refine (own_any v bs lo _ H.out).mono ?_
    rintro e w' ⟨⟨A, rfl, hA⟩, rfl⟩
    have HP : Hid (Puts w w.heap.size (.slice A bs.length bs.length) bs) := Lib.hid (.inl ⟨A, rfl, hA.mono (Nat.zero_le _)⟩)
    clear hA
    go_wp2_with (at_builtin; refine wpList_puts rfl (.tmp 11) (.tmp 12) _ rfl rfl (HP.out.alloc _) (by simp) (.slice (some ⟨w.heap.size, 0, none⟩) 1 1) 1 [0] rfl rfl (Src.ofLit w 0 0 rfl _ rfl) (.inl (by decide)) (by omega) ?_; rintro g2 cap2 w2 hg2 ho2 hb2)
    go_ret
    exact ⟨⟨g2, cap2, by rw [List.length_append]; rfl, hg2, ho2⟩, ((Below.refl _ w).alloc (Nat.le_refl _) _).trans hb2⟩
  · go_enter Try.func57, Try.ntmps57
    go_wp2_with fail
    refine (own_any v bs lo _ H.out).mono ?_
    rintro e w' ⟨⟨A, rfl, hA⟩, rfl⟩
    have HP : Hid (Puts w w.heap.size (.slice A bs.length bs.length) bs) := Lib.hid (.inl ⟨A, rfl, hA.mono (Nat.zero_le _)⟩)
    clear hA
    go_wp2_with (at_builtin; refine wpList_puts rfl (.tmp 7) (.tmp 8) _ rfl rfl (HP.out.alloc _) (by simp) (.slice (some ⟨w.heap.size, 0, none⟩) 1 1) 1 [1] rfl rfl (Src.ofLit w 1 1 rfl _ rfl) (.inl (by decide)) (by omega) ?_; rintro g2 cap2 w2 hg2 ho2 hb2)
    go_ret
    exact ⟨⟨g2, cap2, by rw [List.length_append]; rfl, hg2, ho2⟩, ((Below.refl _ w).alloc (Nat.le_refl _) _).trans hb2⟩

theorem eql_nil (A : Option Addr) (n c : Nat) (w : World) : (binOp .eql 28 (.slice A n c) (.slice none 0 0)).run Try.prog w = .ok (.bool A.isNone) w := by
  have h : ∀ d : Nat, (Op.equalIn (d + 1) 28 (.slice A n c) (.slice none 0 0)).run Try.prog w = .ok A.isNone w := fun d => by
    cases A <;> simp [Op.equalIn, run_underlying Try.underlying28]
  simp only [binOp]
  simp [Op.equal, Op.maxDepth, h 9999]

/-- A copy. -/
theorem cloneB_any (v : Value) (bs : List UInt8) (lo : Nat) (w : World) (h : Row w lo v bs) (hl : bs.length ≤ 1000000) :
    Calls Try.prog 70 #[v] w fun e w' => (∃ v', e = .returned v' ∧ Row w' w.heap.size v' bs) ∧ Below w.heap.size w w' := by
  have H := Lib.hid h
  rcases h with ⟨rfl, rfl⟩ | ⟨g, off, c, cur, rfl, hg, hh, h1, h2, h3⟩
  · have hn := eql_nil none 0 0
    go_enter Try.func70, Try.ntmps70
    go_wp2_with fail
    go_ret
    exact ⟨⟨_, rfl, Row.nil _ _⟩, Below.refl _ _⟩
  · clear hh h3
    have hb0 : Below w.heap.size w (w.alloc (.cells #[] 5)) := (Below.refl _ w).alloc (Nat.le_refl _) _
    have HO : Hid (Own (w.alloc (.cells #[] 5)) w.heap.size 0 []) := Lib.hid ⟨#[], heap_alloc_new w _, Nat.le_refl _, Nat.zero_le _, rfl, rfl⟩
    have HS := Lib.hid (Src.ofRow rfl (H.out.below hb0))
    have HB := Lib.hid hb0
    clear hb0
    have hn := eql_nil (some ⟨g, off, none⟩) bs.length c
    go_enter Try.func70, Try.ntmps70
    go_wp2_with (at_builtin; refine wpList_puts rfl (.tmp 5) (.tmp 6) _ rfl rfl (.inr ⟨w.heap.size, 0, rfl, Nat.le_refl _, HO.out⟩) (by simp) (.slice (some ⟨g, off, none⟩) bs.length c) bs.length bs rfl rfl HS.out (.inr ⟨w.heap.size, 0, rfl, Nat.le_refl _, HO.out⟩) (by simp; omega) ?_; rintro g2 cap2 w2 hg2 ho2 hb2)
    go_ret
    refine ⟨⟨_, rfl, ?_⟩, HB.out.trans hb2⟩
    have := ho2.row hg2
    simpa using this

/-- A reader: the bytes that are left lie from block lo on. -/
def Rd (w : World) (lo g : Nat) (s : St) : Prop := (∃ v, w.heap[g]? = some (.cells #[v, .int .i64 (s.2 : Int)] 79 (0, 0)) ∧ Row w lo v s.1) ∧ Ok s
theorem Rd.below {w w' : World} {lo g : Nat} {s : St} (h : Rd w lo g s) (hb : Below w.heap.size w w') : Rd w' lo g s := by
  obtain ⟨⟨v, hh, hr⟩, ho⟩ := h
  exact ⟨⟨v, (hb.block g (heap_lt hh)).trans hh, hr.below hb⟩, ho⟩

theorem read_any (v : Value) (bs : List UInt8) (lo : Nat) (w : World) (h : Row w lo v bs) (hl : bs.length ≤ 1000000) :
    Calls Try.prog 41 #[v] w fun e w' => (∃ g, e = .returned (.pointer (some ⟨g, 0, none⟩)) ∧ w.heap.size ≤ g ∧ Rd w' w.heap.size g (bs, 0)) ∧ Below w.heap.size w w' := by
  have H := Lib.hid h
  clear h
  go_enter Try.func41, Try.ntmps41
  go_wp2_with fail
  refine (cloneB_any v bs lo _ H.out hl).mono ?_
  rintro e w1 ⟨⟨v1, rfl, hr⟩, hb⟩
  obtain ⟨A1, c1, rfl, _⟩ := hr.shape
  have HR := Lib.hid hr
  have HB := Lib.hid hb
  clear hr hb
  go_wp2_with fail
  go_ret
  have hb2 : Below w1.heap.size w1 (w1.alloc (.cells #[.slice A1 bs.length c1, .int .i64 0] 79)) := (Below.refl _ w1).alloc (Nat.le_refl _) _
  exact ⟨⟨w1.heap.size, rfl, HB.out.size, ⟨_, heap_alloc_new w1 _, HR.out.below hb2⟩, fun he => absurd rfl he⟩, later HB.out hb2⟩
end Go.Proofs.Ytahgkhcmchbpbaa
