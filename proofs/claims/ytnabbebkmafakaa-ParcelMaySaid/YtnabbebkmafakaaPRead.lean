/-
  Package parcel: need, unpackEdu, walked.
-/
import Derived.Test.YtnabbebkmafakaaPRefBytes
import Derived.Test.YtnabbebkmafakaaMN
import Derived.Recover
import Derived.Lib.ConvBytes
namespace Go.Proofs.Ytnabbebkmafakaa
set_option maxRecDepth 20000
open Go.RowKit
set_option linter.unusedVariables false
set_option linter.unusedSimpArgs false

/-- What bytes are given up by. -/
def gaveUp : List PanicEntry := [{ v := .iface 30 (.int .i64 2), recovered := false }]
theorem need_yes (w : World) : Calls Try.prog 61 #[.bool true] w fun e w' => e = .returned (.tuple #[]) ∧ w = w' := by
  go_enter Try.func61, Try.ntmps61
  go_wp2_with fail
  go_end0
  exact ⟨rfl, rfl⟩
theorem need_no (w : World) : Calls Try.prog 61 #[.bool false] w fun e w' => e = .panicked gaveUp ∧ w = w' := by
  go_enter Try.func61, Try.ntmps61
  go_wp2_with fail
  exact ⟨rfl, rfl, rfl⟩

/-- The bytes of a text, in new memory. -/
theorem conv_bytes (s : ByteArray) (w : World) : (convert 9 29 (.string s)).run Try.prog w = .ok (.slice (some ⟨w.heap.size, 0, none⟩) s.size (grownCap w s.size 0 5)) (Lib.bytesWorld w 5 s) :=
  Lib.run_convert_string_bytes w 9 29 5 s Try.underlying9 Try.underlying29 Try.underlying5
theorem bytes_below (s : ByteArray) (w : World) : Below w.heap.size w (Lib.bytesWorld w 5 s) := by
  refine ⟨rfl, rfl, rfl, ?_, fun j hj => Lib.bytesWorld_at_old w _ s j hj⟩
  rw [Lib.bytesWorld_size]
  omega
theorem bytes_argQ (s : ByteArray) (w : World) (hs : s.size ≤ maxLen) : ArgQ (Lib.bytesWorld w 5 s) (w.heap.size + 1) (.slice (some ⟨w.heap.size, 0, none⟩) s.size (grownCap w s.size 0 5)) s.data.toList := by
  have hl : s.data.toList.length = s.size := by rw [Array.length_toList]; rfl
  refine ⟨_, _, by rw [hl], by rw [hl]; exact grownCap_ge _ _ _ _, grownCap_le_maxLen _ _ _ _ hs, (fun h => by cases h), fun _ => ⟨_, _, rfl, by omega, fun j x hx => ?_⟩⟩
  have hj : j < s.size := by rw [← hl]; exact (List.getElem?_eq_some_iff.1 hx).1
  rw [Nat.zero_add, Lib.bytesWorld_cell w _ s j hj, List.getD_eq_getElem?_getD, hx]
  rfl

/-- While an EDU is read: the reader, the cell of what is answered. -/
def UE (w : World) (lo g : Nat) (s : St) (X : Array Value) (wx : World) : Prop := w.grownBy wx (some g) ∧ Rd wx lo g s ∧ wx.heap[w.heap.size]? = some (.cells X 50 (0, 0)) ∧ g < w.heap.size
theorem UE.read {w wx w2 : World} {lo g : Nat} {s s' : St} {X : Array Value} (h : UE w lo g s X wx) (hr : Rd w2 lo g s') (hg : wx.grownBy w2 (some g)) : UE w lo g s' X w2 := by
  obtain ⟨h1, h2, h3, h4⟩ := h
  refine ⟨grown_trans h1 hg, hr, (hg.block _ (heap_lt h3) (by intro e; injection e with e; omega)).trans h3, h4⟩
theorem UE.later {w wx w2 : World} {lo g : Nat} {s : St} {X : Array Value} (h : UE w lo g s X wx) (hb : Below wx.heap.size wx w2) : UE w lo g s X w2 := by
  obtain ⟨h1, h2, h3, h4⟩ := h
  exact ⟨grown_trans h1 (grown_below hb g), h2.below hb, (hb.block _ (heap_lt h3)).trans h3, h4⟩
theorem UE.new {w : World} {lo g : Nat} {s : St} (X : Array Value) (h : Rd w lo g s) : UE w lo g s X (w.alloc (.cells X 50)) :=
  ⟨grown_below (below_new w _) g, h.below (below_new w _), heap_alloc_new w _, h.lt⟩
theorem UE.set {w wx : World} {lo g : Nat} {s : St} {X : Array Value} (h : UE w lo g s X wx) (Y : Array Value) : UE w lo g s Y (wx.setRow w.heap.size Y) := by
  obtain ⟨h1, h2, h3, h4⟩ := h
  have hfar : ∀ k, k ≠ w.heap.size → (wx.setRow w.heap.size Y).heap[k]? = wx.heap[k]? := fun k hk => setRow_other wx w.heap.size k Y hk
  have hsz : (wx.setRow w.heap.size Y).heap.size = wx.heap.size := setRow_size wx _ Y
  refine ⟨⟨h1.os, h1.tape, h1.output, by rw [hsz]; exact h1.size, fun k hk hn => (hfar k (by omega)).trans (h1.block k hk hn)⟩, ?_, setRow_heap _ _ _ Y _ _ h3, h4⟩
  obtain ⟨⟨v, hv, hr⟩, ho⟩ := h2
  refine ⟨⟨v, (hfar g (by omega)).trans hv, hr.keep fun b cur hb hc => hfar b ?_⟩, ho⟩
  intro e
  rw [e, h3] at hc
  injection hc with hc
  injection hc with _ hc
  exact absurd hc (by decide)
theorem answerN_yes {m : Int} {bs : List UInt8} (h : readB m bs = true) : answerN m bs = 0 ∧ answerE m bs = (readE m bs).1 := by
  unfold answerN answerE
  rw [h]
  exact ⟨rfl, rfl⟩
theorem answerN_no {m : Int} {bs : List UInt8} (h : readB m bs = false) : answerN m bs = 2 := by
  unfold answerN
  rw [h]
  rfl
theorem strOf_data (bs : List UInt8) : (strOf bs).data.toList = bs := by simp [strOf]

theorem text_shape (r : St) (n : Nat) (h : ¬ (if r.2 = 0 then (r.1.take n, (r.1.drop n, 0)) else ([], r) : List UInt8 × St).2.2 = 0) : (if r.2 = 0 then (r.1.take n, (r.1.drop n, 0)) else ([], r) : List UInt8 × St).1 = [] := by
  by_cases hr : r.2 = 0
  · rw [if_pos hr] at h
    exact absurd rfl h
  · rw [if_neg hr]
theorem text_len (s : St) (m : Int) : (textS s m).1.length ≤ s.1.length := by
  by_cases h : (textS s m).2.2 = 0
  · obtain ⟨h1, h2, h3, h4⟩ := textS_was h
    rw [h4, List.length_take]
    have := numS_len s
    omega
  · have : (textS s m).1 = [] := by
      exact text_shape _ _ h
    rw [this]
    exact Nat.zero_le _
set_option maxHeartbeats 1600000 in
theorem unpackEdu_no (lo g : Nat) (s : St) (w : World) (h : Rd w lo g s) (hl : s.1.length ≤ 1000000) (hno : readB 34 (textS s (s.1.length : Int)).1 = false) :
    Calls Try.prog 62 #[.pointer (some ⟨g, 0, none⟩)] w fun e w' => e = .panicked gaveUp ∧ w.grownBy w' (some g) := by
  have HU := Lib.hid (UE.new #[.int .i64 0, .string ⟨#[]⟩, .string ⟨#[]⟩, .string ⟨#[]⟩, .string ⟨#[]⟩, .bool false, .bool false, .int .i64 0, .int .i64 0, .int .i64 0, .int .i64 0] h)
  have hN := answerN_no hno
  have hT : (textS s (s.1.length : Int)).1.length ≤ 1000000 := Nat.le_trans (text_len _ _) hl
  clear h hno
  go_enter Try.func62, Try.ntmps62
  go_wp2_with fail
  generalize hW : w.alloc _ = W at *
  clear hW
  refine (left_any lo g s _ HU.out.2.1 hl).mono ?_
  rintro e w1 ⟨rfl, rfl⟩
  go_wp2_with fail
  refine (readText_any lo g s _ _ HU.out.2.1 hl (by omega) (by omega)).mono ?_
  rintro e w1 ⟨rfl, hr, hg⟩
  replace HU := Lib.hid (HU.out.read hr hg)
  clear hr hg W
  generalize (textS s (s.1.length : Int)).2 = s2 at *
  generalize (textS s (s.1.length : Int)).1 = tx at *
  have hcv := fun w => conv_bytes (strOf tx) w
  go_wp2_with fail
  have hq := bytes_argQ (strOf tx) w1 (by rw [strOf_size, maxLen_eq]; omega)
  rw [strOf_data] at hq
  refine (readEduQ_any _ tx _ _ hq hT).mono ?_
  rintro e w2 ⟨rfl, hb2⟩
  replace HU := Lib.hid ((HU.out.later (bytes_below _ _)).later hb2)
  clear hb2 hq hcv
  rw [hN]
  clear hN
  generalize answerE 34 tx = ae at *
  obtain ⟨x0, x1, x2, x3, x4, x5, x6, x7, x8, x9, x10⟩ := ae
  simp only [Edu.val]
  go_wp2_with fail
  refine (need_no _).mono ?_
  rintro e w3 ⟨rfl, rfl⟩
  exact ⟨rfl, rfl, (HU.out.later (below_new _ _)).1⟩
set_option maxHeartbeats 1600000 in
theorem unpackEdu_yes (lo g : Nat) (s : St) (w : World) (h : Rd w lo g s) (hl : s.1.length ≤ 1000000) (tx : List UInt8) (s2 : St) (hts : textS s (s.1.length : Int) = (tx, s2)) (ae : Edu) (hN : answerN 34 tx = 0) (hA : answerE 34 tx = ae) :
    Calls Try.prog 62 #[.pointer (some ⟨g, 0, none⟩)] w fun e w' => e = .returned ae.val ∧ Rd w' lo g s2 ∧ w.grownBy w' (some g) := by
  have HU := Lib.hid (UE.new #[.int .i64 0, .string ⟨#[]⟩, .string ⟨#[]⟩, .string ⟨#[]⟩, .string ⟨#[]⟩, .bool false, .bool false, .int .i64 0, .int .i64 0, .int .i64 0, .int .i64 0] h)
  have hT : tx.length ≤ 1000000 := by
    have := text_len s (s.1.length : Int)
    rw [hts] at this
    exact Nat.le_trans this hl
  have HTS := Lib.hid hts
  have HN := Lib.hid hN
  have HA := Lib.hid hA
  clear h hts hN hA
  go_enter Try.func62, Try.ntmps62
  go_wp2_with fail
  generalize hW : w.alloc _ = W at *
  clear hW
  refine (left_any lo g s _ HU.out.2.1 hl).mono ?_
  rintro e w1 ⟨rfl, rfl⟩
  go_wp2_with fail
  refine (readText_any lo g s _ _ HU.out.2.1 hl (by omega) (by omega)).mono ?_
  rintro e w1 ⟨rfl, hr, hg⟩
  rw [HTS.out] at hr ⊢
  replace HU := Lib.hid (HU.out.read hr hg)
  clear hr hg W HTS
  simp only
  have hcv := fun w => conv_bytes (strOf tx) w
  go_wp2_with fail
  have hq := bytes_argQ (strOf tx) w1 (by rw [strOf_size, maxLen_eq]; omega)
  rw [strOf_data] at hq
  refine (readEduQ_any _ tx _ _ hq hT).mono ?_
  rintro e w2 ⟨rfl, hb2⟩
  replace HU := Lib.hid ((HU.out.later (bytes_below _ _)).later hb2)
  clear hb2 hq hcv
  rw [HN.out, HA.out]
  clear HN HA
  obtain ⟨x0, x1, x2, x3, x4, x5, x6, x7, x8, x9, x10⟩ := ae
  simp only [Edu.val]
  go_wp2_with fail
  refine (need_yes _).mono ?_
  rintro e w3 ⟨rfl, rfl⟩
  have hnew := heap_alloc_new w2 (.cells #[.int .i64 x0, .string x1, .string x2, .string x3, .string x4, .bool x5, .bool x6, .int .i64 x7, .int .i64 x8, .int .i64 x9, .int .i64 x10] 50)
  replace HU := Lib.hid (HU.out.later (below_new w2 (.cells #[.int .i64 x0, .string x1, .string x2, .string x3, .string x4, .bool x5, .bool x6, .int .i64 x7, .int .i64 x8, .int .i64 x9, .int .i64 x10] 50)))
  generalize hW : (w2.alloc (.cells #[.int .i64 x0, .string x1, .string x2, .string x3, .string x4, .bool x5, .bool x6, .int .i64 x7, .int .i64 x8, .int .i64 x9, .int .i64 x10] 50)) = W2 at *
  generalize hgg : w2.heap.size = E at *
  clear hW hgg
  obtain ⟨f0, f1, f2, f3, f4, f5, f6, f7, f8, f9, f10⟩ := cells11 hnew
  clear hnew
  have Hset := Lib.hid (setRow_heap _ _ _ #[.int .i64 x0, .string x1, .string x2, .string x3, .string x4, .bool x5, .bool x6, .int .i64 x7, .int .i64 x8, .int .i64 x9, .int .i64 x10] _ _ HU.out.2.2.1)
  have HS := Lib.hid (HU.out.set #[.int .i64 x0, .string x1, .string x2, .string x3, .string x4, .bool x5, .bool x6, .int .i64 x7, .int .i64 x8, .int .i64 x9, .int .i64 x10])
  go_wp2_with (refine wpList_store_row rfl 50 (.tmp 2) (.tmp 19) rfl w.heap.size #[.int .i64 x0, .string x1, .string x2, .string x3, .string x4, .bool x5, .bool x6, .int .i64 x7, .int .i64 x8, .int .i64 x9, .int .i64 x10] rfl rfl 50 _ HU.out.2.2.1 edu_info rfl (one11 _ _ _ _ _ _ _ _ _ _ _) ?_)
  generalize hW2 : World.setRow _ _ _ = W3 at Hset HS ⊢
  clear hW2 f0 f1 f2 f3 f4 f5 f6 f7 f8 f9 f10
  obtain ⟨d0, d1, d2, d3, d4, d5, d6, d7, d8, d9, d10⟩ := cells11 Hset.out
  go_wp2_with fail
  refine bodyPost_ret (v := .agg #[.int .i64 x0, .string x1, .string x2, .string x3, .string x4, .bool x5, .bool x6, .int .i64 x7, .int .i64 x8, .int .i64 x9, .int .i64 x10]) ?_ rfl ⟨rfl, HS.out.2.1, HS.out.1⟩
  simp [results, Try.results62, go_sem, d0, d1, d2, d3, d4, d5, d6, d7, d8, d9, d10]
end Go.Proofs.Ytnabbebkmafakaa
