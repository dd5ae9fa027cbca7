/-
  The EDU of bytes: the document's.
-/
import Derived.Test.YtahgkhcmchbpbaaReadA
import Derived.Test.YtahgkhcmchbpbaaRefMay
namespace Go.Proofs.Ytahgkhcmchbpbaa
open Go.RowKit
set_option linter.unusedVariables false
set_option linter.unusedSimpArgs false
set_option maxRecDepth 4000

/-- The document's reader, and the EDU that is filled. -/
def RfE (w : World) (g E : Nat) (cs : Array Value) (s : St) (w' : World) : Prop :=
  Below w.heap.size w w' ∧ (∃ X : Array Value, X.size = 11 ∧ w'.heap[w.heap.size]? = some (.cells X 23 (0, 0))) ∧ Rf w' 0 g s ∧ w'.heap[E]? = some (.cells cs 23 (0, 0)) ∧ w.heap.size < g ∧ w.heap.size < E ∧ g ≠ E
theorem RfE.later {w w' w'' : World} {g E : Nat} {cs : Array Value} {s : St} (h : RfE w g E cs s w') (hb : Below w'.heap.size w' w'') : RfE w g E cs s w'' := by
  obtain ⟨h1, ⟨X, hX, h2⟩, h3, h4, h5⟩ := h
  exact ⟨Go.Proofs.Ytahgkhcmchbpbaa.later h1 hb, ⟨X, hX, (hb.block _ (heap_lt h2)).trans h2⟩, h3.below hb, (hb.block _ (heap_lt h4)).trans h4, h5⟩
theorem RfE.drewN {w w' : World} {g E : Nat} {cs : Array Value} {s : St} (h : RfE w g E cs s w') (n : Nat) : RfE w g E cs s (w'.drewN n) := ⟨below_drewN h.1 n, h.2⟩
theorem RfE.read {w w' w'' : World} {g E : Nat} {cs : Array Value} {s s' : St} (h : RfE w g E cs s w') (hr : Rf w'' 0 g s') (hg : w'.grownBy w'' (some g)) : RfE w g E cs s' w'' := by
  obtain ⟨h1, ⟨X, hX, h2⟩, h3, h4, h5, h6, h7⟩ := h
  exact ⟨below_grown h1 hg (by omega), ⟨X, hX, (hg.block _ (heap_lt h2) (fun e => by injection e with e; omega)).trans h2⟩, hr, (hg.block _ (heap_lt h4) (fun e => h7 (by injection e with e; exact e.symm))).trans h4, h5, h6, h7⟩
theorem RfE.store {w w' : World} {g E i : Nat} {cs : Array Value} {s : St} {u : Value} (h : RfE w g E cs s w') : RfE w g E (cs.setIfInBounds i u) s (w'.setCell ⟨E, i, none⟩ u) := by
  obtain ⟨h1, ⟨X, hX, h2⟩, ⟨v, bs, I, hh, hr, r⟩, h4, h5, h6, h7⟩ := h
  have hg := grown_set w' E i u
  exact ⟨h1.setCell (by simp; omega) _, ⟨X, hX, (hg.block _ (heap_lt h2) (fun e => by injection e with e; omega)).trans h2⟩, ⟨v, bs, I, (hg.block _ (heap_lt hh) (fun e => h7 (by injection e))).trans hh, hr.grown hg (not_bytes h4 (by decide)), r⟩, heap_set h4 i u, h5, h6, h7⟩

set_option maxHeartbeats 3200000 in
theorem refReadE_any (v : Value) (bs : List UInt8) (lo : Nat) (w : World) (h : Row w lo v bs) (hl : bs.length ≤ 1000000) :
    Calls Try.prog 21 #[v] w fun x w' => x = .returned (.tuple #[(answerE 1000 bs).val, .int .i64 (answerN 1000 bs)]) ∧ Below w.heap.size w w' := by
  have HA := Lib.hid (answerE_eq 1000 bs)
  have HN := Lib.hid (answerN_eq 1000 bs)
  have HB := Lib.hid (readB_eq2 1000 bs)
  generalize answerE 1000 bs = ae at *
  generalize answerN 1000 bs = an at *
  have HF := Lib.hid (fun j => show (fT 1000 bs j).size ≤ maxLen from Nat.le_trans (fT_size 1000 bs j) (Nat.le_trans hl (by unfold maxLen; omega)))
  have H0 := Lib.hid (stT_zero 1000 bs)
  have H1 := Lib.hid (stT_succ 1000 bs)
  have H2 := Lib.hid (fT_def 1000 bs)
  have H3 := Lib.hid (stN_zero 1000 bs)
  have H4 := Lib.hid (stN_succ 1000 bs)
  have H5 := Lib.hid (nT_def 1000 bs)
  generalize readB 1000 bs = rb at *
  generalize stT 1000 bs = st at *
  generalize stN 1000 bs = sn at *
  generalize fT 1000 bs = f at *
  generalize nT 1000 bs = n at *
  obtain ⟨A, cc, rfl, _⟩ := h.shape
  have HRow := Lib.hid (h.mono (Nat.zero_le _))
  clear h
  go_enter Try.func21, Try.ntmps21
  go_wp2_with fail
  have hE : RfE w (w.heap.size + 1) (w.heap.size + 1 + 1) #[.int .i64 0, .string ⟨#[]⟩, .string ⟨#[]⟩, .string ⟨#[]⟩, .string ⟨#[]⟩, .bool false, .bool false, .int .i64 0, .int .i64 0, .int .i64 0, .int .i64 0] (bs, 0) (((w.alloc (.cells #[.int .i64 0, .string ⟨#[]⟩, .string ⟨#[]⟩, .string ⟨#[]⟩, .string ⟨#[]⟩, .bool false, .bool false, .int .i64 0, .int .i64 0, .int .i64 0, .int .i64 0] 23)).alloc (.cells #[.slice A bs.length cc, .int .i64 0, .int .i64 0] 67)).alloc (.cells #[.int .i64 0, .string ⟨#[]⟩, .string ⟨#[]⟩, .string ⟨#[]⟩, .string ⟨#[]⟩, .bool false, .bool false, .int .i64 0, .int .i64 0, .int .i64 0, .int .i64 0] 23)) := by
    obtain ⟨e0, e1, e2, hb, _⟩ := at_three (w := w) (.cells #[.int .i64 0, .string ⟨#[]⟩, .string ⟨#[]⟩, .string ⟨#[]⟩, .string ⟨#[]⟩, .bool false, .bool false, .int .i64 0, .int .i64 0, .int .i64 0, .int .i64 0] 23) (.cells #[.slice A bs.length cc, .int .i64 0, .int .i64 0] 67) (.cells #[.int .i64 0, .string ⟨#[]⟩, .string ⟨#[]⟩, .string ⟨#[]⟩, .string ⟨#[]⟩, .bool false, .bool false, .int .i64 0, .int .i64 0, .int .i64 0, .int .i64 0] 23) rfl
    have hr1 := HRow.out.below (below_new w (.cells #[.int .i64 0, .string ⟨#[]⟩, .string ⟨#[]⟩, .string ⟨#[]⟩, .string ⟨#[]⟩, .bool false, .bool false, .int .i64 0, .int .i64 0, .int .i64 0, .int .i64 0] 23))
    have hr2 := Rf.new hr1 hl
    rw [size_alloc1] at hr2
    exact ⟨hb, ⟨_, rfl, e0⟩, hr2.below (below_new _ _), e2, by omega, by omega, by omega⟩
  generalize hW : (((w.alloc (.cells #[.int .i64 0, .string ⟨#[]⟩, .string ⟨#[]⟩, .string ⟨#[]⟩, .string ⟨#[]⟩, .bool false, .bool false, .int .i64 0, .int .i64 0, .int .i64 0, .int .i64 0] 23)).alloc (.cells #[.slice A bs.length cc, .int .i64 0, .int .i64 0] 67)).alloc (.cells #[.int .i64 0, .string ⟨#[]⟩, .string ⟨#[]⟩, .string ⟨#[]⟩, .string ⟨#[]⟩, .bool false, .bool false, .int .i64 0, .int .i64 0, .int .i64 0, .int .i64 0] 23)) = W at *
  have HE := Lib.hid hE
  clear hW hE HRow
  generalize hg0 : w.heap.size + 1 = g at *
  generalize hE0 : g + 1 = E at *
  clear hg0 hE0
  refine (refNumR_any 0 g (bs, 0) _ HE.out.2.2.1).mono ?_
  rintro e wa0 ⟨rfl, hr, hg⟩
  rw [H0.out] at hr
  replace HE := Lib.hid (HE.out.read hr hg)
  clear hr hg
  generalize ((numS (bs, 0)).1 : Int) = k at *
  have hc : wa0.cell? ⟨E, 0, none⟩ = some (.int .i64 0) := cell_at HE.out.2.2.2.1 0
  have hf := free_at HE.out.2.2.2.1 0
  go_upto_region 4 with (fail)
  replace HE := Lib.hid (show RfE w g E #[.int .i64 k, .string ⟨#[]⟩, .string ⟨#[]⟩, .string ⟨#[]⟩, .string ⟨#[]⟩, .bool false, .bool false, .int .i64 0, .int .i64 0, .int .i64 0, .int .i64 0] (st 0) (wa0.setCell ⟨E, 0, none⟩ (.int .i64 k)) from HE.out.store)
  generalize hWs : (wa0.setCell ⟨E, 0, none⟩ (.int .i64 k)) = wb0 at HE ⊢
  clear hWs hc hf
  go_wp2_with fail
  refine (refTextR_any 0 g (st 0) 1000 _ HE.out.2.2.1 (by decide) (by decide)).mono ?_
  rintro e wa1 ⟨rfl, hr, hg⟩
  rw [H1.out] at hr
  rw [H2.out]
  replace HE := Lib.hid (HE.out.read hr hg)
  clear hr hg
  have hc : wa1.cell? ⟨E, 1, none⟩ = some (.string ⟨#[]⟩) := cell_at HE.out.2.2.2.1 1
  have hf := free_at HE.out.2.2.2.1 1
  go_upto_region 5 with (fail)
  replace HE := Lib.hid (show RfE w g E #[.int .i64 k, .string (f 0), .string ⟨#[]⟩, .string ⟨#[]⟩, .string ⟨#[]⟩, .bool false, .bool false, .int .i64 0, .int .i64 0, .int .i64 0, .int .i64 0] (st 1) (wa1.setCell ⟨E, 1, none⟩ (.string (f 0))) from HE.out.store)
  generalize hWs : (wa1.setCell ⟨E, 1, none⟩ (.string (f 0))) = wb1 at HE ⊢
  clear hWs hc hf
  go_wp2_with fail
  refine (refTextR_any 0 g (st 1) 1000 _ HE.out.2.2.1 (by decide) (by decide)).mono ?_
  rintro e wa2 ⟨rfl, hr, hg⟩
  rw [H1.out] at hr
  rw [H2.out]
  replace HE := Lib.hid (HE.out.read hr hg)
  clear hr hg
  have hc : wa2.cell? ⟨E, 2, none⟩ = some (.string ⟨#[]⟩) := cell_at HE.out.2.2.2.1 2
  have hf := free_at HE.out.2.2.2.1 2
  go_upto_region 6 with (fail)
  replace HE := Lib.hid (show RfE w g E #[.int .i64 k, .string (f 0), .string (f 1), .string ⟨#[]⟩, .string ⟨#[]⟩, .bool false, .bool false, .int .i64 0, .int .i64 0, .int .i64 0, .int .i64 0] (st 2) (wa2.setCell ⟨E, 2, none⟩ (.string (f 1))) from HE.out.store)
  generalize hWs : (wa2.setCell ⟨E, 2, none⟩ (.string (f 1))) = wb2 at HE ⊢
  clear hWs hc hf
  go_wp2_with fail
  refine (refTextR_any 0 g (st 2) 1000 _ HE.out.2.2.1 (by decide) (by decide)).mono ?_
  rintro e wa3 ⟨rfl, hr, hg⟩
  rw [H1.out] at hr
  rw [H2.out]
  replace HE := Lib.hid (HE.out.read hr hg)
  clear hr hg
  have hc : wa3.cell? ⟨E, 3, none⟩ = some (.string ⟨#[]⟩) := cell_at HE.out.2.2.2.1 3
  have hf := free_at HE.out.2.2.2.1 3
  go_upto_region 7 with (fail)
  replace HE := Lib.hid (show RfE w g E #[.int .i64 k, .string (f 0), .string (f 1), .string (f 2), .string ⟨#[]⟩, .bool false, .bool false, .int .i64 0, .int .i64 0, .int .i64 0, .int .i64 0] (st 3) (wa3.setCell ⟨E, 3, none⟩ (.string (f 2))) from HE.out.store)
  generalize hWs : (wa3.setCell ⟨E, 3, none⟩ (.string (f 2))) = wb3 at HE ⊢
  clear hWs hc hf
  go_wp2_with fail
  refine (refTextR_any 0 g (st 3) 1000 _ HE.out.2.2.1 (by decide) (by decide)).mono ?_
  rintro e wa4 ⟨rfl, hr, hg⟩
  rw [H1.out] at hr
  rw [H2.out]
  replace HE := Lib.hid (HE.out.read hr hg)
  clear hr hg
  have hc : wa4.cell? ⟨E, 4, none⟩ = some (.string ⟨#[]⟩) := cell_at HE.out.2.2.2.1 4
  have hf := free_at HE.out.2.2.2.1 4
  go_upto_region 8 with (fail)
  replace HE := Lib.hid (show RfE w g E #[.int .i64 k, .string (f 0), .string (f 1), .string (f 2), .string (f 3), .bool false, .bool false, .int .i64 0, .int .i64 0, .int .i64 0, .int .i64 0] (st 4) (wa4.setCell ⟨E, 4, none⟩ (.string (f 3))) from HE.out.store)
  generalize hWs : (wa4.setCell ⟨E, 4, none⟩ (.string (f 3))) = wb4 at HE ⊢
  clear hWs hc hf
  go_wp2_with fail
  refine (refFlagR_any 0 g (st 4) _ HE.out.2.2.1).mono ?_
  rintro e wa5 ⟨rfl, hr, hg⟩
  rw [H3.out] at hr
  replace HE := Lib.hid (HE.out.read hr hg)
  clear hr hg
  generalize (flagS (st 4)).1 = o at *
  have hc : wa5.cell? ⟨E, 6, none⟩ = some (.bool false) := cell_at HE.out.2.2.2.1 6
  have hf := free_at HE.out.2.2.2.1 6
  go_upto_region 9 with (fail)
  replace HE := Lib.hid (show RfE w g E #[.int .i64 k, .string (f 0), .string (f 1), .string (f 2), .string (f 3), .bool false, .bool o, .int .i64 0, .int .i64 0, .int .i64 0, .int .i64 0] (sn 0) (wa5.setCell ⟨E, 6, none⟩ (.bool o)) from HE.out.store)
  generalize hWs : (wa5.setCell ⟨E, 6, none⟩ (.bool o)) = wb5 at HE ⊢
  clear hWs hc hf
  go_wp2_with fail
  refine (refNumR_any 0 g (sn 0) _ HE.out.2.2.1).mono ?_
  rintro e wa6 ⟨rfl, hr, hg⟩
  rw [H4.out] at hr
  rw [H5.out]
  replace HE := Lib.hid (HE.out.read hr hg)
  clear hr hg
  have hc : wa6.cell? ⟨E, 7, none⟩ = some (.int .i64 0) := cell_at HE.out.2.2.2.1 7
  have hf := free_at HE.out.2.2.2.1 7
  go_upto_region 10 with (fail)
  replace HE := Lib.hid (show RfE w g E #[.int .i64 k, .string (f 0), .string (f 1), .string (f 2), .string (f 3), .bool false, .bool o, .int .i64 (n 0), .int .i64 0, .int .i64 0, .int .i64 0] (sn 1) (wa6.setCell ⟨E, 7, none⟩ (.int .i64 (n 0))) from HE.out.store)
  generalize hWs : (wa6.setCell ⟨E, 7, none⟩ (.int .i64 (n 0))) = wb6 at HE ⊢
  clear hWs hc hf
  go_wp2_with fail
  refine (refNumR_any 0 g (sn 1) _ HE.out.2.2.1).mono ?_
  rintro e wa7 ⟨rfl, hr, hg⟩
  rw [H4.out] at hr
  rw [H5.out]
  replace HE := Lib.hid (HE.out.read hr hg)
  clear hr hg
  have hc : wa7.cell? ⟨E, 8, none⟩ = some (.int .i64 0) := cell_at HE.out.2.2.2.1 8
  have hf := free_at HE.out.2.2.2.1 8
  go_upto_region 11 with (fail)
  replace HE := Lib.hid (show RfE w g E #[.int .i64 k, .string (f 0), .string (f 1), .string (f 2), .string (f 3), .bool false, .bool o, .int .i64 (n 0), .int .i64 (n 1), .int .i64 0, .int .i64 0] (sn 2) (wa7.setCell ⟨E, 8, none⟩ (.int .i64 (n 1))) from HE.out.store)
  generalize hWs : (wa7.setCell ⟨E, 8, none⟩ (.int .i64 (n 1))) = wb7 at HE ⊢
  clear hWs hc hf
  go_wp2_with fail
  refine (refNumR_any 0 g (sn 2) _ HE.out.2.2.1).mono ?_
  rintro e wa8 ⟨rfl, hr, hg⟩
  rw [H4.out] at hr
  rw [H5.out]
  replace HE := Lib.hid (HE.out.read hr hg)
  clear hr hg
  have hc : wa8.cell? ⟨E, 9, none⟩ = some (.int .i64 0) := cell_at HE.out.2.2.2.1 9
  have hf := free_at HE.out.2.2.2.1 9
  go_upto_region 12 with (fail)
  replace HE := Lib.hid (show RfE w g E #[.int .i64 k, .string (f 0), .string (f 1), .string (f 2), .string (f 3), .bool false, .bool o, .int .i64 (n 0), .int .i64 (n 1), .int .i64 (n 2), .int .i64 0] (sn 3) (wa8.setCell ⟨E, 9, none⟩ (.int .i64 (n 2))) from HE.out.store)
  generalize hWs : (wa8.setCell ⟨E, 9, none⟩ (.int .i64 (n 2))) = wb8 at HE ⊢
  clear hWs hc hf
  go_wp2_with fail
  refine (refNumR_any 0 g (sn 3) _ HE.out.2.2.1).mono ?_
  rintro e wa9 ⟨rfl, hr, hg⟩
  rw [H4.out] at hr
  rw [H5.out]
  replace HE := Lib.hid (HE.out.read hr hg)
  clear hr hg
  have hc : wa9.cell? ⟨E, 10, none⟩ = some (.int .i64 0) := cell_at HE.out.2.2.2.1 10
  have hf := free_at HE.out.2.2.2.1 10
  go_upto_region 13 with (fail)
  replace HE := Lib.hid (show RfE w g E #[.int .i64 k, .string (f 0), .string (f 1), .string (f 2), .string (f 3), .bool false, .bool o, .int .i64 (n 0), .int .i64 (n 1), .int .i64 (n 2), .int .i64 (n 3)] (sn 4) (wa9.setCell ⟨E, 10, none⟩ (.int .i64 (n 3))) from HE.out.store)
  generalize hWs : (wa9.setCell ⟨E, 10, none⟩ (.int .i64 (n 3))) = wb9 at HE ⊢
  clear hWs hc hf
  obtain ⟨d0, d1, d2, d3, d4, d5, d6, d7, d8, d9, d10⟩ := cells11 HE.out.2.2.2.1
  go_wp2_with fail
  clear d0 d1 d2 d3 d4 d5 d6 d7 d8 d9 d10
  refine (refMay_any ⟨k, f 0, f 1, f 2, f 3, false, o, n 0, n 1, n 2, n 3⟩ _ (HF.out 0) (HF.out 1) (HF.out 2) (HF.out 3)).mono ?_
  rintro e w5 ⟨rfl, hb5⟩
  replace HE := Lib.hid (HE.out.later hb5)
  clear hb5
  replace HB := HB.out
  generalize mayB _ = mb at *
  go_wp2_with fail
  refine (refEnd_any 0 g (sn 4) _ HE.out.2.2.1).mono ?_
  rintro e w6 ⟨rfl, nn, rfl⟩
  replace HE := Lib.hid (HE.out.drewN nn)
  generalize hWd : w5.drewN nn = w6 at HE ⊢
  clear hWd
  generalize endS (sn 4) = ee at *
  obtain ⟨X, hX, hx3⟩ := HE.out.2.1
  replace hx3 := Lib.hid hx3
  by_cases he : ee = 0
  · subst he
    rw [decide_eq_true rfl, Bool.true_and] at HB
    subst HB
    cases rb
    · have Hset := Lib.hid (setRow_heap _ _ _ #[.int .i64 0, .string ⟨#[]⟩, .string ⟨#[]⟩, .string ⟨#[]⟩, .string ⟨#[]⟩, .bool false, .bool false, .int .i64 0, .int .i64 0, .int .i64 0, .int .i64 0] _ _ hx3.out)
      have HBB := Lib.hid (below_setRow HE.out.1 (Nat.le_refl _) #[.int .i64 0, .string ⟨#[]⟩, .string ⟨#[]⟩, .string ⟨#[]⟩, .string ⟨#[]⟩, .bool false, .bool false, .int .i64 0, .int .i64 0, .int .i64 0, .int .i64 0])
      go_wp2_with (refine wpList_store_row rfl 23 (.tmp 2) (.tmp 49) rfl w.heap.size #[.int .i64 0, .string ⟨#[]⟩, .string ⟨#[]⟩, .string ⟨#[]⟩, .string ⟨#[]⟩, .bool false, .bool false, .int .i64 0, .int .i64 0, .int .i64 0, .int .i64 0] rfl rfl 23 X hx3.out edu_info (hX.trans rfl) (one11 _ _ _ _ _ _ _ _ _ _ _) ?_)
      generalize hW2 : World.setRow _ _ _ = W2 at Hset HBB ⊢
      clear hW2
      obtain ⟨f0, f1, f2, f3, f4, f5, f6, f7, f8, f9, f10⟩ := cells11 Hset.out
      go_wp2_with fail
      refine bodyPost_ret (v := .tuple #[.agg #[.int .i64 0, .string ⟨#[]⟩, .string ⟨#[]⟩, .string ⟨#[]⟩, .string ⟨#[]⟩, .bool false, .bool false, .int .i64 0, .int .i64 0, .int .i64 0, .int .i64 0], .int .i64 2]) ?_ rfl ⟨?_, HBB.out⟩
      · simp [results, Try.results21, go_sem, f0, f1, f2, f3, f4, f5, f6, f7, f8, f9, f10]
      · rw [HA.out, HN.out]; rfl
    · have Hset := Lib.hid (setRow_heap _ _ _ #[.int .i64 k, .string (f 0), .string (f 1), .string (f 2), .string (f 3), .bool false, .bool o, .int .i64 (n 0), .int .i64 (n 1), .int .i64 (n 2), .int .i64 (n 3)] _ _ hx3.out)
      have HBB := Lib.hid (below_setRow HE.out.1 (Nat.le_refl _) #[.int .i64 k, .string (f 0), .string (f 1), .string (f 2), .string (f 3), .bool false, .bool o, .int .i64 (n 0), .int .i64 (n 1), .int .i64 (n 2), .int .i64 (n 3)])
      obtain ⟨d0, d1, d2, d3, d4, d5, d6, d7, d8, d9, d10⟩ := cells11 HE.out.2.2.2.1
      go_wp2_with (refine wpList_store_row rfl 23 (.tmp 2) (.tmp 50) rfl w.heap.size #[.int .i64 k, .string (f 0), .string (f 1), .string (f 2), .string (f 3), .bool false, .bool o, .int .i64 (n 0), .int .i64 (n 1), .int .i64 (n 2), .int .i64 (n 3)] rfl rfl 23 X hx3.out edu_info (hX.trans rfl) (one11 _ _ _ _ _ _ _ _ _ _ _) ?_)
      generalize hW2 : World.setRow _ _ _ = W2 at Hset HBB ⊢
      clear hW2
      clear d0 d1 d2 d3 d4 d5 d6 d7 d8 d9 d10
      obtain ⟨f0, f1, f2, f3, f4, f5, f6, f7, f8, f9, f10⟩ := cells11 Hset.out
      go_wp2_with fail
      refine bodyPost_ret (v := .tuple #[.agg #[.int .i64 k, .string (f 0), .string (f 1), .string (f 2), .string (f 3), .bool false, .bool o, .int .i64 (n 0), .int .i64 (n 1), .int .i64 (n 2), .int .i64 (n 3)], .int .i64 0]) ?_ rfl ⟨?_, HBB.out⟩
      · simp [results, Try.results21, go_sem, f0, f1, f2, f3, f4, f5, f6, f7, f8, f9, f10]
      · rw [HA.out, HN.out]; rfl
  · have q : (((ee : Nat) : Int) != 0) = true := by rw [bne_iff_ne]; omega
    rw [decide_eq_false he, Bool.false_and] at HB
    subst HB
    have Hset := Lib.hid (setRow_heap _ _ _ #[.int .i64 0, .string ⟨#[]⟩, .string ⟨#[]⟩, .string ⟨#[]⟩, .string ⟨#[]⟩, .bool false, .bool false, .int .i64 0, .int .i64 0, .int .i64 0, .int .i64 0] _ _ hx3.out)
    have HBB := Lib.hid (below_setRow HE.out.1 (Nat.le_refl _) #[.int .i64 0, .string ⟨#[]⟩, .string ⟨#[]⟩, .string ⟨#[]⟩, .string ⟨#[]⟩, .bool false, .bool false, .int .i64 0, .int .i64 0, .int .i64 0, .int .i64 0])
    go_wp2_with (refine wpList_store_row rfl 23 (.tmp 2) (.tmp 49) rfl w.heap.size #[.int .i64 0, .string ⟨#[]⟩, .string ⟨#[]⟩, .string ⟨#[]⟩, .string ⟨#[]⟩, .bool false, .bool false, .int .i64 0, .int .i64 0, .int .i64 0, .int .i64 0] rfl rfl 23 X hx3.out edu_info (hX.trans rfl) (one11 _ _ _ _ _ _ _ _ _ _ _) ?_)
    generalize hW2 : World.setRow _ _ _ = W2 at Hset HBB ⊢
    clear hW2
    obtain ⟨f0, f1, f2, f3, f4, f5, f6, f7, f8, f9, f10⟩ := cells11 Hset.out
    go_wp2_with fail
    refine bodyPost_ret (v := .tuple #[.agg #[.int .i64 0, .string ⟨#[]⟩, .string ⟨#[]⟩, .string ⟨#[]⟩, .string ⟨#[]⟩, .bool false, .bool false, .int .i64 0, .int .i64 0, .int .i64 0, .int .i64 0], .int .i64 2]) ?_ rfl ⟨?_, HBB.out⟩
    · simp [results, Try.results21, go_sem, f0, f1, f2, f3, f4, f5, f6, f7, f8, f9, f10]
    · rw [HA.out, HN.out]; rfl
end Go.Proofs.Ytahgkhcmchbpbaa
