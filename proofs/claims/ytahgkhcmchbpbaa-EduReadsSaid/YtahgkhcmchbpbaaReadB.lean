/-
  The EDU of bytes, as package edu reads it: whatever bytes are handed in.
-/
import Derived.Test.YtahgkhcmchbpbaaReadA
namespace Go.Proofs.Ytahgkhcmchbpbaa
open Go.RowKit
set_option linter.unusedVariables false
set_option linter.unusedSimpArgs false
set_option maxRecDepth 4000

set_option maxHeartbeats 3200000 in
theorem readEdu_any (v : Value) (bs : List UInt8) (lo : Nat) (w : World) (h : Row w lo v bs) (hl : bs.length ≤ 1000000) :
    Calls Try.prog 20 #[v] w fun x w' => x = .returned (.tuple #[(answerE 34 bs).val, .int .i64 (answerN 34 bs)]) ∧ Below w.heap.size w w' := by
  have HA := Lib.hid (answerE_eq 34 bs)
  have HN := Lib.hid (answerN_eq 34 bs)
  have HB := Lib.hid (readB_eq2 34 bs)
  generalize answerE 34 bs = ae at *
  generalize answerN 34 bs = an at *
  have HTl := Lib.hid (fun j => Nat.le_trans (stT_len 34 bs j) hl)
  have HNl := Lib.hid (fun j => Nat.le_trans (stN_len 34 bs j) hl)
  have HF := Lib.hid (fun j => show (fT 34 bs j).size ≤ maxLen from Nat.le_trans (fT_size 34 bs j) (Nat.le_trans hl (by unfold maxLen; omega)))
  have H0 := Lib.hid (stT_zero 34 bs)
  have H1 := Lib.hid (stT_succ 34 bs)
  have H2 := Lib.hid (fT_def 34 bs)
  have H3 := Lib.hid (stN_zero 34 bs)
  have H4 := Lib.hid (stN_succ 34 bs)
  have H5 := Lib.hid (nT_def 34 bs)
  generalize readB 34 bs = rb at *
  generalize stT 34 bs = st at *
  generalize stN 34 bs = sn at *
  generalize fT 34 bs = f at *
  generalize nT 34 bs = n at *
  have HRow := Lib.hid h
  clear h
  go_enter Try.func20, Try.ntmps20
  go_wp2_with fail
  have hz := heap_alloc_new w (.cells #[.int .i64 0, .string ⟨#[]⟩, .string ⟨#[]⟩, .string ⟨#[]⟩, .string ⟨#[]⟩, .bool false, .bool false, .int .i64 0, .int .i64 0, .int .i64 0, .int .i64 0] 23)
  have hbz := below_new w (.cells #[.int .i64 0, .string ⟨#[]⟩, .string ⟨#[]⟩, .string ⟨#[]⟩, .string ⟨#[]⟩, .bool false, .bool false, .int .i64 0, .int .i64 0, .int .i64 0, .int .i64 0] 23)
  have hsz := size_alloc1 w (.cells #[.int .i64 0, .string ⟨#[]⟩, .string ⟨#[]⟩, .string ⟨#[]⟩, .string ⟨#[]⟩, .bool false, .bool false, .int .i64 0, .int .i64 0, .int .i64 0, .int .i64 0] 23)
  have HRow2 := Lib.hid (HRow.out.below hbz)
  generalize hW : (w.alloc (.cells #[.int .i64 0, .string ⟨#[]⟩, .string ⟨#[]⟩, .string ⟨#[]⟩, .string ⟨#[]⟩, .bool false, .bool false, .int .i64 0, .int .i64 0, .int .i64 0, .int .i64 0] 23)) = W at *
  clear hW HRow
  refine (read_any v bs lo _ HRow2.out hl).mono ?_
  rintro e w1 ⟨⟨g, rfl, hg, hrd⟩, hb1⟩
  have hz1 := (hb1.block _ (heap_lt hz)).trans hz
  have HB1 := Lib.hid (later hbz (hb1.mono (by omega)))
  have hgw : w.heap.size < g := by omega
  replace hrd := Lib.hid (hrd.mono (Nat.zero_le _))
  clear hb1 hg hz hbz hsz HRow2 W
  go_wp2_with fail
  have HE := Lib.hid (show RdE w g w1.heap.size #[.int .i64 0, .string ⟨#[]⟩, .string ⟨#[]⟩, .string ⟨#[]⟩, .string ⟨#[]⟩, .bool false, .bool false, .int .i64 0, .int .i64 0, .int .i64 0, .int .i64 0] (bs, 0) (w1.alloc (.cells #[.int .i64 0, .string ⟨#[]⟩, .string ⟨#[]⟩, .string ⟨#[]⟩, .string ⟨#[]⟩, .bool false, .bool false, .int .i64 0, .int .i64 0, .int .i64 0, .int .i64 0] 23)) from ⟨later HB1.out (below_new w1 _), ⟨_, rfl, ((below_new w1 _).block _ (heap_lt hz1)).trans hz1⟩, hrd.out.below (below_new w1 _), heap_alloc_new w1 _, hgw, heap_lt hz1, by have := hrd.out.lt; omega⟩)
  generalize hW : (w1.alloc (.cells #[.int .i64 0, .string ⟨#[]⟩, .string ⟨#[]⟩, .string ⟨#[]⟩, .string ⟨#[]⟩, .bool false, .bool false, .int .i64 0, .int .i64 0, .int .i64 0, .int .i64 0] 23)) = W at *
  generalize hE : w1.heap.size = E at *
  clear hW hE HB1 hz1 hrd
  clear w1
  refine (readNum_any 0 g (bs, 0) _ HE.out.2.2.1 hl).mono ?_
  rintro e w2 ⟨rfl, hr2, hg2⟩
  replace HE := Lib.hid (HE.out.read hr2 hg2)
  clear hr2 hg2 W
  rw [H0.out] at HE
  generalize ((numS (bs, 0)).1 : Int) = k at *
  have hc0 : w2.cell? ⟨E, 0, none⟩ = _ := cell_at HE.out.2.2.2.1 0
  replace hc0 : w2.cell? ⟨E, 0, none⟩ = some (.int .i64 0) := hc0
  have hf0 := free_at HE.out.2.2.2.1 0
  go_wp2_with fail
  replace HE := Lib.hid (show RdE w g E #[.int .i64 k, .string ⟨#[]⟩, .string ⟨#[]⟩, .string ⟨#[]⟩, .string ⟨#[]⟩, .bool false, .bool false, .int .i64 0, .int .i64 0, .int .i64 0, .int .i64 0] (st 0) (w2.setCell ⟨E, 0, none⟩ (.int .i64 k)) from HE.out.store)
  have hs2 : (w2.setCell ⟨E, 0, none⟩ (.int .i64 k)).heap.size = w2.heap.size := by simp
  generalize hW : (w2.setCell ⟨E, 0, none⟩ (.int .i64 k)) = W2 at *
  generalize hPP : w2.heap.size = P at *
  clear hW hPP hc0 hf0
  clear w2
  have HP := Lib.hid (heap_alloc_new W2 (.cells #[.pointer (some ⟨E, 1, none⟩), .pointer (some ⟨E, 2, none⟩), .pointer (some ⟨E, 3, none⟩), .pointer (some ⟨E, 4, none⟩)] 60))
  have hP1 := HE.out.2.2.1.lt
  have hP2 := heap_lt HE.out.2.2.2.1
  replace HE := Lib.hid (HE.out.later (below_new W2 (.cells #[.pointer (some ⟨E, 1, none⟩), .pointer (some ⟨E, 2, none⟩), .pointer (some ⟨E, 3, none⟩), .pointer (some ⟨E, 4, none⟩)] 60)))
  generalize hW : (W2.alloc (.cells #[.pointer (some ⟨E, 1, none⟩), .pointer (some ⟨E, 2, none⟩), .pointer (some ⟨E, 3, none⟩), .pointer (some ⟨E, 4, none⟩)] 60)) = W3 at *
  rw [hs2] at HP hP1 hP2
  clear hW hs2
  clear W2
  replace hP1 : P ≠ g := by omega
  replace hP2 : P ≠ E := by omega
  go_loopw [21] (fun i wr => ∃ j : Nat, j ≤ 4 ∧ i = .int .i64 (j : Int) ∧ Hid (RdE w g E #[.int .i64 k, .string (if 0 < j then f 0 else ⟨#[]⟩), .string (if 1 < j then f 1 else ⟨#[]⟩), .string (if 2 < j then f 2 else ⟨#[]⟩), .string (if 3 < j then f 3 else ⟨#[]⟩), .bool false, .bool false, .int .i64 0, .int .i64 0, .int .i64 0, .int .i64 0] (st j) wr) ∧ Hid (wr.heap[P]? = some (.cells #[.pointer (some ⟨E, 1, none⟩), .pointer (some ⟨E, 2, none⟩), .pointer (some ⟨E, 3, none⟩), .pointer (some ⟨E, 4, none⟩)] 60 (0, 0)))) (fun i _ => 4 - (intOf i).toNat)
  case atStart => exact ⟨0, by omega, rfl, HE, HP⟩
  case round =>
    obtain ⟨j, hj, rfl, HK, HQ⟩ := hrel
    clear HE HP W3
    by_cases hlt : j < 4
    · have hc := ptr_cell HQ.out hlt
      have q1 : decide ((j : Int) < 4) = true := decide_eq_true (by omega)
      go_wp2_with fail
      clear hc
      refine (readText_any 0 g (st j) 34 _ HK.out.2.2.1 (HTl.out j) (by decide) (by decide)).mono ?_
      rintro e w3 ⟨rfl, hr3, hg3⟩
      rw [H1.out] at hr3
      rw [H2.out]
      replace HK := Lib.hid (HK.out.read hr3 hg3)
      replace HQ := Lib.hid (listed_read HQ.out hg3 hP1)
      clear hr3 hg3
      have hcc := (cell_at HK.out.2.2.2.1 (1 + j)).trans (cellT k f hlt)
      have hff := free_at HK.out.2.2.2.1 (1 + j)
      go_wp2_with fail
      replace HK := Lib.hid (HK.out.store (i := 1 + j) (u := .string (f j)))
      rw [stepT k f hlt] at HK
      replace HQ := Lib.hid (listed_store (i := 1 + j) (u := .string (f j)) HQ.out hP2)
      clear hcc hff
      go_roundw
      case rel => exact ⟨j + 1, by omega, by go_num, HK, HQ⟩
      case measure => simp [intOf]; omega
    · obtain rfl : j = 4 := by omega
      replace HK := Lib.hid (show RdE w g E #[.int .i64 k, .string (f 0), .string (f 1), .string (f 2), .string (f 3), .bool false, .bool false, .int .i64 0, .int .i64 0, .int .i64 0, .int .i64 0] (st 4) _ from HK.out)
      go_wp2_with fail
      refine (readFlag_any 0 g (st 4) _ HK.out.2.2.1 (HTl.out 4)).mono ?_
      rintro e w4 ⟨rfl, hr4, hg4⟩
      rw [H3.out] at hr4
      replace HK := Lib.hid (HK.out.read hr4 hg4)
      clear hr4 hg4 HQ hP1 hP2
      generalize (flagS (st 4)).1 = o at *
      have hc6 : w4.cell? ⟨E, 6, none⟩ = some (.bool false) := cell_at HK.out.2.2.2.1 6
      have hf6 := free_at HK.out.2.2.2.1 6
      go_wp2_with fail
      replace HK := Lib.hid (show RdE w g E #[.int .i64 k, .string (f 0), .string (f 1), .string (f 2), .string (f 3), .bool false, .bool o, .int .i64 0, .int .i64 0, .int .i64 0, .int .i64 0] (sn 0) (w4.setCell ⟨E, 6, none⟩ (.bool o)) from HK.out.store)
      have hs2 : (w4.setCell ⟨E, 6, none⟩ (.bool o)).heap.size = w4.heap.size := by simp
      generalize hW : (w4.setCell ⟨E, 6, none⟩ (.bool o)) = W2 at *
      generalize hPP : w4.heap.size = P2 at *
      clear hW hPP hc6 hf6
      clear w4
      have HP := Lib.hid (heap_alloc_new W2 (.cells #[.pointer (some ⟨E, 7, none⟩), .pointer (some ⟨E, 8, none⟩), .pointer (some ⟨E, 9, none⟩), .pointer (some ⟨E, 10, none⟩)] 62))
      have hP1 := HK.out.2.2.1.lt
      have hP2 := heap_lt HK.out.2.2.2.1
      have HE := Lib.hid (HK.out.later (below_new W2 (.cells #[.pointer (some ⟨E, 7, none⟩), .pointer (some ⟨E, 8, none⟩), .pointer (some ⟨E, 9, none⟩), .pointer (some ⟨E, 10, none⟩)] 62)))
      generalize hW : (W2.alloc (.cells #[.pointer (some ⟨E, 7, none⟩), .pointer (some ⟨E, 8, none⟩), .pointer (some ⟨E, 9, none⟩), .pointer (some ⟨E, 10, none⟩)] 62)) = W3 at *
      rw [hs2] at HP hP1 hP2
      clear hW hs2 HK
      clear W2
      replace hP1 : P2 ≠ g := by omega
      replace hP2 : P2 ≠ E := by omega
      go_loopw [39] (fun i wr => ∃ j : Nat, j ≤ 4 ∧ i = .int .i64 (j : Int) ∧ Hid (RdE w g E #[.int .i64 k, .string (f 0), .string (f 1), .string (f 2), .string (f 3), .bool false, .bool o, .int .i64 (if 0 < j then n 0 else 0), .int .i64 (if 1 < j then n 1 else 0), .int .i64 (if 2 < j then n 2 else 0), .int .i64 (if 3 < j then n 3 else 0)] (sn j) wr) ∧ Hid (wr.heap[P2]? = some (.cells #[.pointer (some ⟨E, 7, none⟩), .pointer (some ⟨E, 8, none⟩), .pointer (some ⟨E, 9, none⟩), .pointer (some ⟨E, 10, none⟩)] 62 (0, 0)))) (fun i _ => 4 - (intOf i).toNat)
      case atStart => exact ⟨0, by omega, rfl, HE, HP⟩
      case round =>
        obtain ⟨j, hj, rfl, HK, HQ⟩ := hrel
        clear HE HP W3
        by_cases hlt : j < 4
        · have hc := ptr_cell HQ.out hlt
          have q1 : decide ((j : Int) < 4) = true := decide_eq_true (by omega)
          go_wp2_with fail
          clear hc
          refine (readNum_any 0 g (sn j) _ HK.out.2.2.1 (HNl.out j)).mono ?_
          rintro e w3 ⟨rfl, hr3, hg3⟩
          rw [H4.out] at hr3
          rw [H5.out]
          replace HK := Lib.hid (HK.out.read hr3 hg3)
          replace HQ := Lib.hid (listed_read HQ.out hg3 hP1)
          clear hr3 hg3
          have hcc := (cell_at HK.out.2.2.2.1 (7 + j)).trans (cellN k f o n hlt)
          have hff := free_at HK.out.2.2.2.1 (7 + j)
          go_wp2_with fail
          replace HK := Lib.hid (HK.out.store (i := 7 + j) (u := .int .i64 (n j)))
          rw [stepN k f o n hlt] at HK
          replace HQ := Lib.hid (listed_store (i := 7 + j) (u := .int .i64 (n j)) HQ.out hP2)
          clear hcc hff
          go_roundw
          case rel => exact ⟨j + 1, by omega, by go_num, HK, HQ⟩
          case measure => simp [intOf]; omega
        · obtain rfl : j = 4 := by omega
          replace HK := Lib.hid (show RdE w g E #[.int .i64 k, .string (f 0), .string (f 1), .string (f 2), .string (f 3), .bool false, .bool o, .int .i64 (n 0), .int .i64 (n 1), .int .i64 (n 2), .int .i64 (n 3)] (sn 4) _ from HK.out)
          clear HQ hP1 hP2
          go_wp2_with fail
          refine (end_any 0 g (sn 4) _ HK.out.2.2.1 (HNl.out 4)).mono ?_
          rintro e wz ⟨rfl, rfl⟩
          replace HB := HB.out
          generalize endS (sn 4) = ee at *
          obtain ⟨X, hX, hx3⟩ := HK.out.2.1
          replace hx3 := Lib.hid hx3
          by_cases he : ee = 0
          · subst he
            rw [decide_eq_true rfl, Bool.true_and] at HB
            obtain ⟨d0, d1, d2, d3, d4, d5, d6, d7, d8, d9, d10⟩ := cells11 HK.out.2.2.2.1
            go_wp2_with fail
            refine (may_any ⟨k, f 0, f 1, f 2, f 3, false, o, n 0, n 1, n 2, n 3⟩ _ (HF.out 0) (HF.out 1) (HF.out 2) (HF.out 3)).mono ?_
            rintro e w5 ⟨rfl, hb5⟩
            rw [← HB]
            replace HK := Lib.hid (HK.out.later hb5)
            replace hx3 := Lib.hid ((hb5.block _ (heap_lt hx3.out)).trans hx3.out)
            clear d0 d1 d2 d3 d4 d5 d6 d7 d8 d9 d10 hb5 HB
            cases rb
            · have Hset := Lib.hid (setRow_heap _ _ _ #[.int .i64 0, .string ⟨#[]⟩, .string ⟨#[]⟩, .string ⟨#[]⟩, .string ⟨#[]⟩, .bool false, .bool false, .int .i64 0, .int .i64 0, .int .i64 0, .int .i64 0] _ _ hx3.out)
              have HBB := Lib.hid (below_setRow HK.out.1 (Nat.le_refl _) #[.int .i64 0, .string ⟨#[]⟩, .string ⟨#[]⟩, .string ⟨#[]⟩, .string ⟨#[]⟩, .bool false, .bool false, .int .i64 0, .int .i64 0, .int .i64 0, .int .i64 0])
              go_wp2_with (refine wpList_store_row rfl 23 (.tmp 2) (.tmp 56) rfl w.heap.size #[.int .i64 0, .string ⟨#[]⟩, .string ⟨#[]⟩, .string ⟨#[]⟩, .string ⟨#[]⟩, .bool false, .bool false, .int .i64 0, .int .i64 0, .int .i64 0, .int .i64 0] rfl rfl 23 X hx3.out edu_info (hX.trans rfl) (one11 _ _ _ _ _ _ _ _ _ _ _) ?_)
              generalize hW2 : World.setRow _ _ _ = W2 at Hset HBB ⊢
              clear hW2
              obtain ⟨f0, f1, f2, f3, f4, f5, f6, f7, f8, f9, f10⟩ := cells11 Hset.out
              go_wp2_with fail
              refine bodyPost_ret (v := .tuple #[.agg #[.int .i64 0, .string ⟨#[]⟩, .string ⟨#[]⟩, .string ⟨#[]⟩, .string ⟨#[]⟩, .bool false, .bool false, .int .i64 0, .int .i64 0, .int .i64 0, .int .i64 0], .int .i64 2]) ?_ rfl ⟨?_, HBB.out⟩
              · simp [results, Try.results20, go_sem, f0, f1, f2, f3, f4, f5, f6, f7, f8, f9, f10]
              · rw [HA.out, HN.out]; rfl
            · have Hset := Lib.hid (setRow_heap _ _ _ #[.int .i64 k, .string (f 0), .string (f 1), .string (f 2), .string (f 3), .bool false, .bool o, .int .i64 (n 0), .int .i64 (n 1), .int .i64 (n 2), .int .i64 (n 3)] _ _ hx3.out)
              have HBB := Lib.hid (below_setRow HK.out.1 (Nat.le_refl _) #[.int .i64 k, .string (f 0), .string (f 1), .string (f 2), .string (f 3), .bool false, .bool o, .int .i64 (n 0), .int .i64 (n 1), .int .i64 (n 2), .int .i64 (n 3)])
              obtain ⟨d0, d1, d2, d3, d4, d5, d6, d7, d8, d9, d10⟩ := cells11 HK.out.2.2.2.1
              go_wp2_with (refine wpList_store_row rfl 23 (.tmp 2) (.tmp 57) rfl w.heap.size #[.int .i64 k, .string (f 0), .string (f 1), .string (f 2), .string (f 3), .bool false, .bool o, .int .i64 (n 0), .int .i64 (n 1), .int .i64 (n 2), .int .i64 (n 3)] rfl rfl 23 X hx3.out edu_info (hX.trans rfl) (one11 _ _ _ _ _ _ _ _ _ _ _) ?_)
              generalize hW2 : World.setRow _ _ _ = W2 at Hset HBB ⊢
              clear hW2
              clear d0 d1 d2 d3 d4 d5 d6 d7 d8 d9 d10
              obtain ⟨f0, f1, f2, f3, f4, f5, f6, f7, f8, f9, f10⟩ := cells11 Hset.out
              go_wp2_with fail
              refine bodyPost_ret (v := .tuple #[.agg #[.int .i64 k, .string (f 0), .string (f 1), .string (f 2), .string (f 3), .bool false, .bool o, .int .i64 (n 0), .int .i64 (n 1), .int .i64 (n 2), .int .i64 (n 3)], .int .i64 0]) ?_ rfl ⟨?_, HBB.out⟩
              · simp [results, Try.results20, go_sem, f0, f1, f2, f3, f4, f5, f6, f7, f8, f9, f10]
              · rw [HA.out, HN.out]; rfl
          · have q : (((ee : Nat) : Int) != 0) = true := by rw [bne_iff_ne]; omega
            rw [decide_eq_false he, Bool.false_and] at HB
            subst HB
            have Hset := Lib.hid (setRow_heap _ _ _ #[.int .i64 0, .string ⟨#[]⟩, .string ⟨#[]⟩, .string ⟨#[]⟩, .string ⟨#[]⟩, .bool false, .bool false, .int .i64 0, .int .i64 0, .int .i64 0, .int .i64 0] _ _ hx3.out)
            have HBB := Lib.hid (below_setRow HK.out.1 (Nat.le_refl _) #[.int .i64 0, .string ⟨#[]⟩, .string ⟨#[]⟩, .string ⟨#[]⟩, .string ⟨#[]⟩, .bool false, .bool false, .int .i64 0, .int .i64 0, .int .i64 0, .int .i64 0])
            go_wp2_with (refine wpList_store_row rfl 23 (.tmp 2) (.tmp 56) rfl w.heap.size #[.int .i64 0, .string ⟨#[]⟩, .string ⟨#[]⟩, .string ⟨#[]⟩, .string ⟨#[]⟩, .bool false, .bool false, .int .i64 0, .int .i64 0, .int .i64 0, .int .i64 0] rfl rfl 23 X hx3.out edu_info (hX.trans rfl) (one11 _ _ _ _ _ _ _ _ _ _ _) ?_)
            generalize hW2 : World.setRow _ _ _ = W2 at Hset HBB ⊢
            clear hW2
            obtain ⟨f0, f1, f2, f3, f4, f5, f6, f7, f8, f9, f10⟩ := cells11 Hset.out
            go_wp2_with fail
            refine bodyPost_ret (v := .tuple #[.agg #[.int .i64 0, .string ⟨#[]⟩, .string ⟨#[]⟩, .string ⟨#[]⟩, .string ⟨#[]⟩, .bool false, .bool false, .int .i64 0, .int .i64 0, .int .i64 0, .int .i64 0], .int .i64 2]) ?_ rfl ⟨?_, HBB.out⟩
            · simp [results, Try.results20, go_sem, f0, f1, f2, f3, f4, f5, f6, f7, f8, f9, f10]
            · rw [HA.out, HN.out]; rfl
end Go.Proofs.Ytahgkhcmchbpbaa
