/-
  The document's Few of a parcel, walked.
-/
import Derived.Test.YtnabbebkmafakaaPGood
namespace Go.Proofs.Ytnabbebkmafakaa
set_option maxRecDepth 20000
open Go.RowKit
set_option linter.unusedVariables false
set_option linter.unusedSimpArgs false

theorem few_well {e : Edu} (h : e.well) : (fewE e).well := by
  have h1 := fewS_size e.room 40
  have h2 := fewS_size e.user 40
  have h3 := fewS_size e.event 40
  have h4 := fewS_size e.thread 40
  refine ⟨h.1, ?_, ?_, ?_, ?_⟩ <;> simp only [fewE, maxLen_eq] <;> omega
theorem fewW_any (e : Edu) (w : World) (h : e.well) : Calls Try.prog 25 #[e.val] w fun x w' => x = .returned (fewE e).val ∧ Below w.heap.size w w' := refFew_any e w h.2.1 h.2.2.1 h.2.2.2.1 h.2.2.2.2
theorem BoxR.store {w w' : World} {box : Array Value} {i : Nat} {u : Value} {t t' : TypeId} (h : BoxR w box t t' w') : BoxR w (box.setIfInBounds i u) t t' (w'.setCell ⟨w.heap.size, i, none⟩ u) := by
  obtain ⟨h1, h2, X, hX, h3⟩ := h
  exact ⟨h1.setCell (by simp) _, heap_set h2 i u, X, hX, (Below.heap_setCell w' _ u _ (by simp)).trans h3⟩
theorem fewP_def (p : Par) : fewP p = ⟨p.ack, fewS p.frm 40, fewS p.dest 40, p.id, (p.edus.take 5).map fewE⟩ := rfl
set_option maxHeartbeats 3200000 in
theorem fewPar_any (p : Par) (A : Option Addr) (cap : Nat) (w : World) (hE : EdusAt w A p.edus.length p.edus) (hl : p.edus.length ≤ maxLen) (hf : p.frm.size ≤ maxLen) (hd : p.dest.size ≤ maxLen) :
    Calls Try.prog 8 #[.agg #[.bool p.ack, .string p.frm, .string p.dest, .int .i64 p.id, .slice A p.edus.length cap]] w fun e w' => ∃ S, e = .returned (parV (fewP p) S) ∧ MadeE w' w.heap.size S (fewP p).edus ∧ Below w.heap.size w w' := by
  have HT := Lib.hid (BoxR.new w #[.bool p.ack, .string p.frm, .string p.dest, .int .i64 p.id, .slice A p.edus.length cap] #[.bool false, .string ⟨#[]⟩, .string ⟨#[]⟩, .int .i64 0, .slice none 0 0] 24 24 rfl)
  have HE := Lib.hid hE
  rw [fewP_def p]
  obtain ⟨ack, frm, dest, id, es⟩ := p
  simp only at *
  have HF := Lib.hid (fun w => few_any frm 40 (by decide) w hf)
  have HD := Lib.hid (fun w => few_any dest 40 (by decide) w hd)
  rw [maxLen_eq] at hl hf hd
  clear hE
  simp only [parV]
  generalize fewS frm 40 = ff at *
  generalize fewS dest 40 = fd at *
  have HLq := Lib.hid (show (es.take (min es.length 5)).map fewE = (es.take 5).map fewE by rw [take_min])
  generalize (es.take 5).map fewE = L at *
  go_enter Try.func8, Try.ntmps8
  go_upto_region 1 with (fail)
  generalize hW : (w.alloc _).alloc _ = W at *
  clear hW
  obtain ⟨d0, d1, d2, d3, d4⟩ := cells5p HT.out.2.1
  have fr := free_at HT.out.2.1 1
  go_wp2_with fail
  refine (HF.out _).mono ?_
  rintro e w1 ⟨rfl, rfl⟩
  go_upto_region 2 with (fail)
  replace HT := Lib.hid (show BoxR w #[.bool ack, .string ff, .string dest, .int .i64 id, .slice A es.length cap] 24 24 (W.setCell ⟨w.heap.size, 1, none⟩ (.string ff)) from HT.out.store)
  generalize hW : (W.setCell ⟨w.heap.size, 1, none⟩ (.string ff)) = W2 at *
  clear hW d0 d1 d2 d3 d4 fr
  obtain ⟨d0, d1, d2, d3, d4⟩ := cells5p HT.out.2.1
  have fr := free_at HT.out.2.1 2
  go_wp2_with fail
  refine (HD.out _).mono ?_
  rintro e w1 ⟨rfl, rfl⟩
  go_wp2_with fail
  replace HT := Lib.hid (show BoxR w #[.bool ack, .string ff, .string fd, .int .i64 id, .slice A es.length cap] 24 24 (W2.setCell ⟨w.heap.size, 2, none⟩ (.string fd)) from HT.out.store)
  generalize hW : (W2.setCell ⟨w.heap.size, 2, none⟩ (.string fd)) = W3 at *
  clear hW d0 d1 d2 d3 d4 fr HF HD
  go_loopw [3, 4] (fun S iv wr => ∃ (k : Nat), k ≤ min es.length 5 ∧ iv = .int .i64 (k : Int) ∧ Hid (BoxR w #[.bool ack, .string ff, .string fd, .int .i64 id, .slice A es.length cap] 24 24 wr) ∧ Hid (MadeE wr w.heap.size S ((es.take k).map fewE))) (fun _ iv _ => 5 - (intOf iv).toNat)
  case atStart => exact ⟨0, Nat.zero_le _, rfl, HT, Lib.hid (MadeE.nil _ _)⟩
  case round =>
    rename_i S _
    obtain ⟨k, hk, rfl, HG, HM⟩ := hrel
    clear HT
    obtain ⟨c0, c1, c2, c3, c4⟩ := cells5p HG.out.2.1
    by_cases h1 : k < es.length
    rotate_left
    · have q1 : decide ((k : Int) < (es.length : Int)) = false := by simp; omega
      have hk5 : k = min es.length 5 := by omega
      rw [hk5, HLq.out] at HM
      clear hk5 HLq
      have hle : ∃ le, le = L := ⟨_, rfl⟩
      obtain ⟨le, rfl⟩ := hle
      obtain ⟨A2, cap2, rfl, z1, z2, z3, z4⟩ := HM.out.slice
      clear z1 z2 z3 z4
      have fr := free_at HG.out.2.1 4
      go_upto_region 9 with (fail)
      have HM2 := Lib.hid (made_keep HM.out HG.out.2.1 (by decide) (grown_set wr w.heap.size 4 (.slice A2 le.length cap2)))
      replace HG := Lib.hid (show BoxR w #[.bool ack, .string ff, .string fd, .int .i64 id, .slice A2 le.length cap2] 24 24 (wr.setCell ⟨w.heap.size, 4, none⟩ (.slice A2 le.length cap2)) from HG.out.store)
      generalize hW : (wr.setCell ⟨w.heap.size, 4, none⟩ (.slice A2 le.length cap2)) = W4 at *
      clear hW c0 c1 c2 c3 c4 fr HM
      obtain ⟨d0, d1, d2, d3, d4⟩ := cells5p HG.out.2.1
      obtain ⟨X, hX, hx3⟩ := HG.out.2.2
      have Hset := Lib.hid (setRow_heap _ _ _ #[.bool ack, .string ff, .string fd, .int .i64 id, .slice A2 le.length cap2] _ _ hx3)
      have HB3 := Lib.hid (HG.out.set #[.bool ack, .string ff, .string fd, .int .i64 id, .slice A2 le.length cap2] rfl).1
      have HM3 := Lib.hid (made_keep HM2.out hx3 (by decide) (grown_setRow W4 (w.heap.size + 1) #[.bool ack, .string ff, .string fd, .int .i64 id, .slice A2 le.length cap2]))
      replace hx3 := Lib.hid hx3
      go_wp2_with (refine wpList_store_row rfl 24 (.tmp 2) (.tmp 35) rfl (w.heap.size + 1) #[.bool ack, .string ff, .string fd, .int .i64 id, .slice A2 le.length cap2] rfl rfl 24 X hx3.out parR_size (hX.trans rfl) (one5 _ _ _ _ _ _ _) ?_)
      generalize hW2 : World.setRow _ _ _ = W5 at Hset HB3 HM3 ⊢
      clear hW2 d0 d1 d2 d3 d4
      obtain ⟨d0, d1, d2, d3, d4⟩ := cells5p Hset.out
      go_wp2_with fail
      refine bodyPost_ret (v := .agg #[.bool ack, .string ff, .string fd, .int .i64 id, .slice A2 le.length cap2]) ?_ rfl ⟨_, rfl, HM3.out, HB3.out⟩
      simp [results, Try.results8, go_sem, d0, d1, d2, d3, d4]
    have q1 : decide ((k : Int) < (es.length : Int)) = true := by simp; omega
    by_cases h2 : k < 5
    rotate_left
    · have q2 : decide ((k : Int) < 5) = false := by simp; omega
      have hk5 : k = min es.length 5 := by omega
      rw [hk5, HLq.out] at HM
      clear hk5 HLq
      have hle : ∃ le, le = L := ⟨_, rfl⟩
      obtain ⟨le, rfl⟩ := hle
      obtain ⟨A2, cap2, rfl, z1, z2, z3, z4⟩ := HM.out.slice
      clear z1 z2 z3 z4
      have fr := free_at HG.out.2.1 4
      go_upto_region 9 with (fail)
      have HM2 := Lib.hid (made_keep HM.out HG.out.2.1 (by decide) (grown_set wr w.heap.size 4 (.slice A2 le.length cap2)))
      replace HG := Lib.hid (show BoxR w #[.bool ack, .string ff, .string fd, .int .i64 id, .slice A2 le.length cap2] 24 24 (wr.setCell ⟨w.heap.size, 4, none⟩ (.slice A2 le.length cap2)) from HG.out.store)
      generalize hW : (wr.setCell ⟨w.heap.size, 4, none⟩ (.slice A2 le.length cap2)) = W4 at *
      clear hW c0 c1 c2 c3 c4 fr HM
      obtain ⟨d0, d1, d2, d3, d4⟩ := cells5p HG.out.2.1
      obtain ⟨X, hX, hx3⟩ := HG.out.2.2
      have Hset := Lib.hid (setRow_heap _ _ _ #[.bool ack, .string ff, .string fd, .int .i64 id, .slice A2 le.length cap2] _ _ hx3)
      have HB3 := Lib.hid (HG.out.set #[.bool ack, .string ff, .string fd, .int .i64 id, .slice A2 le.length cap2] rfl).1
      have HM3 := Lib.hid (made_keep HM2.out hx3 (by decide) (grown_setRow W4 (w.heap.size + 1) #[.bool ack, .string ff, .string fd, .int .i64 id, .slice A2 le.length cap2]))
      replace hx3 := Lib.hid hx3
      go_wp2_with (refine wpList_store_row rfl 24 (.tmp 2) (.tmp 35) rfl (w.heap.size + 1) #[.bool ack, .string ff, .string fd, .int .i64 id, .slice A2 le.length cap2] rfl rfl 24 X hx3.out parR_size (hX.trans rfl) (one5 _ _ _ _ _ _ _) ?_)
      generalize hW2 : World.setRow _ _ _ = W5 at Hset HB3 HM3 ⊢
      clear hW2 d0 d1 d2 d3 d4
      obtain ⟨d0, d1, d2, d3, d4⟩ := cells5p Hset.out
      go_wp2_with fail
      refine bodyPost_ret (v := .agg #[.bool ack, .string ff, .string fd, .int .i64 id, .slice A2 le.length cap2]) ?_ rfl ⟨_, rfl, HM3.out, HB3.out⟩
      simp [results, Try.results8, go_sem, d0, d1, d2, d3, d4]
    have q2 : decide ((k : Int) < 5) = true := by simp; omega
    obtain ⟨e, he⟩ := get_lt h1
    obtain ⟨b, off, rfl, hb, hr⟩ := (HE.out.below HG.out.1).at he
    have hix := fun w => index_edu (b := b) (off := off) (cap := cap) h1 w
    have HP := Lib.hid (fun w => fewW_any e w (HE.out.2.1 e (mem_at he)))
    have HS := Lib.hid (map_step (f := fewE) he)
    have hnw := Lib.hid (few_well (HE.out.2.1 e (mem_at he)))
    obtain ⟨d0, d1, d2, d3, d4, d5, d6, d7, d8, d9, d10⟩ := range11 hr
    clear he hr HLq
    generalize fewE e = ne at *
    obtain ⟨x0, x1, x2, x3, x4, x5, x6, x7, x8, x9, x10⟩ := e
    simp only [Edu.val] at HP
    rw [← val_fold ne] at HP
    simp only at d0 d1 d2 d3 d4 d5 d6 d7 d8 d9 d10
    go_wp2_with fail
    refine (HP.out _).mono ?_
    rintro e w4 ⟨rfl, hb4⟩
    replace HM := Lib.hid (HM.out.below hb4)
    replace HG := Lib.hid (HG.out.later hb4)
    clear hb4 d0 d1 d2 d3 d4 d5 d6 d7 d8 d9 d10 c0 c1 c2 c3 c4 hix
    have HG5 := Lib.hid (HG.out.later (below_new w4 (.cells ne.cells.toArray 50)))
    have HM5 := Lib.hid (HM.out.below (below_new w4 (.cells ne.cells.toArray 50)))
    have hS5 := Lib.hid (Src.ofEdu w4 ne w4.heap.size rfl)
    go_wp2_with (first | (at_builtin; refine wpList_putE rfl (.tmp 24) (.tmp 31) rfl rfl HM5.out HG5.out.1.size _ ne hnw.out rfl hS5.out (by rw [List.length_map, List.length_take]; omega) ?_; intro g6 c6 w6 hg6 ho6 hb6 hk6; have HG6 := Lib.hid (HG5.out.put hb6 hk6); have HM6 := Lib.hid (MadeE.own (B := w.heap.size) (n := ((es.take k).map fewE).length + 1) (by simp) hg6 ho6); clear hg6 ho6 hb6 hk6; generalize hnn : ((es.take k).map fewE).length + 1 = nn at HM6 ⊢) | (refine wpList_buildE rfl (.tmp 30) rfl ne rfl ?_))
    rw [← HS.out] at HM6
    refine ⟨⟨k + 1, by omega, by go_num, HG6, HM6⟩, ?_⟩
    simp [intOf]; omega
end Go.Proofs.Ytnabbebkmafakaa
