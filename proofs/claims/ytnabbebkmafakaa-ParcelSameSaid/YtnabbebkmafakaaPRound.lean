/-
  What is written is read as it was; a parcel's answer is one, of its number, the other way: the statement ParcelRound, walked.
-/
import Derived.Test.YtnabbebkmafakaaPKit
namespace Go.Proofs.Ytnabbebkmafakaa
set_option maxRecDepth 20000
open Go.RowKit
set_option linter.unusedVariables false
set_option linter.unusedSimpArgs false

theorem goodParE_any (p : Par) (A : Option Addr) (cap : Nat) (w : World) (hE : EdusAt w A p.edus.length p.edus) (hl : p.edus.length ≤ maxLen) (hf : p.frm.size ≤ maxLen) (hd : p.dest.size ≤ maxLen) (hi : -9223372036854775808 ≤ p.id ∧ p.id ≤ 9223372036854775807) (w' : World) (hb : Below w.heap.size w w') :
    Calls Try.prog 9 #[.agg #[.bool p.ack, .string p.frm, .string p.dest, .int .i64 p.id, .slice A p.edus.length cap]] w' fun e w'' => ∃ S, e = .returned (parV (goodP p) S) ∧ MadeE w'' w'.heap.size S (goodP p).edus ∧ Below w'.heap.size w' w'' := goodPar_any p A cap w' (hE.below hb) hl hf hd hi
set_option maxHeartbeats 6400000 in
theorem parcelRound_walk (p : Par) (A : Option Addr) (cap : Nat) (w : World) (hE : EdusAt w A p.edus.length p.edus) (hl : p.edus.length ≤ maxLen) (hf : p.frm.size ≤ maxLen) (hd : p.dest.size ≤ maxLen) (hi : -9223372036854775808 ≤ p.id ∧ p.id ≤ 9223372036854775807) :
    Calls Try.prog 5 #[.agg #[.bool p.ack, .string p.frm, .string p.dest, .int .i64 p.id, .slice A p.edus.length cap]] w fun e w' => e = .returned (.bool true) ∧ Below w.heap.size w w' := by
  have HG := Lib.hid (fun w' hb => goodParE_any p A cap w hE hl hf hd hi w' hb)
  have mq := good_mayP p
  generalize goodP p = q at *
  clear hE hl hf hd hi
  have ma := answer_mayP mq
  have rq := readP_bytes (m1 := 16) (m2 := 1000000) mq (by decide) (by decide)
  have ra := readP_bytes (m1 := 16) (m2 := 1000000) ma (by decide) (by decide)
  have bq := parcel_len mq
  have ba := parcel_len ma
  obtain ⟨pf, pd, _⟩ := mayP_parts mq
  replace pf := server_size pf
  replace pd := server_size pd
  have HWq := Lib.hid (fun w A cap hE => writePar_yes q A cap w hE mq)
  have HWa := Lib.hid (fun w => writePar_yes (answerP q) none 0 w (edus_nil w none) ma)
  have HSm := Lib.hid (fun w A A' c c' h h' hl hl' => refSamePar_any q q A A' c c' w h h' hl hl')
  rw [sameP_self q] at HSm
  generalize bytesP q = BQ at *
  generalize bytesP (answerP q) = BA at *
  have HRq := Lib.hid (fun v lo w (h : ArgQ w lo v BQ) => readPar_yes h (by omega) rq)
  have HRa := Lib.hid (fun v lo w (h : ArgQ w lo v BA) => readPar_yes h (by omega) ra)
  clear rq ra ma mq
  obtain ⟨qa, qf, qd, qi, qe⟩ := q
  obtain ⟨pa, pf', pd', pi', pe⟩ := p
  simp only [answerP, parV] at *
  have HAn := Lib.hid (fun w S hS => answerPar_any false qf qd qi S w (by omega) (by omega) hS)
  clear pf pd bq ba
  simp only [List.length_nil] at *
  go_enter Try.func5, Try.ntmps5
  go_upto_region 1 with (fail)
  have HK : KeepP w _ _ _ (w.alloc (.cells #[.bool pa, .string pf', .string pd', .int .i64 pi', .slice A pe.length cap] 24)) := ((KeepP.refl w).new #[.bool pa, .string pf', .string pd', .int .i64 pi', .slice A pe.length cap] 24)
  try simp only [size_alloc1] at HK
  replace HK := Lib.hid (show KeepP w [(w.heap.size, #[.bool pa, .string pf', .string pd', .int .i64 pi', .slice A pe.length cap], 24)] [] [] (w.alloc (.cells #[.bool pa, .string pf', .string pd', .int .i64 pi', .slice A pe.length cap] 24)) from HK)
  generalize hW : (w.alloc (.cells #[.bool pa, .string pf', .string pd', .int .i64 pi', .slice A pe.length cap] 24)) = W0 at HK ⊢
  clear hW
  obtain ⟨c0_0, c0_1, c0_2, c0_3, c0_4⟩ := cells5p (HK.out.st 0 rfl)
  go_wp2_with fail
  clear c0_0 c0_1 c0_2 c0_3 c0_4
  refine (HG.out _ HK.out.below).mono ?_
  rintro e w1 ⟨S, rfl, hm, hb⟩
  obtain ⟨A1, cp1, rfl⟩ := hm.shape
  replace HK := Lib.hid (show KeepP w [(w.heap.size, #[.bool pa, .string pf', .string pd', .int .i64 pi', .slice A pe.length cap], 24)] [] [(.slice A1 qe.length cp1, (qe : List Edu))] w1 from (HK.out.later hb).consS (hm.mono (HK.out.below).size))
  clear hb hm
  try simp only [parV]
  go_upto_region 2 with (fail)
  have lt2_0 : w.heap.size < w1.heap.size := heap_lt (HK.out.st 0 rfl)
  replace HK := Lib.hid (HK.out.new #[.bool qa, .string qf, .string qd, .int .i64 qi, .slice A1 qe.length cp1] 24)
  generalize hW : (w1.alloc (.cells #[.bool qa, .string qf, .string qd, .int .i64 qi, .slice A1 qe.length cp1] 24)) = w2 at HK ⊢
  generalize hg : w1.heap.size = b2 at HK lt2_0 ⊢
  clear hW hg
  obtain ⟨c0_0, c0_1, c0_2, c0_3, c0_4⟩ := cells5p (HK.out.st 0 rfl)
  go_wp2_with fail
  clear c0_0 c0_1 c0_2 c0_3 c0_4
  refine (of_par _ _ _ _ _ _ _ _).mono ?_
  rintro e w3 ⟨rfl, hb⟩
  replace HK := Lib.hid (HK.out.later hb)
  clear hb
  go_wp2_with fail
  refine (HWq.out _ _ _ (made_at (HK.out.sl 0 rfl)).1).mono ?_
  rintro e w4 ⟨⟨g4, cap4, rfl, hg, ho⟩, hb⟩
  replace HK := Lib.hid (show KeepP w [(b2, #[.bool qa, .string qf, .string qd, .int .i64 qi, .slice A1 qe.length cp1], 24), (w.heap.size, #[.bool pa, .string pf', .string pd', .int .i64 pi', .slice A pe.length cap], 24)] [(.slice (some ⟨g4, 0, none⟩) BQ.length cap4, BQ)] [(.slice A1 qe.length cp1, (qe : List Edu))] w4 from (HK.out.later hb).consR (ho.row (Nat.zero_le _)))
  clear hb ho hg
  go_upto_region 3 with (fail)
  go_wp2_with fail
  refine (HRq.out _ _ _ (HK.out.row 0 rfl).argQ).mono ?_
  rintro e w5 ⟨S, rfl, hm, hb⟩
  obtain ⟨A5, cp5, rfl⟩ := hm.shape
  replace HK := Lib.hid (show KeepP w [(b2, #[.bool qa, .string qf, .string qd, .int .i64 qi, .slice A1 qe.length cp1], 24), (w.heap.size, #[.bool pa, .string pf', .string pd', .int .i64 pi', .slice A pe.length cap], 24)] [(.slice (some ⟨g4, 0, none⟩) BQ.length cap4, BQ)] [(.slice A5 qe.length cp5, (qe : List Edu)), (.slice A1 qe.length cp1, (qe : List Edu))] w5 from (HK.out.later hb).consS (hm.mono (HK.out.below).size))
  clear hb hm
  try simp only [parV]
  go_upto_region 4 with (fail)
  have lt6_0 : b2 < w5.heap.size := heap_lt (HK.out.st 0 rfl)
  replace HK := Lib.hid (HK.out.new #[.bool qa, .string qf, .string qd, .int .i64 qi, .slice A5 qe.length cp5] 33)
  generalize hW : (w5.alloc (.cells #[.bool qa, .string qf, .string qd, .int .i64 qi, .slice A5 qe.length cp5] 33)) = w6 at HK ⊢
  generalize hg : w5.heap.size = b6 at HK lt6_0 ⊢
  clear hW hg
  obtain ⟨c1_0, c1_1, c1_2, c1_3, c1_4⟩ := cells5p (HK.out.st 1 rfl)
  have fr := free_at (HK.out.st 1 rfl) 0
  go_upto_region 5 with (fail)
  clear c1_0 c1_1 c1_2 c1_3 c1_4
  clear fr
  replace HK := Lib.hid (show KeepP w [(b6, #[.bool qa, .string qf, .string qd, .int .i64 qi, .slice A5 qe.length cp5], 33), (b2, #[.bool false, .string qf, .string qd, .int .i64 qi, .slice A1 qe.length cp1], 24), (w.heap.size, #[.bool pa, .string pf', .string pd', .int .i64 pi', .slice A pe.length cap], 24)] [(.slice (some ⟨g4, 0, none⟩) BQ.length cap4, BQ)] [(.slice A5 qe.length cp5, (qe : List Edu)), (.slice A1 qe.length cp1, (qe : List Edu))] (w6.setCell ⟨b2, 0, none⟩ (.bool false)) from KeepP.store (pre := [(b6, #[.bool qa, .string qf, .string qd, .int .i64 qi, .slice A5 qe.length cp5], 33)]) (post := [(w.heap.size, #[.bool pa, .string pf', .string pd', .int .i64 pi', .slice A pe.length cap], 24)]) HK.out (by simp; try omega) (by omega) (by decide) (by decide))
  generalize hW : (w6.setCell ⟨b2, 0, none⟩ (.bool false)) = w7 at HK ⊢
  clear hW
  obtain ⟨c1_0, c1_1, c1_2, c1_3, c1_4⟩ := cells5p (HK.out.st 1 rfl)
  go_wp2_with fail
  clear c1_0 c1_1 c1_2 c1_3 c1_4
  refine (of_par _ _ _ _ _ _ _ _).mono ?_
  rintro e w8 ⟨rfl, hb⟩
  replace HK := Lib.hid (HK.out.later hb)
  clear hb
  go_wp2_with fail
  refine (HAn.out _ _ ⟨_, _, _, rfl⟩).mono ?_
  rintro e w9 ⟨rfl, hb⟩
  replace HK := Lib.hid (HK.out.later hb)
  clear hb
  go_upto_region 6 with (fail)
  replace HK := Lib.hid (HK.out.new #[.bool true, .string qd, .string qf, .int .i64 qi, .slice none 0 0] 33)
  generalize hW : (w9.alloc (.cells #[.bool true, .string qd, .string qf, .int .i64 qi, .slice none 0 0] 33)) = w10 at HK ⊢
  generalize hg : w9.heap.size = b10 at HK  ⊢
  clear hW hg
  obtain ⟨c0_0, c0_1, c0_2, c0_3, c0_4⟩ := cells5p (HK.out.st 0 rfl)
  go_wp2_with fail
  clear c0_0 c0_1 c0_2 c0_3 c0_4
  refine (HWa.out _).mono ?_
  rintro e w11 ⟨⟨g11, cap11, rfl, hg, ho⟩, hb⟩
  replace HK := Lib.hid (show KeepP w [(b10, #[.bool true, .string qd, .string qf, .int .i64 qi, .slice none 0 0], 33), (b6, #[.bool qa, .string qf, .string qd, .int .i64 qi, .slice A5 qe.length cp5], 33), (b2, #[.bool false, .string qf, .string qd, .int .i64 qi, .slice A1 qe.length cp1], 24), (w.heap.size, #[.bool pa, .string pf', .string pd', .int .i64 pi', .slice A pe.length cap], 24)] [(.slice (some ⟨g11, 0, none⟩) BA.length cap11, BA), (.slice (some ⟨g4, 0, none⟩) BQ.length cap4, BQ)] [(.slice A5 qe.length cp5, (qe : List Edu)), (.slice A1 qe.length cp1, (qe : List Edu))] w11 from (HK.out.later hb).consR (ho.row (Nat.zero_le _)))
  clear hb ho hg
  go_upto_region 7 with (fail)
  go_wp2_with fail
  refine (HRa.out _ _ _ (HK.out.row 0 rfl).argQ).mono ?_
  rintro e w12 ⟨S, rfl, hm, hb⟩
  obtain ⟨A12, cp12, rfl⟩ := hm.shape
  replace HK := Lib.hid (show KeepP w [(b10, #[.bool true, .string qd, .string qf, .int .i64 qi, .slice none 0 0], 33), (b6, #[.bool qa, .string qf, .string qd, .int .i64 qi, .slice A5 qe.length cp5], 33), (b2, #[.bool false, .string qf, .string qd, .int .i64 qi, .slice A1 qe.length cp1], 24), (w.heap.size, #[.bool pa, .string pf', .string pd', .int .i64 pi', .slice A pe.length cap], 24)] [(.slice (some ⟨g11, 0, none⟩) BA.length cap11, BA), (.slice (some ⟨g4, 0, none⟩) BQ.length cap4, BQ)] [(.slice A12 0 cp12, ([] : List Edu)), (.slice A5 qe.length cp5, (qe : List Edu)), (.slice A1 qe.length cp1, (qe : List Edu))] w12 from (HK.out.later hb).consS (hm.mono (HK.out.below).size))
  clear hb hm
  try simp only [parV]
  go_upto_region 8 with (fail)
  try simp only [List.length_nil]
  replace HK := Lib.hid (HK.out.new #[.bool true, .string qd, .string qf, .int .i64 qi, .slice A12 0 cp12] 33)
  generalize hW : (w12.alloc (.cells #[.bool true, .string qd, .string qf, .int .i64 qi, .slice A12 0 cp12] 33)) = w13 at HK ⊢
  generalize hg : w12.heap.size = b13 at HK  ⊢
  clear hW hg
  refine wp_region_held_drew (S := fun w' => KeepP w [(b13, #[.bool true, .string qd, .string qf, .int .i64 qi, .slice A12 0 cp12], 33), (b10, #[.bool true, .string qd, .string qf, .int .i64 qi, .slice none 0 0], 33), (b6, #[.bool qa, .string qf, .string qd, .int .i64 qi, .slice A5 qe.length cp5], 33), (b2, #[.bool false, .string qf, .string qd, .int .i64 qi, .slice A1 qe.length cp1], 24), (w.heap.size, #[.bool pa, .string pf', .string pd', .int .i64 pi', .slice A pe.length cap], 24)] [(.slice (some ⟨g11, 0, none⟩) BA.length cap11, BA), (.slice (some ⟨g4, 0, none⟩) BQ.length cap4, BQ)] [(.slice A12 0 cp12, ([] : List Edu)), (.slice A5 qe.length cp5, (qe : List Edu)), (.slice A1 qe.length cp1, (qe : List Edu))] w') (by kernel_rfl) HK.out.drew (fun hHeld => ?_)
  generalize hwd : w13.drew = wd at hHeld ⊢
  clear HK hwd
  refine wpAnyH_take (i := 0) (oi := ⟨some 40, _, _, _, _, _⟩) (v := ?v0) rfl (by kernel_rfl) (by kernel_rfl) (by kernel_rfl) (fun _ _ _ h => h) (Or.inl ⟨by rfl, ?y0⟩) hHeld ?r0
  case y0 =>
    intro wx hSx
    go_simp
    try with_reducible rfl
  try simp only [Act.put, List.setIfInBounds_toArray, List.set_cons_zero, List.set_cons_succ]
  refine wpAnyH_take (i := 1) (oi := ⟨some 41, _, _, _, _, _⟩) (v := ?v1) rfl (by kernel_rfl) (by kernel_rfl) (by kernel_rfl) (fun _ _ _ h => h) (Or.inl ⟨by rfl, ?y1⟩) hHeld ?r1
  case y1 =>
    intro wx hSx
    go_simp
    try with_reducible rfl
  try simp only [Act.put, List.setIfInBounds_toArray, List.set_cons_zero, List.set_cons_succ]
  refine wpAnyH_take (i := 2) (oi := ⟨some 42, _, _, _, _, _⟩) (v := ?v2) rfl (by kernel_rfl) (by kernel_rfl) (by kernel_rfl) (fun _ _ _ h => h) (Or.inl ⟨by rfl, ?y2⟩) hHeld ?r2
  case y2 =>
    intro wx hSx
    go_simp
    try with_reducible rfl
  try simp only [Act.put, List.setIfInBounds_toArray, List.set_cons_zero, List.set_cons_succ]
  refine wpAnyH_take (i := 3) (oi := ⟨some 43, _, _, _, _, _⟩) (v := ?v3) rfl (by kernel_rfl) (by kernel_rfl) (by kernel_rfl) (fun _ _ _ h => h) (Or.inl ⟨by rfl, ?y3⟩) hHeld ?r3
  case y3 =>
    intro wx hSx
    go_simp
    try with_reducible rfl
  try simp only [Act.put, List.setIfInBounds_toArray, List.set_cons_zero, List.set_cons_succ]
  refine wpAnyH_take (i := 4) (oi := ⟨some 44, _, _, _, _, _⟩) (v := ?v4) rfl (by kernel_rfl) (by kernel_rfl) (by kernel_rfl) (fun _ _ _ h => h) (Or.inl ⟨by rfl, ?y4⟩) hHeld ?r4
  case y4 =>
    intro wx hSx
    go_simp
    try with_reducible rfl
  try simp only [Act.put, List.setIfInBounds_toArray, List.set_cons_zero, List.set_cons_succ]
  refine wpAnyH_take (i := 5) (oi := ⟨some 45, _, _, _, _, _⟩) (v := ?v5) rfl (by kernel_rfl) (by kernel_rfl) (by kernel_rfl) (fun _ _ _ h => h) (Or.inl ⟨by rfl, ?y5⟩) hHeld ?r5
  case y5 =>
    intro wx hSx
    go_simp
    try with_reducible rfl
  try simp only [Act.put, List.setIfInBounds_toArray, List.set_cons_zero, List.set_cons_succ]
  refine wpAnyH_take (i := 6) (oi := ⟨some 46, _, _, _, _, _⟩) (v := ?v6) rfl (by kernel_rfl) (by kernel_rfl) (by kernel_rfl) (fun _ _ _ h => h) (Or.inl ⟨by rfl, ?y6⟩) hHeld ?r6
  case y6 =>
    intro wx hSx
    go_simp
    try with_reducible rfl
  try simp only [Act.put, List.setIfInBounds_toArray, List.set_cons_zero, List.set_cons_succ]
  refine wpAnyH_take (i := 7) (oi := ⟨some 47, _, _, _, _, _⟩) (v := ?v7) rfl (by kernel_rfl) (by kernel_rfl) (by kernel_rfl) (fun _ _ _ h => h) (Or.inl ⟨by rfl, ?y7⟩) hHeld ?r7
  case y7 =>
    intro wx hSx
    obtain ⟨c0, c1, c2, c3, c4⟩ := cells5p (hSx.st 2 rfl)
    go_simp
    try with_reducible rfl
  try simp only [Act.put, List.setIfInBounds_toArray, List.set_cons_zero, List.set_cons_succ]
  refine wpAnyH_take (i := 9) (oi := ⟨some 49, _, _, _, _, _⟩) (v := ?v9) rfl (by kernel_rfl) (by kernel_rfl) (by kernel_rfl) (fun _ _ _ h => h) (Or.inl ⟨by rfl, ?y9⟩) hHeld ?r9
  case y9 =>
    intro wx hSx
    obtain ⟨c0, c1, c2, c3, c4⟩ := cells5p (hSx.st 4 rfl)
    go_simp
    try with_reducible rfl
  try simp only [Act.put, List.setIfInBounds_toArray, List.set_cons_zero, List.set_cons_succ]
  refine wpAnyH_ready (rs := [8]) (by kernel_rfl) (by simp) ?_
  refine AllReadyH.cons (o := ⟨some 48, _, _, _, _, _⟩) rfl (fun K hK => ?_) AllReadyH.nil
  go_simp
  refine (as_par _ _ _ _ _ _ _ _).mono ?_
  rintro e wn8 ⟨rfl, hbn⟩
  replace hHeld := hHeld.later hbn
  refine hK.out _ _ hHeld (fun _ => ?_)
  clear hK K hbn
  try simp only [Act.put, List.setIfInBounds_toArray, List.set_cons_zero, List.set_cons_succ]
  refine wpAnyH_ready (rs := [10]) (by kernel_rfl) (by simp) ?_
  refine AllReadyH.cons (o := ⟨some 50, _, _, _, _, _⟩) rfl (fun K hK => ?_) AllReadyH.nil
  go_simp
  refine (HG.out _ hHeld.below).mono ?_
  rintro e wn10 ⟨S4, rfl, hm4, hbn⟩
  replace hHeld := hHeld.later hbn
  refine hK.out _ _ hHeld (fun _ => ?_)
  clear hK K hbn
  try simp only [Act.put, List.setIfInBounds_toArray, List.set_cons_zero, List.set_cons_succ]
  obtain ⟨A4, c4, rfl⟩ := hm4.shape
  try simp only [parV]
  refine wpAnyH_ready (rs := [11]) (by kernel_rfl) (by simp) ?_
  refine AllReadyH.cons (o := ⟨some 51, _, _, _, _, _⟩) rfl (fun K hK => ?_) AllReadyH.nil
  go_simp
  refine (HSm.out _ _ _ _ _ (made_at (hHeld.sl 1 rfl)).1 (made_at hm4).1 (made_at hm4).2 (made_at hm4).2).mono ?_
  rintro e wn11 ⟨rfl, hbn⟩
  replace hHeld := hHeld.later hbn
  refine hK.out _ _ hHeld (fun _ => ?_)
  clear hK K hbn
  try simp only [Act.put, List.setIfInBounds_toArray, List.set_cons_zero, List.set_cons_succ]
  refine wpAnyH_take (i := 12) (oi := ⟨some 52, _, _, _, _, _⟩) (v := ?v12) rfl (by kernel_rfl) (by kernel_rfl) (by kernel_rfl) (fun _ _ _ h => h) (Or.inl ⟨by rfl, ?y12⟩) hHeld ?r12
  case y12 =>
    intro wx hSx
    go_simp
    try with_reducible rfl
  try simp only [Act.put, List.setIfInBounds_toArray, List.set_cons_zero, List.set_cons_succ]
  refine wpAnyH_take (i := 13) (oi := ⟨some 53, _, _, _, _, _⟩) (v := ?v13) rfl (by kernel_rfl) (by kernel_rfl) (by kernel_rfl) (fun _ _ _ h => h) (Or.inl ⟨by rfl, ?y13⟩) hHeld ?r13
  case y13 =>
    intro wx hSx
    go_simp
    try with_reducible rfl
  try simp only [Act.put, List.setIfInBounds_toArray, List.set_cons_zero, List.set_cons_succ]
  refine wpAnyH_take (i := 14) (oi := ⟨some 54, _, _, _, _, _⟩) (v := ?v14) rfl (by kernel_rfl) (by kernel_rfl) (by kernel_rfl) (fun _ _ _ h => h) (Or.inl ⟨by rfl, ?y14⟩) hHeld ?r14
  case y14 =>
    intro wx hSx
    go_simp
    try with_reducible rfl
  try simp only [Act.put, List.setIfInBounds_toArray, List.set_cons_zero, List.set_cons_succ]
  refine wpAnyH_take (i := 15) (oi := ⟨some 55, _, _, _, _, _⟩) (v := ?v15) rfl (by kernel_rfl) (by kernel_rfl) (by kernel_rfl) (fun _ _ _ h => h) (Or.inl ⟨by rfl, ?y15⟩) hHeld ?r15
  case y15 =>
    intro wx hSx
    go_simp
    try with_reducible rfl
  try simp only [Act.put, List.setIfInBounds_toArray, List.set_cons_zero, List.set_cons_succ]
  refine wpAnyH_take (i := 16) (oi := ⟨some 56, _, _, _, _, _⟩) (v := ?v16) rfl (by kernel_rfl) (by kernel_rfl) (by kernel_rfl) (fun _ _ _ h => h) (Or.inl ⟨by rfl, ?y16⟩) hHeld ?r16
  case y16 =>
    intro wx hSx
    go_simp
    try with_reducible rfl
  try simp only [Act.put, List.setIfInBounds_toArray, List.set_cons_zero, List.set_cons_succ]
  refine wpAnyH_take (i := 17) (oi := ⟨some 57, _, _, _, _, _⟩) (v := ?v17) rfl (by kernel_rfl) (by kernel_rfl) (by kernel_rfl) (fun _ _ _ h => h) (Or.inl ⟨by rfl, ?y17⟩) hHeld ?r17
  case y17 =>
    intro wx hSx
    go_simp
    try with_reducible rfl
  try simp only [Act.put, List.setIfInBounds_toArray, List.set_cons_zero, List.set_cons_succ]
  refine wpAnyH_take (i := 18) (oi := ⟨some 58, _, _, _, _, _⟩) (v := ?v18) rfl (by kernel_rfl) (by kernel_rfl) (by kernel_rfl) (fun _ _ _ h => h) (Or.inl ⟨by rfl, ?y18⟩) hHeld ?r18
  case y18 =>
    intro wx hSx
    go_simp
    try with_reducible rfl
  try simp only [Act.put, List.setIfInBounds_toArray, List.set_cons_zero, List.set_cons_succ]
  refine wpAnyH_take (i := 19) (oi := ⟨some 59, _, _, _, _, _⟩) (v := ?v19) rfl (by kernel_rfl) (by kernel_rfl) (by kernel_rfl) (fun _ _ _ h => h) (Or.inl ⟨by rfl, ?y19⟩) hHeld ?r19
  case y19 =>
    intro wx hSx
    go_simp
    try with_reducible rfl
  try simp only [Act.put, List.setIfInBounds_toArray, List.set_cons_zero, List.set_cons_succ]
  refine wpAnyH_take (i := 20) (oi := ⟨some 60, _, _, _, _, _⟩) (v := ?v20) rfl (by kernel_rfl) (by kernel_rfl) (by kernel_rfl) (fun _ _ _ h => h) (Or.inl ⟨by rfl, ?y20⟩) hHeld ?r20
  case y20 =>
    intro wx hSx
    go_simp
    try with_reducible rfl
  try simp only [Act.put, List.setIfInBounds_toArray, List.set_cons_zero, List.set_cons_succ]
  refine wpAnyH_take (i := 21) (oi := ⟨some 61, _, _, _, _, _⟩) (v := ?v21) rfl (by kernel_rfl) (by kernel_rfl) (by kernel_rfl) (fun _ _ _ h => h) (Or.inl ⟨by rfl, ?y21⟩) hHeld ?r21
  case y21 =>
    intro wx hSx
    go_simp
    try with_reducible rfl
  try simp only [Act.put, List.setIfInBounds_toArray, List.set_cons_zero, List.set_cons_succ]
  refine wpAnyH_take (i := 22) (oi := ⟨some 62, _, _, _, _, _⟩) (v := ?v22) rfl (by kernel_rfl) (by kernel_rfl) (by kernel_rfl) (fun _ _ _ h => h) (Or.inl ⟨by rfl, ?y22⟩) hHeld ?r22
  case y22 =>
    intro wx hSx
    go_simp
    try with_reducible rfl
  try simp only [Act.put, List.setIfInBounds_toArray, List.set_cons_zero, List.set_cons_succ]
  refine wpAnyH_take (i := 23) (oi := ⟨some 63, _, _, _, _, _⟩) (v := ?v23) rfl (by kernel_rfl) (by kernel_rfl) (by kernel_rfl) (fun _ _ _ h => h) (Or.inl ⟨by rfl, ?y23⟩) hHeld ?r23
  case y23 =>
    intro wx hSx
    obtain ⟨c0, c1, c2, c3, c4⟩ := cells5p (hSx.st 0 rfl)
    go_simp
    try with_reducible rfl
  try simp only [Act.put, List.setIfInBounds_toArray, List.set_cons_zero, List.set_cons_succ]
  refine wpAnyH_take (i := 24) (oi := ⟨some 64, _, _, _, _, _⟩) (v := ?v24) rfl (by kernel_rfl) (by kernel_rfl) (by kernel_rfl) (fun _ _ _ h => h) (Or.inl ⟨by rfl, ?y24⟩) hHeld ?r24
  case y24 =>
    intro wx hSx
    go_simp
    try with_reducible rfl
  try simp only [Act.put, List.setIfInBounds_toArray, List.set_cons_zero, List.set_cons_succ]
  refine wpAnyH_take (i := 25) (oi := ⟨some 65, _, _, _, _, _⟩) (v := ?v25) rfl (by kernel_rfl) (by kernel_rfl) (by kernel_rfl) (fun _ _ _ h => h) (Or.inl ⟨by rfl, ?y25⟩) hHeld ?r25
  case y25 =>
    intro wx hSx
    go_simp
    try with_reducible rfl
  try simp only [Act.put, List.setIfInBounds_toArray, List.set_cons_zero, List.set_cons_succ]
  refine wpAnyH_take (i := 26) (oi := ⟨some 66, _, _, _, _, _⟩) (v := ?v26) rfl (by kernel_rfl) (by kernel_rfl) (by kernel_rfl) (fun _ _ _ h => h) (Or.inl ⟨by rfl, ?y26⟩) hHeld ?r26
  case y26 =>
    intro wx hSx
    go_simp
    try with_reducible rfl
  try simp only [Act.put, List.setIfInBounds_toArray, List.set_cons_zero, List.set_cons_succ]
  refine wpAnyH_take (i := 27) (oi := ⟨some 67, _, _, _, _, _⟩) (v := ?v27) rfl (by kernel_rfl) (by kernel_rfl) (by kernel_rfl) (fun _ _ _ h => h) (Or.inl ⟨by rfl, ?y27⟩) hHeld ?r27
  case y27 =>
    intro wx hSx
    obtain ⟨c0, c1, c2, c3, c4⟩ := cells5p (hSx.st 0 rfl)
    go_simp
    try with_reducible rfl
  try simp only [Act.put, List.setIfInBounds_toArray, List.set_cons_zero, List.set_cons_succ]
  refine wpAnyH_take (i := 28) (oi := ⟨some 68, _, _, _, _, _⟩) (v := ?v28) rfl (by kernel_rfl) (by kernel_rfl) (by kernel_rfl) (fun _ _ _ h => h) (Or.inl ⟨by rfl, ?y28⟩) hHeld ?r28
  case y28 =>
    intro wx hSx
    go_simp
    try with_reducible rfl
  try simp only [Act.put, List.setIfInBounds_toArray, List.set_cons_zero, List.set_cons_succ]
  refine wpAnyH_take (i := 29) (oi := ⟨some 69, _, _, _, _, _⟩) (v := ?v29) rfl (by kernel_rfl) (by kernel_rfl) (by kernel_rfl) (fun _ _ _ h => h) (Or.inl ⟨by rfl, ?y29⟩) hHeld ?r29
  case y29 =>
    intro wx hSx
    obtain ⟨c0, c1, c2, c3, c4⟩ := cells5p (hSx.st 3 rfl)
    go_simp
    try with_reducible rfl
  try simp only [Act.put, List.setIfInBounds_toArray, List.set_cons_zero, List.set_cons_succ]
  refine wpAnyH_take (i := 30) (oi := ⟨some 70, _, _, _, _, _⟩) (v := ?v30) rfl (by kernel_rfl) (by kernel_rfl) (by kernel_rfl) (fun _ _ _ h => h) (Or.inl ⟨by rfl, ?y30⟩) hHeld ?r30
  case y30 =>
    intro wx hSx
    go_simp
    try with_reducible rfl
  try simp only [Act.put, List.setIfInBounds_toArray, List.set_cons_zero, List.set_cons_succ]
  refine wpAnyH_take (i := 31) (oi := ⟨some 71, _, _, _, _, _⟩) (v := ?v31) rfl (by kernel_rfl) (by kernel_rfl) (by kernel_rfl) (fun _ _ _ h => h) (Or.inl ⟨by rfl, ?y31⟩) hHeld ?r31
  case y31 =>
    intro wx hSx
    go_simp
    try with_reducible rfl
  try simp only [Act.put, List.setIfInBounds_toArray, List.set_cons_zero, List.set_cons_succ]
  refine wpAnyH_take (i := 32) (oi := ⟨some 72, _, _, _, _, _⟩) (v := ?v32) rfl (by kernel_rfl) (by kernel_rfl) (by kernel_rfl) (fun _ _ _ h => h) (Or.inl ⟨by rfl, ?y32⟩) hHeld ?r32
  case y32 =>
    intro wx hSx
    go_simp
    try with_reducible rfl
  try simp only [Act.put, List.setIfInBounds_toArray, List.set_cons_zero, List.set_cons_succ]
  refine wpAnyH_take (i := 33) (oi := ⟨some 73, _, _, _, _, _⟩) (v := ?v33) rfl (by kernel_rfl) (by kernel_rfl) (by kernel_rfl) (fun _ _ _ h => h) (Or.inl ⟨by rfl, ?y33⟩) hHeld ?r33
  case y33 =>
    intro wx hSx
    go_simp
    try with_reducible rfl
  try simp only [Act.put, List.setIfInBounds_toArray, List.set_cons_zero, List.set_cons_succ]
  refine wpAnyH_take (i := 34) (oi := ⟨some 74, _, _, _, _, _⟩) (v := ?v34) rfl (by kernel_rfl) (by kernel_rfl) (by kernel_rfl) (fun _ _ _ h => h) (Or.inl ⟨by rfl, ?y34⟩) hHeld ?r34
  case y34 =>
    intro wx hSx
    obtain ⟨c0, c1, c2, c3, c4⟩ := cells5p (hSx.st 0 rfl)
    go_simp
    try with_reducible rfl
  try simp only [Act.put, List.setIfInBounds_toArray, List.set_cons_zero, List.set_cons_succ]
  refine wpAnyH_take (i := 35) (oi := ⟨some 75, _, _, _, _, _⟩) (v := ?v35) rfl (by kernel_rfl) (by kernel_rfl) (by kernel_rfl) (fun _ _ _ h => h) (Or.inl ⟨by rfl, ?y35⟩) hHeld ?r35
  case y35 =>
    intro wx hSx
    go_simp
    try with_reducible rfl
  try simp only [Act.put, List.setIfInBounds_toArray, List.set_cons_zero, List.set_cons_succ]
  refine wpAnyH_take (i := 36) (oi := ⟨some 76, _, _, _, _, _⟩) (v := ?v36) rfl (by kernel_rfl) (by kernel_rfl) (by kernel_rfl) (fun _ _ _ h => h) (Or.inl ⟨by rfl, ?y36⟩) hHeld ?r36
  case y36 =>
    intro wx hSx
    obtain ⟨c0, c1, c2, c3, c4⟩ := cells5p (hSx.st 3 rfl)
    go_simp
    try with_reducible rfl
  try simp only [Act.put, List.setIfInBounds_toArray, List.set_cons_zero, List.set_cons_succ]
  refine wpAnyH_take (i := 37) (oi := ⟨some 77, _, _, _, _, _⟩) (v := ?v37) rfl (by kernel_rfl) (by kernel_rfl) (by kernel_rfl) (fun _ _ _ h => h) (Or.inl ⟨by rfl, ?y37⟩) hHeld ?r37
  case y37 =>
    intro wx hSx
    go_simp
    try with_reducible rfl
  try simp only [Act.put, List.setIfInBounds_toArray, List.set_cons_zero, List.set_cons_succ]
  refine wpAnyH_take (i := 38) (oi := ⟨some 78, _, _, _, _, _⟩) (v := ?v38) rfl (by kernel_rfl) (by kernel_rfl) (by kernel_rfl) (fun _ _ _ h => h) (Or.inl ⟨by rfl, ?y38⟩) hHeld ?r38
  case y38 =>
    intro wx hSx
    go_simp
    try with_reducible rfl
  try simp only [Act.put, List.setIfInBounds_toArray, List.set_cons_zero, List.set_cons_succ]
  refine wpAnyH_take (i := 39) (oi := ⟨some 79, _, _, _, _, _⟩) (v := ?v39) rfl (by kernel_rfl) (by kernel_rfl) (by kernel_rfl) (fun _ _ _ h => h) (Or.inl ⟨by rfl, ?y39⟩) hHeld ?r39
  case y39 =>
    intro wx hSx
    go_simp
    try with_reducible rfl
  try simp only [Act.put, List.setIfInBounds_toArray, List.set_cons_zero, List.set_cons_succ]
  refine wpAnyH_take (i := 40) (oi := ⟨some 80, _, _, _, _, _⟩) (v := ?v40) rfl (by kernel_rfl) (by kernel_rfl) (by kernel_rfl) (fun _ _ _ h => h) (Or.inl ⟨by rfl, ?y40⟩) hHeld ?r40
  case y40 =>
    intro wx hSx
    go_simp
    try with_reducible rfl
  try simp only [Act.put, List.setIfInBounds_toArray, List.set_cons_zero, List.set_cons_succ]
  refine wpAnyH_take (i := 41) (oi := ⟨some 81, _, _, _, _, _⟩) (v := ?v41) rfl (by kernel_rfl) (by kernel_rfl) (by kernel_rfl) (fun _ _ _ h => h) (Or.inl ⟨by rfl, ?y41⟩) hHeld ?r41
  case y41 =>
    intro wx hSx
    obtain ⟨c0, c1, c2, c3, c4⟩ := cells5p (hSx.st 0 rfl)
    go_simp
    try with_reducible rfl
  try simp only [Act.put, List.setIfInBounds_toArray, List.set_cons_zero, List.set_cons_succ]
  refine wpAnyH_take (i := 42) (oi := ⟨some 82, _, _, _, _, _⟩) (v := ?v42) rfl (by kernel_rfl) (by kernel_rfl) (by kernel_rfl) (fun _ _ _ h => h) (Or.inl ⟨by rfl, ?y42⟩) hHeld ?r42
  case y42 =>
    intro wx hSx
    go_simp
    try with_reducible rfl
  try simp only [Act.put, List.setIfInBounds_toArray, List.set_cons_zero, List.set_cons_succ]
  refine wpAnyH_take (i := 43) (oi := ⟨some 83, _, _, _, _, _⟩) (v := ?v43) rfl (by kernel_rfl) (by kernel_rfl) (by kernel_rfl) (fun _ _ _ h => h) (Or.inl ⟨by rfl, ?y43⟩) hHeld ?r43
  case y43 =>
    intro wx hSx
    obtain ⟨c0, c1, c2, c3, c4⟩ := cells5p (hSx.st 3 rfl)
    go_simp
    try with_reducible rfl
  try simp only [Act.put, List.setIfInBounds_toArray, List.set_cons_zero, List.set_cons_succ]
  refine wpAnyH_take (i := 44) (oi := ⟨some 84, _, _, _, _, _⟩) (v := ?v44) rfl (by kernel_rfl) (by kernel_rfl) (by kernel_rfl) (fun _ _ _ h => h) (Or.inl ⟨by rfl, ?y44⟩) hHeld ?r44
  case y44 =>
    intro wx hSx
    go_simp
    try with_reducible rfl
  try simp only [Act.put, List.setIfInBounds_toArray, List.set_cons_zero, List.set_cons_succ]
  refine wpAnyH_take (i := 45) (oi := ⟨some 85, _, _, _, _, _⟩) (v := ?v45) rfl (by kernel_rfl) (by kernel_rfl) (by kernel_rfl) (fun _ _ _ h => h) (Or.inl ⟨by rfl, ?y45⟩) hHeld ?r45
  case y45 =>
    intro wx hSx
    go_simp
    try with_reducible rfl
  try simp only [Act.put, List.setIfInBounds_toArray, List.set_cons_zero, List.set_cons_succ]
  refine wpAnyH_take (i := 46) (oi := ⟨some 86, _, _, _, _, _⟩) (v := ?v46) rfl (by kernel_rfl) (by kernel_rfl) (by kernel_rfl) (fun _ _ _ h => h) (Or.inl ⟨by rfl, ?y46⟩) hHeld ?r46
  case y46 =>
    intro wx hSx
    go_simp
    try with_reducible rfl
  try simp only [Act.put, List.setIfInBounds_toArray, List.set_cons_zero, List.set_cons_succ]
  refine wpAnyH_take (i := 47) (oi := ⟨some 87, _, _, _, _, _⟩) (v := ?v47) rfl (by kernel_rfl) (by kernel_rfl) (by kernel_rfl) (fun _ _ _ h => h) (Or.inl ⟨by rfl, ?y47⟩) hHeld ?r47
  case y47 =>
    intro wx hSx
    go_simp
    try with_reducible rfl
  try simp only [Act.put, List.setIfInBounds_toArray, List.set_cons_zero, List.set_cons_succ]
  refine wpAnyH_take (i := 48) (oi := ⟨some 88, _, _, _, _, _⟩) (v := ?v48) rfl (by kernel_rfl) (by kernel_rfl) (by kernel_rfl) (fun _ _ _ h => h) (Or.inl ⟨by rfl, ?y48⟩) hHeld ?r48
  case y48 =>
    intro wx hSx
    obtain ⟨c0, c1, c2, c3, c4⟩ := cells5p (hSx.st 0 rfl)
    go_simp
    try with_reducible rfl
  try simp only [Act.put, List.setIfInBounds_toArray, List.set_cons_zero, List.set_cons_succ]
  refine wpAnyH_take (i := 49) (oi := ⟨some 89, _, _, _, _, _⟩) (v := ?v49) rfl (by kernel_rfl) (by kernel_rfl) (by kernel_rfl) (fun _ _ _ h => h) (Or.inl ⟨by rfl, ?y49⟩) hHeld ?r49
  case y49 =>
    intro wx hSx
    go_simp
    try with_reducible rfl
  try simp only [Act.put, List.setIfInBounds_toArray, List.set_cons_zero, List.set_cons_succ]
  refine wpAnyH_take (i := 50) (oi := ⟨some 90, _, _, _, _, _⟩) (v := ?v50) rfl (by kernel_rfl) (by kernel_rfl) (by kernel_rfl) (fun _ _ _ h => h) (Or.inl ⟨by rfl, ?y50⟩) hHeld ?r50
  case y50 =>
    intro wx hSx
    go_simp
    try with_reducible rfl
  try simp only [Act.put, List.setIfInBounds_toArray, List.set_cons_zero, List.set_cons_succ]
  refine wpAnyH_take (i := 51) (oi := ⟨some 91, _, _, _, _, _⟩) (v := ?v51) rfl (by kernel_rfl) (by kernel_rfl) (by kernel_rfl) (fun _ _ _ h => h) (Or.inl ⟨by rfl, ?y51⟩) hHeld ?r51
  case y51 =>
    intro wx hSx
    go_simp
    try with_reducible rfl
  try simp only [Act.put, List.setIfInBounds_toArray, List.set_cons_zero, List.set_cons_succ]
  refine wpAnyH_take (i := 52) (oi := ⟨some 92, _, _, _, _, _⟩) (v := ?v52) rfl (by kernel_rfl) (by kernel_rfl) (by kernel_rfl) (fun _ _ _ h => h) (Or.inl ⟨by rfl, ?y52⟩) hHeld ?r52
  case y52 =>
    intro wx hSx
    go_simp
    try with_reducible rfl
  try simp only [Act.put, List.setIfInBounds_toArray, List.set_cons_zero, List.set_cons_succ]
  refine wpAnyH_ready (rs := [53]) (by kernel_rfl) (by simp) ?_
  refine AllReadyH.cons (o := ⟨some 93, _, _, _, _, _⟩) rfl (fun K hK => ?_) AllReadyH.nil
  go_simp
  refine (lives4_any _).mono ?_
  rintro e wn53 ⟨rfl, hbn⟩
  replace hHeld := hHeld.later hbn
  refine hK.out _ _ hHeld (fun _ => ?_)
  clear hK K hbn
  try simp only [Act.put, List.setIfInBounds_toArray, List.set_cons_zero, List.set_cons_succ]
  refine wpAnyH_take (i := 54) (oi := ⟨some 94, _, _, _, _, _⟩) (v := ?v54) rfl (by kernel_rfl) (by kernel_rfl) (by kernel_rfl) (fun _ _ _ h => h) (Or.inl ⟨by rfl, ?y54⟩) hHeld ?r54
  case y54 =>
    intro wx hSx
    go_simp
    try with_reducible rfl
  try simp only [Act.put, List.setIfInBounds_toArray, List.set_cons_zero, List.set_cons_succ]
  refine wpAnyH_take (i := 55) (oi := ⟨some 2, _, _, _, _, _⟩) (v := ?v55) rfl (by kernel_rfl) (by kernel_rfl) (by kernel_rfl) (fun _ _ _ h => h) (Or.inl ⟨by rfl, ?y55⟩) hHeld ?r55
  case y55 =>
    intro wx hSx
    go_simp
    try with_reducible rfl
  try simp only [Act.put, List.setIfInBounds_toArray, List.set_cons_zero, List.set_cons_succ]
  refine wpAnyH_done (by kernel_rfl) ?_ _
  have HB := Lib.hid hHeld.below
  clear hHeld
  go_wp2_with fail
  go_ret
  exact ⟨rfl, HB.out⟩
end Go.Proofs.Ytnabbebkmafakaa
