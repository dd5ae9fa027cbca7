/-
  What is written is read as it was, and no two EDUs have the same bytes: the statement EduRound, walked.
-/
import Derived.Test.YtahgkhcmchbpbaaLawKit
namespace Go.Proofs.Ytahgkhcmchbpbaa
open Go.RowKit
set_option linter.unusedVariables false
set_option linter.unusedSimpArgs false
set_option maxRecDepth 4000

set_option maxHeartbeats 6400000 in
theorem eduRound_walk (a b : Edu) (w : World) (ha : a.fits) (hb : b.fits) (a3 : a.event.size ≤ maxLen) (a4 : a.thread.size ≤ maxLen) (b3 : b.event.size ≤ maxLen) (b4 : b.thread.size ≤ maxLen) :
    Calls Try.prog 5 #[a.val, b.val] w fun e w' => e = .returned (.bool true) ∧ Below w.heap.size w w' := by
  have HPa := Lib.hid (fun w => public_any a w ha a3 a4)
  have HPb := Lib.hid (fun w => public_any b w hb b3 b4)
  have mx := public_may a
  have my := public_may b
  clear ha hb a3 a4 b3 b4
  generalize publicE a = x at *
  generalize publicE b = y at *
  have fx := local_fits (may_local mx)
  have fy := local_fits (may_local my)
  have sx := local_short (may_local mx)
  have sy := local_short (may_local my)
  have HWx := Lib.hid (fun w => write_yes x w fx sx mx)
  have HWy := Lib.hid (fun w => write_yes y w fy sy my)
  have lx := bytes_len fx sx
  have hans := answer_bytes (m := 34) mx (by decide)
  have HI := Lib.hid (show bytesB x = bytesB y ↔ x = y from ⟨bytes_inj mx my, fun h => by rw [h]⟩)
  have HEs := Lib.hid (eql_edu x x)
  have HEd := Lib.hid (eql_edu x y)
  rw [(eqE_iff x x).2 rfl] at HEs
  have hq := eqE_iff x y
  generalize eqE x y = eb at *
  clear fx fy sx sy mx my
  generalize bytesB x = bx at *
  generalize bytesB y = bq at *
  have HR := Lib.hid (fun w v lo h => readEdu_any v bx lo w h (by omega))
  rw [hans.1, hans.2] at HR
  clear hans
  have e1 := strOf_bytes bx
  have e2 := strOf_bytes bq
  have HS := Lib.hid (show ((strOf bx).toList == (strOf bq).toList) = eb by
    rw [e1, e2, Bool.eq_iff_iff, beq_iff_eq, hq]
    exact HI.out)
  clear e1 e2 hq HI
  simp only [Edu.val] at *
  go_enter Try.func5, Try.ntmps5
  go_upto_region 1 with (fail)
  have HK : Keep w _ _ ((w.alloc (.cells #[.int .i64 a.kind, .string a.room, .string a.user, .string a.event, .string a.thread, .bool a.priv, .bool a.on, .int .i64 a.span, .int .i64 a.state, .int .i64 a.tick, .int .i64 a.stamp] 23)).alloc (.cells #[.int .i64 b.kind, .string b.room, .string b.user, .string b.event, .string b.thread, .bool b.priv, .bool b.on, .int .i64 b.span, .int .i64 b.state, .int .i64 b.tick, .int .i64 b.stamp] 23)) := (((Keep.refl w).new #[.int .i64 a.kind, .string a.room, .string a.user, .string a.event, .string a.thread, .bool a.priv, .bool a.on, .int .i64 a.span, .int .i64 a.state, .int .i64 a.tick, .int .i64 a.stamp] 23).new #[.int .i64 b.kind, .string b.room, .string b.user, .string b.event, .string b.thread, .bool b.priv, .bool b.on, .int .i64 b.span, .int .i64 b.state, .int .i64 b.tick, .int .i64 b.stamp] 23)
  simp only [size_alloc1] at HK
  replace HK := Lib.hid (show Keep w [(w.heap.size + 1, #[.int .i64 b.kind, .string b.room, .string b.user, .string b.event, .string b.thread, .bool b.priv, .bool b.on, .int .i64 b.span, .int .i64 b.state, .int .i64 b.tick, .int .i64 b.stamp], 23), (w.heap.size, #[.int .i64 a.kind, .string a.room, .string a.user, .string a.event, .string a.thread, .bool a.priv, .bool a.on, .int .i64 a.span, .int .i64 a.state, .int .i64 a.tick, .int .i64 a.stamp], 23)] [] ((w.alloc (.cells #[.int .i64 a.kind, .string a.room, .string a.user, .string a.event, .string a.thread, .bool a.priv, .bool a.on, .int .i64 a.span, .int .i64 a.state, .int .i64 a.tick, .int .i64 a.stamp] 23)).alloc (.cells #[.int .i64 b.kind, .string b.room, .string b.user, .string b.event, .string b.thread, .bool b.priv, .bool b.on, .int .i64 b.span, .int .i64 b.state, .int .i64 b.tick, .int .i64 b.stamp] 23)) from HK)
  generalize hW : ((w.alloc (.cells #[.int .i64 a.kind, .string a.room, .string a.user, .string a.event, .string a.thread, .bool a.priv, .bool a.on, .int .i64 a.span, .int .i64 a.state, .int .i64 a.tick, .int .i64 a.stamp] 23)).alloc (.cells #[.int .i64 b.kind, .string b.room, .string b.user, .string b.event, .string b.thread, .bool b.priv, .bool b.on, .int .i64 b.span, .int .i64 b.state, .int .i64 b.tick, .int .i64 b.stamp] 23)) = W0 at HK ⊢
  clear hW
  obtain ⟨c1_0, c1_1, c1_2, c1_3, c1_4, c1_5, c1_6, c1_7, c1_8, c1_9, c1_10⟩ := cells11 (HK.out.st 1 rfl)
  go_wp2_with fail
  clear c1_0 c1_1 c1_2 c1_3 c1_4 c1_5 c1_6 c1_7 c1_8 c1_9 c1_10
  refine (HPa.out _).mono ?_
  rintro e w1 ⟨rfl, hb⟩
  replace HK := Lib.hid (HK.out.later hb)
  clear hb
  go_upto_region 2 with (fail)
  replace HK := Lib.hid (HK.out.new #[.int .i64 x.kind, .string x.room, .string x.user, .string x.event, .string x.thread, .bool x.priv, .bool x.on, .int .i64 x.span, .int .i64 x.state, .int .i64 x.tick, .int .i64 x.stamp] 23)
  generalize hW : (w1.alloc (.cells #[.int .i64 x.kind, .string x.room, .string x.user, .string x.event, .string x.thread, .bool x.priv, .bool x.on, .int .i64 x.span, .int .i64 x.state, .int .i64 x.tick, .int .i64 x.stamp] 23)) = w2 at HK ⊢
  generalize hg : w1.heap.size = b2 at HK ⊢
  clear hW hg
  obtain ⟨c1_0, c1_1, c1_2, c1_3, c1_4, c1_5, c1_6, c1_7, c1_8, c1_9, c1_10⟩ := cells11 (HK.out.st 1 rfl)
  go_wp2_with fail
  clear c1_0 c1_1 c1_2 c1_3 c1_4 c1_5 c1_6 c1_7 c1_8 c1_9 c1_10
  refine (HPb.out _).mono ?_
  rintro e w3 ⟨rfl, hb⟩
  replace HK := Lib.hid (HK.out.later hb)
  clear hb
  go_upto_region 3 with (fail)
  replace HK := Lib.hid (HK.out.new #[.int .i64 y.kind, .string y.room, .string y.user, .string y.event, .string y.thread, .bool y.priv, .bool y.on, .int .i64 y.span, .int .i64 y.state, .int .i64 y.tick, .int .i64 y.stamp] 23)
  generalize hW : (w3.alloc (.cells #[.int .i64 y.kind, .string y.room, .string y.user, .string y.event, .string y.thread, .bool y.priv, .bool y.on, .int .i64 y.span, .int .i64 y.state, .int .i64 y.tick, .int .i64 y.stamp] 23)) = w4 at HK ⊢
  generalize hg : w3.heap.size = b4 at HK ⊢
  clear hW hg
  obtain ⟨c1_0, c1_1, c1_2, c1_3, c1_4, c1_5, c1_6, c1_7, c1_8, c1_9, c1_10⟩ := cells11 (HK.out.st 1 rfl)
  go_wp2_with fail
  clear c1_0 c1_1 c1_2 c1_3 c1_4 c1_5 c1_6 c1_7 c1_8 c1_9 c1_10
  refine (HWx.out _).mono ?_
  rintro e w5 ⟨⟨g5, cap5, rfl, hg, ho⟩, hb⟩
  replace HK := Lib.hid (show Keep w [(b4, #[.int .i64 y.kind, .string y.room, .string y.user, .string y.event, .string y.thread, .bool y.priv, .bool y.on, .int .i64 y.span, .int .i64 y.state, .int .i64 y.tick, .int .i64 y.stamp], 23), (b2, #[.int .i64 x.kind, .string x.room, .string x.user, .string x.event, .string x.thread, .bool x.priv, .bool x.on, .int .i64 x.span, .int .i64 x.state, .int .i64 x.tick, .int .i64 x.stamp], 23), (w.heap.size + 1, #[.int .i64 b.kind, .string b.room, .string b.user, .string b.event, .string b.thread, .bool b.priv, .bool b.on, .int .i64 b.span, .int .i64 b.state, .int .i64 b.tick, .int .i64 b.stamp], 23), (w.heap.size, #[.int .i64 a.kind, .string a.room, .string a.user, .string a.event, .string a.thread, .bool a.priv, .bool a.on, .int .i64 a.span, .int .i64 a.state, .int .i64 a.tick, .int .i64 a.stamp], 23)] [(.slice (some ⟨g5, 0, none⟩) bx.length cap5, bx)] w5 from (HK.out.later hb).consR (ho.row (Nat.zero_le _)))
  clear hb ho hg
  go_upto_region 4 with (fail)
  obtain ⟨c0_0, c0_1, c0_2, c0_3, c0_4, c0_5, c0_6, c0_7, c0_8, c0_9, c0_10⟩ := cells11 (HK.out.st 0 rfl)
  go_wp2_with fail
  clear c0_0 c0_1 c0_2 c0_3 c0_4 c0_5 c0_6 c0_7 c0_8 c0_9 c0_10
  refine (HWy.out _).mono ?_
  rintro e w6 ⟨⟨g6, cap6, rfl, hg, ho⟩, hb⟩
  replace HK := Lib.hid (show Keep w [(b4, #[.int .i64 y.kind, .string y.room, .string y.user, .string y.event, .string y.thread, .bool y.priv, .bool y.on, .int .i64 y.span, .int .i64 y.state, .int .i64 y.tick, .int .i64 y.stamp], 23), (b2, #[.int .i64 x.kind, .string x.room, .string x.user, .string x.event, .string x.thread, .bool x.priv, .bool x.on, .int .i64 x.span, .int .i64 x.state, .int .i64 x.tick, .int .i64 x.stamp], 23), (w.heap.size + 1, #[.int .i64 b.kind, .string b.room, .string b.user, .string b.event, .string b.thread, .bool b.priv, .bool b.on, .int .i64 b.span, .int .i64 b.state, .int .i64 b.tick, .int .i64 b.stamp], 23), (w.heap.size, #[.int .i64 a.kind, .string a.room, .string a.user, .string a.event, .string a.thread, .bool a.priv, .bool a.on, .int .i64 a.span, .int .i64 a.state, .int .i64 a.tick, .int .i64 a.stamp], 23)] [(.slice (some ⟨g6, 0, none⟩) bq.length cap6, bq), (.slice (some ⟨g5, 0, none⟩) bx.length cap5, bx)] w6 from (HK.out.later hb).consR (ho.row (Nat.zero_le _)))
  clear hb ho hg
  go_upto_region 5 with (fail)
  go_wp2_with fail
  refine (HR.out _ _ _ (HK.out.row 1 rfl)).mono ?_
  rintro e w7 ⟨rfl, hb⟩
  replace HK := Lib.hid (HK.out.later hb)
  clear hb
  go_upto_region 6 with (fail)
  replace HK := Lib.hid (HK.out.new #[.int .i64 x.kind, .string x.room, .string x.user, .string x.event, .string x.thread, .bool x.priv, .bool x.on, .int .i64 x.span, .int .i64 x.state, .int .i64 x.tick, .int .i64 x.stamp] 23)
  generalize hW : (w7.alloc (.cells #[.int .i64 x.kind, .string x.room, .string x.user, .string x.event, .string x.thread, .bool x.priv, .bool x.on, .int .i64 x.span, .int .i64 x.state, .int .i64 x.tick, .int .i64 x.stamp] 23)) = w8 at HK ⊢
  generalize hg : w7.heap.size = b8 at HK ⊢
  clear hW hg
  refine wp_region_held_drew (S := fun w' => Keep w [(b8, #[.int .i64 x.kind, .string x.room, .string x.user, .string x.event, .string x.thread, .bool x.priv, .bool x.on, .int .i64 x.span, .int .i64 x.state, .int .i64 x.tick, .int .i64 x.stamp], 23), (b4, #[.int .i64 y.kind, .string y.room, .string y.user, .string y.event, .string y.thread, .bool y.priv, .bool y.on, .int .i64 y.span, .int .i64 y.state, .int .i64 y.tick, .int .i64 y.stamp], 23), (b2, #[.int .i64 x.kind, .string x.room, .string x.user, .string x.event, .string x.thread, .bool x.priv, .bool x.on, .int .i64 x.span, .int .i64 x.state, .int .i64 x.tick, .int .i64 x.stamp], 23), (w.heap.size + 1, #[.int .i64 b.kind, .string b.room, .string b.user, .string b.event, .string b.thread, .bool b.priv, .bool b.on, .int .i64 b.span, .int .i64 b.state, .int .i64 b.tick, .int .i64 b.stamp], 23), (w.heap.size, #[.int .i64 a.kind, .string a.room, .string a.user, .string a.event, .string a.thread, .bool a.priv, .bool a.on, .int .i64 a.span, .int .i64 a.state, .int .i64 a.tick, .int .i64 a.stamp], 23)] [(.slice (some ⟨g6, 0, none⟩) bq.length cap6, bq), (.slice (some ⟨g5, 0, none⟩) bx.length cap5, bx)] w') (by kernel_rfl) HK.out.drew (fun hHeld => ?_)
  generalize hwd : w8.drew = wd at hHeld ⊢
  clear HK hwd
  refine wpAnyH_take (i := 0) (oi := ⟨some 32, _, _, _, _, _⟩) (v := ?v0) rfl (by kernel_rfl) (by kernel_rfl) (by kernel_rfl) (fun _ _ _ h => h) (Or.inl ⟨by rfl, ?y0⟩) hHeld ?r0
  case y0 =>
    intro wx hSx
    go_simp
    try with_reducible rfl
  try simp only [Act.put, List.setIfInBounds_toArray, List.set_cons_zero, List.set_cons_succ]
  refine wpAnyH_take (i := 1) (oi := ⟨some 33, _, _, _, _, _⟩) (v := ?v1) rfl (by kernel_rfl) (by kernel_rfl) (by kernel_rfl) (fun _ _ _ h => h) (Or.inl ⟨by rfl, ?y1⟩) hHeld ?r1
  case y1 =>
    intro wx hSx
    go_simp
    try with_reducible rfl
  try simp only [Act.put, List.setIfInBounds_toArray, List.set_cons_zero, List.set_cons_succ]
  refine wpAnyH_take (i := 2) (oi := ⟨some 34, _, _, _, _, _⟩) (v := ?v2) rfl (by kernel_rfl) (by kernel_rfl) (by kernel_rfl) (fun _ _ _ h => h) (Or.inl ⟨by rfl, ?y2⟩) hHeld ?r2
  case y2 =>
    intro wx hSx
    go_simp
    try with_reducible rfl
  try simp only [Act.put, List.setIfInBounds_toArray, List.set_cons_zero, List.set_cons_succ]
  refine wpAnyH_take (i := 3) (oi := ⟨some 35, _, _, _, _, _⟩) (v := ?v3) rfl (by kernel_rfl) (by kernel_rfl) (by kernel_rfl) (fun _ _ _ h => h) (Or.inl ⟨by rfl, ?y3⟩) hHeld ?r3
  case y3 =>
    intro wx hSx
    go_simp
    try with_reducible rfl
  try simp only [Act.put, List.setIfInBounds_toArray, List.set_cons_zero, List.set_cons_succ]
  refine wpAnyH_take (i := 4) (oi := ⟨some 36, _, _, _, _, _⟩) (v := ?v4) rfl (by kernel_rfl) (by kernel_rfl) (by kernel_rfl) (fun _ _ _ h => h) (Or.inl ⟨by rfl, ?y4⟩) hHeld ?r4
  case y4 =>
    intro wx hSx
    go_simp
    try with_reducible rfl
  try simp only [Act.put, List.setIfInBounds_toArray, List.set_cons_zero, List.set_cons_succ]
  refine wpAnyH_take (i := 5) (oi := ⟨some 37, _, _, _, _, _⟩) (v := ?v5) rfl (by kernel_rfl) (by kernel_rfl) (by kernel_rfl) (fun _ _ _ h => h) (Or.inl ⟨by rfl, ?y5⟩) hHeld ?r5
  case y5 =>
    intro wx hSx
    go_simp
    try with_reducible rfl
  try simp only [Act.put, List.setIfInBounds_toArray, List.set_cons_zero, List.set_cons_succ]
  refine wpAnyH_take (i := 6) (oi := ⟨some 38, _, _, _, _, _⟩) (v := ?v6) rfl (by kernel_rfl) (by kernel_rfl) (by kernel_rfl) (fun _ _ _ h => h) (Or.inl ⟨by rfl, ?y6⟩) hHeld ?r6
  case y6 =>
    intro wx hSx
    go_simp
    try with_reducible rfl
  try simp only [Act.put, List.setIfInBounds_toArray, List.set_cons_zero, List.set_cons_succ]
  refine wpAnyH_take (i := 7) (oi := ⟨some 39, _, _, _, _, _⟩) (v := ?v7) rfl (by kernel_rfl) (by kernel_rfl) (by kernel_rfl) (fun _ _ _ h => h) (Or.inl ⟨by rfl, ?y7⟩) hHeld ?r7
  case y7 =>
    intro wx hSx
    go_simp
    try with_reducible rfl
  try simp only [Act.put, List.setIfInBounds_toArray, List.set_cons_zero, List.set_cons_succ]
  refine wpAnyH_take (i := 8) (oi := ⟨some 40, _, _, _, _, _⟩) (v := ?v8) rfl (by kernel_rfl) (by kernel_rfl) (by kernel_rfl) (fun _ _ _ h => h) (Or.inl ⟨by rfl, ?y8⟩) hHeld ?r8
  case y8 =>
    intro wx hSx
    go_simp
    try with_reducible rfl
  try simp only [Act.put, List.setIfInBounds_toArray, List.set_cons_zero, List.set_cons_succ]
  refine wpAnyH_take (i := 9) (oi := ⟨some 41, _, _, _, _, _⟩) (v := ?v9) rfl (by kernel_rfl) (by kernel_rfl) (by kernel_rfl) (fun _ _ _ h => h) (Or.inl ⟨by rfl, ?y9⟩) hHeld ?r9
  case y9 =>
    intro wx hSx
    go_simp
    try with_reducible rfl
  try simp only [Act.put, List.setIfInBounds_toArray, List.set_cons_zero, List.set_cons_succ]
  refine wpAnyH_take (i := 10) (oi := ⟨some 42, _, _, _, _, _⟩) (v := ?v10) rfl (by kernel_rfl) (by kernel_rfl) (by kernel_rfl) (fun _ _ _ h => h) (Or.inl ⟨by rfl, ?y10⟩) hHeld ?r10
  case y10 =>
    intro wx hSx
    go_simp
    try with_reducible rfl
  try simp only [Act.put, List.setIfInBounds_toArray, List.set_cons_zero, List.set_cons_succ]
  refine wpAnyH_take (i := 11) (oi := ⟨some 43, _, _, _, _, _⟩) (v := ?v11) rfl (by kernel_rfl) (by kernel_rfl) (by kernel_rfl) (fun _ _ _ h => h) (Or.inl ⟨by rfl, ?y11⟩) hHeld ?r11
  case y11 =>
    intro wx hSx
    obtain ⟨c0_0, c0_1, c0_2, c0_3, c0_4, c0_5, c0_6, c0_7, c0_8, c0_9, c0_10⟩ := cells11 (hSx.st 0 rfl)
    go_simp
    try with_reducible rfl
  try simp only [Act.put, List.setIfInBounds_toArray, List.set_cons_zero, List.set_cons_succ]
  refine wpAnyH_take (i := 12) (oi := ⟨some 44, _, _, _, _, _⟩) (v := ?v12) rfl (by kernel_rfl) (by kernel_rfl) (by kernel_rfl) (fun _ _ _ h => h) (Or.inl ⟨by rfl, ?y12⟩) hHeld ?r12
  case y12 =>
    intro wx hSx
    obtain ⟨c2_0, c2_1, c2_2, c2_3, c2_4, c2_5, c2_6, c2_7, c2_8, c2_9, c2_10⟩ := cells11 (hSx.st 2 rfl)
    go_simp
    try with_reducible rfl
  try simp only [Act.put, List.setIfInBounds_toArray, List.set_cons_zero, List.set_cons_succ]
  refine wpAnyH_take (i := 13) (oi := ⟨some 45, _, _, _, _, _⟩) (v := ?v13) rfl (by kernel_rfl) (by kernel_rfl) (by kernel_rfl) (fun _ _ _ h => h) (Or.inl ⟨by rfl, ?y13⟩) hHeld ?r13
  case y13 =>
    intro wx hSx
    have heq := HEs.out
    go_simp
    first | done | rfl
  try simp only [Act.put, List.setIfInBounds_toArray, List.set_cons_zero, List.set_cons_succ]
  refine wpAnyH_take (i := 14) (oi := ⟨some 46, _, _, _, _, _⟩) (v := ?v14) rfl (by kernel_rfl) (by kernel_rfl) (by kernel_rfl) (fun _ _ _ h => h) (Or.inl ⟨by rfl, ?y14⟩) hHeld ?r14
  case y14 =>
    intro wx hSx
    go_simp
    try with_reducible rfl
  try simp only [Act.put, List.setIfInBounds_toArray, List.set_cons_zero, List.set_cons_succ]
  refine wpAnyH_take (i := 15) (oi := ⟨some 47, _, _, _, _, _⟩) (v := ?v15) rfl (by kernel_rfl) (by kernel_rfl) (by kernel_rfl) (fun _ _ _ h => h) (Or.inl ⟨by rfl, ?y15⟩) hHeld ?r15
  case y15 =>
    intro wx hSx
    go_simp
    try with_reducible rfl
  try simp only [Act.put, List.setIfInBounds_toArray, List.set_cons_zero, List.set_cons_succ]
  refine wpAnyH_take (i := 16) (oi := ⟨some 48, _, _, _, _, _⟩) (v := ?v16) rfl (by kernel_rfl) (by kernel_rfl) (by kernel_rfl) (fun _ _ _ h => h) (Or.inl ⟨by rfl, ?y16⟩) hHeld ?r16
  case y16 =>
    intro wx hSx
    go_simp
    try with_reducible rfl
  try simp only [Act.put, List.setIfInBounds_toArray, List.set_cons_zero, List.set_cons_succ]
  refine wpAnyH_take (i := 17) (oi := ⟨some 49, _, _, _, _, _⟩) (v := ?v17) rfl (by kernel_rfl) (by kernel_rfl) (by kernel_rfl) (fun _ _ _ h => h) (Or.inl ⟨by rfl, ?y17⟩) hHeld ?r17
  case y17 =>
    intro wx hSx
    have cc := conv_row (hSx.row 1 rfl)
    go_simp
    first | done | rfl | (rw [cc]; rfl)
  try simp only [Act.put, List.setIfInBounds_toArray, List.set_cons_zero, List.set_cons_succ]
  refine wpAnyH_take (i := 18) (oi := ⟨some 50, _, _, _, _, _⟩) (v := ?v18) rfl (by kernel_rfl) (by kernel_rfl) (by kernel_rfl) (fun _ _ _ h => h) (Or.inl ⟨by rfl, ?y18⟩) hHeld ?r18
  case y18 =>
    intro wx hSx
    go_simp
    try with_reducible rfl
  try simp only [Act.put, List.setIfInBounds_toArray, List.set_cons_zero, List.set_cons_succ]
  refine wpAnyH_take (i := 19) (oi := ⟨some 51, _, _, _, _, _⟩) (v := ?v19) rfl (by kernel_rfl) (by kernel_rfl) (by kernel_rfl) (fun _ _ _ h => h) (Or.inl ⟨by rfl, ?y19⟩) hHeld ?r19
  case y19 =>
    intro wx hSx
    have cc := conv_row (hSx.row 0 rfl)
    go_simp
    first | done | rfl | (rw [cc]; rfl)
  try simp only [Act.put, List.setIfInBounds_toArray, List.set_cons_zero, List.set_cons_succ]
  refine wpAnyH_take (i := 20) (oi := ⟨some 52, _, _, _, _, _⟩) (v := ?v20) rfl (by kernel_rfl) (by kernel_rfl) (by kernel_rfl) (fun _ _ _ h => h) (Or.inl ⟨by rfl, ?y20⟩) hHeld ?r20
  case y20 =>
    intro wx hSx
    have hh := HS.out
    go_simp
    first | done | rfl
  try simp only [Act.put, List.setIfInBounds_toArray, List.set_cons_zero, List.set_cons_succ]
  refine wpAnyH_take (i := 21) (oi := ⟨some 53, _, _, _, _, _⟩) (v := ?v21) rfl (by kernel_rfl) (by kernel_rfl) (by kernel_rfl) (fun _ _ _ h => h) (Or.inl ⟨by rfl, ?y21⟩) hHeld ?r21
  case y21 =>
    intro wx hSx
    obtain ⟨c2_0, c2_1, c2_2, c2_3, c2_4, c2_5, c2_6, c2_7, c2_8, c2_9, c2_10⟩ := cells11 (hSx.st 2 rfl)
    go_simp
    try with_reducible rfl
  try simp only [Act.put, List.setIfInBounds_toArray, List.set_cons_zero, List.set_cons_succ]
  refine wpAnyH_take (i := 22) (oi := ⟨some 54, _, _, _, _, _⟩) (v := ?v22) rfl (by kernel_rfl) (by kernel_rfl) (by kernel_rfl) (fun _ _ _ h => h) (Or.inl ⟨by rfl, ?y22⟩) hHeld ?r22
  case y22 =>
    intro wx hSx
    obtain ⟨c1_0, c1_1, c1_2, c1_3, c1_4, c1_5, c1_6, c1_7, c1_8, c1_9, c1_10⟩ := cells11 (hSx.st 1 rfl)
    go_simp
    try with_reducible rfl
  try simp only [Act.put, List.setIfInBounds_toArray, List.set_cons_zero, List.set_cons_succ]
  refine wpAnyH_take (i := 23) (oi := ⟨some 55, _, _, _, _, _⟩) (v := ?v23) rfl (by kernel_rfl) (by kernel_rfl) (by kernel_rfl) (fun _ _ _ h => h) (Or.inl ⟨by rfl, ?y23⟩) hHeld ?r23
  case y23 =>
    intro wx hSx
    have heq := HEd.out
    go_simp
    first | done | rfl
  try simp only [Act.put, List.setIfInBounds_toArray, List.set_cons_zero, List.set_cons_succ]
  refine wpAnyH_take (i := 24) (oi := ⟨some 56, _, _, _, _, _⟩) (v := ?v24) rfl (by kernel_rfl) (by kernel_rfl) (by kernel_rfl) (fun _ _ _ h => h) (Or.inl ⟨by rfl, ?y24⟩) hHeld ?r24
  case y24 =>
    intro wx hSx
    go_simp
    try with_reducible rfl
  try simp only [Act.put, List.setIfInBounds_toArray, List.set_cons_zero, List.set_cons_succ]
  refine wpAnyH_take (i := 25) (oi := ⟨some 57, _, _, _, _, _⟩) (v := ?v25) rfl (by kernel_rfl) (by kernel_rfl) (by kernel_rfl) (fun _ _ _ h => h) (Or.inl ⟨by rfl, ?y25⟩) hHeld ?r25
  case y25 =>
    intro wx hSx
    go_simp
    try with_reducible rfl
  try simp only [Act.put, List.setIfInBounds_toArray, List.set_cons_zero, List.set_cons_succ]
  refine wpAnyH_take (i := 26) (oi := ⟨some 58, _, _, _, _, _⟩) (v := ?v26) rfl (by kernel_rfl) (by kernel_rfl) (by kernel_rfl) (fun _ _ _ h => h) (Or.inl ⟨by rfl, ?y26⟩) hHeld ?r26
  case y26 =>
    intro wx hSx
    go_simp
    try with_reducible rfl
  try simp only [Act.put, List.setIfInBounds_toArray, List.set_cons_zero, List.set_cons_succ]
  refine wpAnyH_ready (rs := [27]) (by kernel_rfl) (by simp) ?_
  refine AllReadyH.cons (o := ⟨some 59, _, _, _, _, _⟩) rfl (fun K hK => ?_) AllReadyH.nil
  go_simp
  refine (lives_any _).mono ?_
  rintro e wn27 ⟨rfl, hbn⟩
  replace hHeld := hHeld.later hbn
  refine hK.out _ _ hHeld (fun _ => ?_)
  clear hK K hbn
  try simp only [Act.put, List.setIfInBounds_toArray, List.set_cons_zero, List.set_cons_succ]
  refine wpAnyH_take (i := 28) (oi := ⟨some 60, _, _, _, _, _⟩) (v := ?v28) rfl (by kernel_rfl) (by kernel_rfl) (by kernel_rfl) (fun _ _ _ h => h) (Or.inl ⟨by rfl, ?y28⟩) hHeld ?r28
  case y28 =>
    intro wx hSx
    go_simp
    try with_reducible rfl
  try simp only [Act.put, List.setIfInBounds_toArray, List.set_cons_zero, List.set_cons_succ]
  refine wpAnyH_take (i := 29) (oi := ⟨some 4, _, _, _, _, _⟩) (v := ?v29) rfl (by kernel_rfl) (by kernel_rfl) (by kernel_rfl) (fun _ _ _ h => h) (Or.inl ⟨by rfl, ?y29⟩) hHeld ?r29
  case y29 =>
    intro wx hSx
    go_simp
    try with_reducible rfl
  try simp only [Act.put, List.setIfInBounds_toArray, List.set_cons_zero, List.set_cons_succ]
  refine wpAnyH_done (by kernel_rfl) ?_ _
  have HB := Lib.hid hHeld.1
  clear hHeld
  go_wp2_with fail
  go_ret
  exact ⟨rfl, HB.out⟩
end Go.Proofs.Ytahgkhcmchbpbaa
