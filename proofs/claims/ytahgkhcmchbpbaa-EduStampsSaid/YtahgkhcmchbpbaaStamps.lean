/-
  The greater stamp is the later one, whatever the rest is: the statement EduStamps, walked.
-/
import Derived.Test.YtahgkhcmchbpbaaLawKit
namespace Go.Proofs.Ytahgkhcmchbpbaa
open Go.RowKit
set_option linter.unusedVariables false
set_option linter.unusedSimpArgs false
set_option maxRecDepth 4000

theorem may_stamp {e : Edu} (h : mayB e = true) {s t : Int} (s0 : 0 ≤ s) (s1 : s ≤ 1099511627776) (t0 : 0 ≤ t) (t1 : t ≤ 1099511627776) : mayB { e with stamp := s, tick := t } = true := by
  unfold mayB localB stampsB at *
  simp only [Bool.and_eq_true, decide_eq_true_iff] at *
  exact ⟨⟨⟨h.1.1.1, by omega⟩, h.1.2⟩, h.2⟩
theorem bytes_pos (e : Edu) : 0 < (bytesB e).length := by
  unfold bytesB
  rw [List.length_append]
  have := digs_pos (natI e.kind)
  omega
theorem same_stamp (e : Edu) (s t s' t' : Int) : sameE { e with stamp := s, tick := t } { e with stamp := s', tick := t' } = true := by
  rw [← key_same]
  unfold keyE
  simp

set_option maxHeartbeats 6400000 in
theorem eduStamps_walk (e : Edu) (a b t : Int) (w : World) (he : e.fits) (e3 : e.event.size ≤ maxLen) (e4 : e.thread.size ≤ maxLen) (a0 : -9223372036854775808 ≤ a) (a1 : a ≤ 9223372036854775807) (b0 : -9223372036854775808 ≤ b) (b1 : b ≤ 9223372036854775807) (t0 : -9223372036854775808 ≤ t) (t1 : t ≤ 9223372036854775807) :
    Calls Try.prog 8 #[e.val, .int .i64 a, .int .i64 b, .int .i64 t] w fun x w' => x = .returned (.bool true) ∧ Below w.heap.size w w' := by
  have HP := Lib.hid (fun w => public_any e w he e3 e4)
  have mp := public_may e
  clear he e3 e4
  generalize publicE e = p at *
  have Ha := Lib.hid (fun w => around_any a 1099511627777 w a0 a1 (by decide) (by decide))
  have Hb := Lib.hid (fun w => around_any b 1099511627777 w b0 b1 (by decide) (by decide))
  have Ht := Lib.hid (fun w => around_any t 1099511627777 w t0 t1 (by decide) (by decide))
  have ba := aroundI_bd a 1099511627777 (by decide)
  have bb := aroundI_bd b 1099511627777 (by decide)
  have bt := aroundI_bd t 1099511627777 (by decide)
  generalize aroundI a 1099511627777 = sa at *
  generalize aroundI b 1099511627777 = sb at *
  generalize aroundI t 1099511627777 = st at *
  clear a0 a1 b0 b1 t0 t1
  obtain ⟨⟨pt0, pt1⟩, _⟩ := (may_small (may_local mp)).2.2.2.2.2.2.2
  have mx := may_stamp mp (s := sa) (t := p.tick) (by omega) (by omega) pt0 pt1
  have my := may_stamp mp (s := sb) (t := st) (by omega) (by omega) (by omega) (by omega)
  have hs1 := same_stamp p sa p.tick sb st
  have hs2 := same_stamp p sb st sa p.tick
  have fx := local_fits (may_local mx)
  have fy := local_fits (may_local my)
  have sx := local_short (may_local mx)
  have sy := local_short (may_local my)
  have HWx := Lib.hid (fun w => write_yes _ w fx sx mx)
  have HWy := Lib.hid (fun w => write_yes _ w fy sy my)
  have HLx := Lib.hid (fun w => later_any _ _ w fx fy sx sy)
  have HLy := Lib.hid (fun w => later_any _ _ w fy fx sy sx)
  have lx := bytes_pos { p with stamp := sa, tick := p.tick }
  have ly := bytes_pos { p with stamp := sb, tick := st }
  rw [hs1] at HLx
  rw [hs2] at HLy
  have HC1 := Lib.hid (fun h : sb < sa => show cmpE { p with stamp := sa, tick := p.tick } { p with stamp := sb, tick := st } = 1 by
    unfold cmpE
    rw [if_neg (show ¬ sa < sb by omega), if_pos h])
  have HC2 := Lib.hid (fun h : sa < sb => show cmpE { p with stamp := sb, tick := st } { p with stamp := sa, tick := p.tick } = 1 by
    unfold cmpE
    rw [if_neg (show ¬ sb < sa by omega), if_pos h])
  generalize cmpE _ _ = c1 at HLx HC1
  generalize cmpE _ _ = c2 at HLy HC2
  generalize bytesB _ = bx at lx HWx
  generalize bytesB _ = bq at ly HWy
  clear hs1 hs2 fx fy sx sy mx my mp pt0 pt1 ba bb bt
  simp only [Edu.val] at *
  go_enter Try.func8, Try.ntmps8
  go_upto_region 1 with (fail)
  have HK : Keep w _ _ (w.alloc (.cells #[.int .i64 e.kind, .string e.room, .string e.user, .string e.event, .string e.thread, .bool e.priv, .bool e.on, .int .i64 e.span, .int .i64 e.state, .int .i64 e.tick, .int .i64 e.stamp] 23)) := ((Keep.refl w).new #[.int .i64 e.kind, .string e.room, .string e.user, .string e.event, .string e.thread, .bool e.priv, .bool e.on, .int .i64 e.span, .int .i64 e.state, .int .i64 e.tick, .int .i64 e.stamp] 23)
  try simp only [size_alloc1] at HK
  replace HK := Lib.hid (show Keep w [(w.heap.size, #[.int .i64 e.kind, .string e.room, .string e.user, .string e.event, .string e.thread, .bool e.priv, .bool e.on, .int .i64 e.span, .int .i64 e.state, .int .i64 e.tick, .int .i64 e.stamp], 23)] [] (w.alloc (.cells #[.int .i64 e.kind, .string e.room, .string e.user, .string e.event, .string e.thread, .bool e.priv, .bool e.on, .int .i64 e.span, .int .i64 e.state, .int .i64 e.tick, .int .i64 e.stamp] 23)) from HK)
  generalize hW : (w.alloc (.cells #[.int .i64 e.kind, .string e.room, .string e.user, .string e.event, .string e.thread, .bool e.priv, .bool e.on, .int .i64 e.span, .int .i64 e.state, .int .i64 e.tick, .int .i64 e.stamp] 23)) = W0 at HK ⊢
  clear hW
  obtain ⟨c0_0, c0_1, c0_2, c0_3, c0_4, c0_5, c0_6, c0_7, c0_8, c0_9, c0_10⟩ := cells11 (HK.out.st 0 rfl)
  go_wp2_with fail
  clear c0_0 c0_1 c0_2 c0_3 c0_4 c0_5 c0_6 c0_7 c0_8 c0_9 c0_10
  refine (HP.out _).mono ?_
  rintro e w1 ⟨rfl, hb⟩
  replace HK := Lib.hid (HK.out.later hb)
  clear hb
  go_wp2_with fail
  refine (Ha.out _).mono ?_
  rintro e wz ⟨rfl, rfl⟩
  go_wp2_with fail
  refine (Hb.out _).mono ?_
  rintro e wz ⟨rfl, rfl⟩
  go_wp2_with fail
  refine (Ht.out _).mono ?_
  rintro e wz ⟨rfl, rfl⟩
  go_upto_region 6 with (fail)
  replace HK := (HK.out.new #[.int .i64 p.kind, .string p.room, .string p.user, .string p.event, .string p.thread, .bool p.priv, .bool p.on, .int .i64 p.span, .int .i64 p.state, .int .i64 p.tick, .int .i64 sa] 23).new #[.int .i64 p.kind, .string p.room, .string p.user, .string p.event, .string p.thread, .bool p.priv, .bool p.on, .int .i64 p.span, .int .i64 p.state, .int .i64 st, .int .i64 sb] 23
  simp only [size_alloc1] at HK
  replace HK := Lib.hid HK
  generalize hW : ((w1.alloc (.cells #[.int .i64 p.kind, .string p.room, .string p.user, .string p.event, .string p.thread, .bool p.priv, .bool p.on, .int .i64 p.span, .int .i64 p.state, .int .i64 p.tick, .int .i64 sa] 23)).alloc (.cells #[.int .i64 p.kind, .string p.room, .string p.user, .string p.event, .string p.thread, .bool p.priv, .bool p.on, .int .i64 p.span, .int .i64 p.state, .int .i64 st, .int .i64 sb] 23)) = wy at HK ⊢
  generalize hg : w1.heap.size = gx at HK ⊢
  generalize hg2 : gx + 1 = gy at HK ⊢
  clear hW hg hg2
  obtain ⟨c1_0, c1_1, c1_2, c1_3, c1_4, c1_5, c1_6, c1_7, c1_8, c1_9, c1_10⟩ := cells11 (HK.out.st 1 rfl)
  go_wp2_with fail
  clear c1_0 c1_1 c1_2 c1_3 c1_4 c1_5 c1_6 c1_7 c1_8 c1_9 c1_10
  refine (HWx.out _).mono ?_
  rintro e w2 ⟨⟨g2, cap2, rfl, hg, ho⟩, hb⟩
  replace HK := Lib.hid (show Keep w [(gy, #[.int .i64 p.kind, .string p.room, .string p.user, .string p.event, .string p.thread, .bool p.priv, .bool p.on, .int .i64 p.span, .int .i64 p.state, .int .i64 st, .int .i64 sb], 23), (gx, #[.int .i64 p.kind, .string p.room, .string p.user, .string p.event, .string p.thread, .bool p.priv, .bool p.on, .int .i64 p.span, .int .i64 p.state, .int .i64 p.tick, .int .i64 sa], 23), (w.heap.size, #[.int .i64 e.kind, .string e.room, .string e.user, .string e.event, .string e.thread, .bool e.priv, .bool e.on, .int .i64 e.span, .int .i64 e.state, .int .i64 e.tick, .int .i64 e.stamp], 23)] [(.slice (some ⟨g2, 0, none⟩) bx.length cap2, bx)] w2 from (HK.out.later hb).consR (ho.row (Nat.zero_le _)))
  clear hb ho hg
  go_upto_region 7 with (fail)
  obtain ⟨c0_0, c0_1, c0_2, c0_3, c0_4, c0_5, c0_6, c0_7, c0_8, c0_9, c0_10⟩ := cells11 (HK.out.st 0 rfl)
  go_wp2_with fail
  clear c0_0 c0_1 c0_2 c0_3 c0_4 c0_5 c0_6 c0_7 c0_8 c0_9 c0_10
  refine (HWy.out _).mono ?_
  rintro e w3 ⟨⟨g3, cap3, rfl, hg, ho⟩, hb⟩
  replace HK := Lib.hid (show Keep w [(gy, #[.int .i64 p.kind, .string p.room, .string p.user, .string p.event, .string p.thread, .bool p.priv, .bool p.on, .int .i64 p.span, .int .i64 p.state, .int .i64 st, .int .i64 sb], 23), (gx, #[.int .i64 p.kind, .string p.room, .string p.user, .string p.event, .string p.thread, .bool p.priv, .bool p.on, .int .i64 p.span, .int .i64 p.state, .int .i64 p.tick, .int .i64 sa], 23), (w.heap.size, #[.int .i64 e.kind, .string e.room, .string e.user, .string e.event, .string e.thread, .bool e.priv, .bool e.on, .int .i64 e.span, .int .i64 e.state, .int .i64 e.tick, .int .i64 e.stamp], 23)] [(.slice (some ⟨g3, 0, none⟩) bq.length cap3, bq), (.slice (some ⟨g2, 0, none⟩) bx.length cap2, bx)] w3 from (HK.out.later hb).consR (ho.row (Nat.zero_le _)))
  clear hb ho hg
  go_upto_region 8 with (fail)
  have q1 : decide (0 < bx.length) = true := decide_eq_true lx
  have q2 : decide (0 < bq.length) = true := decide_eq_true ly
  have q3 : decide ((0 : Int) < (bx.length : Int)) = true := decide_eq_true (by omega)
  have q4 : decide ((0 : Int) < (bq.length : Int)) = true := decide_eq_true (by omega)
  rcases Int.lt_trichotomy sa sb with h | h | h
  · have r1 : decide (sa ≤ sb) = true := decide_eq_true (by omega)
    have r2 : decide (sb ≤ sa) = false := decide_eq_false (by omega)
    have hc := HC2.out h
    obtain ⟨c0_0, c0_1, c0_2, c0_3, c0_4, c0_5, c0_6, c0_7, c0_8, c0_9, c0_10⟩ := cells11 (HK.out.st 0 rfl)
    obtain ⟨c1_0, c1_1, c1_2, c1_3, c1_4, c1_5, c1_6, c1_7, c1_8, c1_9, c1_10⟩ := cells11 (HK.out.st 1 rfl)
    go_wp2_with fail
    clear c0_0 c0_1 c0_2 c0_3 c0_4 c0_5 c0_6 c0_7 c0_8 c0_9 c0_10 c1_0 c1_1 c1_2 c1_3 c1_4 c1_5 c1_6 c1_7 c1_8 c1_9 c1_10
    refine (HLy.out _).mono ?_
    rintro e w4 ⟨rfl, hb⟩
    replace HK := Lib.hid (HK.out.later hb)
    clear hb
    rw [hc]
    obtain ⟨c0_0, c0_1, c0_2, c0_3, c0_4, c0_5, c0_6, c0_7, c0_8, c0_9, c0_10⟩ := cells11 (HK.out.st 0 rfl)
    obtain ⟨c1_0, c1_1, c1_2, c1_3, c1_4, c1_5, c1_6, c1_7, c1_8, c1_9, c1_10⟩ := cells11 (HK.out.st 1 rfl)
    go_wp2_with fail
    clear c0_0 c0_1 c0_2 c0_3 c0_4 c0_5 c0_6 c0_7 c0_8 c0_9 c0_10 c1_0 c1_1 c1_2 c1_3 c1_4 c1_5 c1_6 c1_7 c1_8 c1_9 c1_10
    refine (lives_any _).mono ?_
    rintro e w5 ⟨rfl, hb⟩
    replace HK := Lib.hid (HK.out.later hb)
    clear hb
    go_wp2_with fail
    go_ret
    exact ⟨rfl, HK.out.1⟩
  · subst h
    have r1 : decide (sa ≤ sa) = true := decide_eq_true (by omega)
    obtain ⟨c0_0, c0_1, c0_2, c0_3, c0_4, c0_5, c0_6, c0_7, c0_8, c0_9, c0_10⟩ := cells11 (HK.out.st 0 rfl)
    obtain ⟨c1_0, c1_1, c1_2, c1_3, c1_4, c1_5, c1_6, c1_7, c1_8, c1_9, c1_10⟩ := cells11 (HK.out.st 1 rfl)
    go_wp2_with fail
    clear c0_0 c0_1 c0_2 c0_3 c0_4 c0_5 c0_6 c0_7 c0_8 c0_9 c0_10 c1_0 c1_1 c1_2 c1_3 c1_4 c1_5 c1_6 c1_7 c1_8 c1_9 c1_10
    refine (lives_any _).mono ?_
    rintro e w4 ⟨rfl, hb⟩
    replace HK := Lib.hid (HK.out.later hb)
    clear hb
    go_wp2_with fail
    go_ret
    exact ⟨rfl, HK.out.1⟩
  · have r1 : decide (sa ≤ sb) = false := decide_eq_false (by omega)
    have r2 : decide (sb ≤ sa) = true := decide_eq_true (by omega)
    have hc := HC1.out h
    obtain ⟨c0_0, c0_1, c0_2, c0_3, c0_4, c0_5, c0_6, c0_7, c0_8, c0_9, c0_10⟩ := cells11 (HK.out.st 0 rfl)
    obtain ⟨c1_0, c1_1, c1_2, c1_3, c1_4, c1_5, c1_6, c1_7, c1_8, c1_9, c1_10⟩ := cells11 (HK.out.st 1 rfl)
    go_wp2_with fail
    clear c0_0 c0_1 c0_2 c0_3 c0_4 c0_5 c0_6 c0_7 c0_8 c0_9 c0_10 c1_0 c1_1 c1_2 c1_3 c1_4 c1_5 c1_6 c1_7 c1_8 c1_9 c1_10
    refine (HLx.out _).mono ?_
    rintro e w4 ⟨rfl, hb⟩
    replace HK := Lib.hid (HK.out.later hb)
    clear hb
    rw [hc]
    obtain ⟨c0_0, c0_1, c0_2, c0_3, c0_4, c0_5, c0_6, c0_7, c0_8, c0_9, c0_10⟩ := cells11 (HK.out.st 0 rfl)
    obtain ⟨c1_0, c1_1, c1_2, c1_3, c1_4, c1_5, c1_6, c1_7, c1_8, c1_9, c1_10⟩ := cells11 (HK.out.st 1 rfl)
    go_wp2_with fail
    clear c0_0 c0_1 c0_2 c0_3 c0_4 c0_5 c0_6 c0_7 c0_8 c0_9 c0_10 c1_0 c1_1 c1_2 c1_3 c1_4 c1_5 c1_6 c1_7 c1_8 c1_9 c1_10
    refine (lives_any _).mono ?_
    rintro e w5 ⟨rfl, hb⟩
    replace HK := Lib.hid (HK.out.later hb)
    clear hb
    go_wp2_with fail
    go_ret
    exact ⟨rfl, HK.out.1⟩
end Go.Proofs.Ytahgkhcmchbpbaa
