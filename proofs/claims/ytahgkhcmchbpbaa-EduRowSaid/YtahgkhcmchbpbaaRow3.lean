/-
  Which one of two EDUs is later is the document's, and an order; of two of one key that are not the same one is later: the statement EduRow, walked.
-/
import Derived.Test.YtahgkhcmchbpbaaLawKit
namespace Go.Proofs.Ytahgkhcmchbpbaa
open Go.RowKit
set_option linter.unusedVariables false
set_option linter.unusedSimpArgs false
set_option maxRecDepth 4000

theorem same_swap (a b : Edu) : sameE b a = sameE a b := by
  rw [← key_same, ← key_same]
  unfold keyE
  rw [Bool.eq_iff_iff]
  simp only [Bool.and_eq_true, beq_iff_eq]
  constructor <;> (rintro ⟨h1, h2, h3, h4, h5⟩; exact ⟨h1.symm, h2.symm, h3.symm, h4.symm, h5.symm⟩)

set_option maxHeartbeats 12800000 in
theorem eduRow_walk (a b c : Edu) (w : World) (af : a.fits) (a3 : a.event.size ≤ maxLen) (a4 : a.thread.size ≤ maxLen) (bf : b.fits) (b3 : b.event.size ≤ maxLen) (b4 : b.thread.size ≤ maxLen) (cf : c.fits) (c3 : c.event.size ≤ maxLen) (c4 : c.thread.size ≤ maxLen) :
    Calls Try.prog 7 #[a.val, b.val, c.val] w fun x w' => x = .returned (.bool true) ∧ Below w.heap.size w w' := by
  have HPa := Lib.hid (fun w => public_any a w af a3 a4)
  have HPb := Lib.hid (fun w => public_any b w bf b3 b4)
  have HPc := Lib.hid (fun w => public_any c w cf c3 c4)
  have mx := public_may a
  have my := public_may b
  have mz := public_may c
  clear af a3 a4 bf b3 b4 cf c3 c4
  generalize publicE a = x at *
  generalize publicE b = y at *
  generalize publicE c = z at *
  have fx := local_fits (may_local mx)
  have fy := local_fits (may_local my)
  have fz := local_fits (may_local mz)
  have sx := local_short (may_local mx)
  have sy := local_short (may_local my)
  have sz := local_short (may_local mz)
  have Hxy := Lib.hid (fun w => compareE_any x y w fx fy sx sy)
  have Hyx := Lib.hid (fun w => compareE_any y x w fy fx sy sx)
  have Hyz := Lib.hid (fun w => compareE_any y z w fy fz sy sz)
  have Hxz := Lib.hid (fun w => compareE_any x z w fx fz sx sz)
  have Hr := Lib.hid (fun w => refCompare_any x y w fx fy sx sy)
  have HS := Lib.hid (fun w => refSame_any x y w)
  have HL := Lib.hid (fun w => later_any x y w fx fy sx sy)
  have HM := Lib.hid (fun w => later_any y x w fy fx sy sx)
  have hsw := same_swap x y
  have hcw := cmpE_swap x y
  have hz := cmpE_zero mx my
  have hrg := cmpE_range x y
  have htr : cmpE x y ≤ 0 → cmpE y z ≤ 0 → cmpE x z ≤ 0 := fun h1 h2 => cmpE_trans h1 h2
  have HE := Lib.hid (eql_edu x y)
  have heb := eqE_iff x y
  rw [← hz] at heb
  rw [hsw] at HM
  rw [hcw] at HM Hyx
  clear hsw hcw hz mx my mz fx fy fz sx sy sz
  generalize eqE x y = eb at *
  generalize sameE x y = se at *
  generalize cmpE x y = n at *
  generalize cmpE y z = m at *
  generalize cmpE x z = q at *
  simp only [Edu.val] at *
  go_enter Try.func7, Try.ntmps7
  go_upto_region 1 with (fail)
  have HK : Keep w _ _ (((w.alloc (.cells #[.int .i64 a.kind, .string a.room, .string a.user, .string a.event, .string a.thread, .bool a.priv, .bool a.on, .int .i64 a.span, .int .i64 a.state, .int .i64 a.tick, .int .i64 a.stamp] 23)).alloc (.cells #[.int .i64 b.kind, .string b.room, .string b.user, .string b.event, .string b.thread, .bool b.priv, .bool b.on, .int .i64 b.span, .int .i64 b.state, .int .i64 b.tick, .int .i64 b.stamp] 23)).alloc (.cells #[.int .i64 c.kind, .string c.room, .string c.user, .string c.event, .string c.thread, .bool c.priv, .bool c.on, .int .i64 c.span, .int .i64 c.state, .int .i64 c.tick, .int .i64 c.stamp] 23)) := ((((Keep.refl w).new #[.int .i64 a.kind, .string a.room, .string a.user, .string a.event, .string a.thread, .bool a.priv, .bool a.on, .int .i64 a.span, .int .i64 a.state, .int .i64 a.tick, .int .i64 a.stamp] 23).new #[.int .i64 b.kind, .string b.room, .string b.user, .string b.event, .string b.thread, .bool b.priv, .bool b.on, .int .i64 b.span, .int .i64 b.state, .int .i64 b.tick, .int .i64 b.stamp] 23).new #[.int .i64 c.kind, .string c.room, .string c.user, .string c.event, .string c.thread, .bool c.priv, .bool c.on, .int .i64 c.span, .int .i64 c.state, .int .i64 c.tick, .int .i64 c.stamp] 23)
  try simp only [size_alloc1] at HK
  replace HK := Lib.hid (show Keep w [(w.heap.size + 1 + 1, #[.int .i64 c.kind, .string c.room, .string c.user, .string c.event, .string c.thread, .bool c.priv, .bool c.on, .int .i64 c.span, .int .i64 c.state, .int .i64 c.tick, .int .i64 c.stamp], 23), (w.heap.size + 1, #[.int .i64 b.kind, .string b.room, .string b.user, .string b.event, .string b.thread, .bool b.priv, .bool b.on, .int .i64 b.span, .int .i64 b.state, .int .i64 b.tick, .int .i64 b.stamp], 23), (w.heap.size, #[.int .i64 a.kind, .string a.room, .string a.user, .string a.event, .string a.thread, .bool a.priv, .bool a.on, .int .i64 a.span, .int .i64 a.state, .int .i64 a.tick, .int .i64 a.stamp], 23)] [] (((w.alloc (.cells #[.int .i64 a.kind, .string a.room, .string a.user, .string a.event, .string a.thread, .bool a.priv, .bool a.on, .int .i64 a.span, .int .i64 a.state, .int .i64 a.tick, .int .i64 a.stamp] 23)).alloc (.cells #[.int .i64 b.kind, .string b.room, .string b.user, .string b.event, .string b.thread, .bool b.priv, .bool b.on, .int .i64 b.span, .int .i64 b.state, .int .i64 b.tick, .int .i64 b.stamp] 23)).alloc (.cells #[.int .i64 c.kind, .string c.room, .string c.user, .string c.event, .string c.thread, .bool c.priv, .bool c.on, .int .i64 c.span, .int .i64 c.state, .int .i64 c.tick, .int .i64 c.stamp] 23)) from HK)
  generalize hW : (((w.alloc (.cells #[.int .i64 a.kind, .string a.room, .string a.user, .string a.event, .string a.thread, .bool a.priv, .bool a.on, .int .i64 a.span, .int .i64 a.state, .int .i64 a.tick, .int .i64 a.stamp] 23)).alloc (.cells #[.int .i64 b.kind, .string b.room, .string b.user, .string b.event, .string b.thread, .bool b.priv, .bool b.on, .int .i64 b.span, .int .i64 b.state, .int .i64 b.tick, .int .i64 b.stamp] 23)).alloc (.cells #[.int .i64 c.kind, .string c.room, .string c.user, .string c.event, .string c.thread, .bool c.priv, .bool c.on, .int .i64 c.span, .int .i64 c.state, .int .i64 c.tick, .int .i64 c.stamp] 23)) = W0 at HK ⊢
  clear hW
  obtain ⟨c2_0, c2_1, c2_2, c2_3, c2_4, c2_5, c2_6, c2_7, c2_8, c2_9, c2_10⟩ := cells11 (HK.out.st 2 rfl)
  go_wp2_with fail
  clear c2_0 c2_1 c2_2 c2_3 c2_4 c2_5 c2_6 c2_7 c2_8 c2_9 c2_10
  refine (HPa.out _).mono ?_
  rintro e w1 ⟨rfl, hb⟩
  replace HK := Lib.hid (HK.out.later hb)
  clear hb
  go_upto_region 2 with (fail)
  replace HK := Lib.hid (HK.out.new #[.int .i64 x.kind, .string x.room, .string x.user, .string x.event, .string x.thread, .bool x.priv, .bool x.on, .int .i64 x.span, .int .i64 x.state, .int .i64 x.tick, .int .i64 x.stamp] 23)
  generalize hW : (w1.alloc (.cells #[.int .i64 x.kind, .string x.room, .string x.user, .string x.event, .string x.thread, .bool x.priv, .bool x.on, .int .i64 x.span, .int .i64 x.state, .int .i64 x.tick, .int .i64 x.stamp] 23)) = w2 at HK ⊢
  generalize hg : w1.heap.size = b2 at HK ⊢
  clear hW hg
  obtain ⟨c2_0, c2_1, c2_2, c2_3, c2_4, c2_5, c2_6, c2_7, c2_8, c2_9, c2_10⟩ := cells11 (HK.out.st 2 rfl)
  go_wp2_with fail
  clear c2_0 c2_1 c2_2 c2_3 c2_4 c2_5 c2_6 c2_7 c2_8 c2_9 c2_10
  refine (HPb.out _).mono ?_
  rintro e w3 ⟨rfl, hb⟩
  replace HK := Lib.hid (HK.out.later hb)
  clear hb
  go_upto_region 3 with (fail)
  replace HK := Lib.hid (HK.out.new #[.int .i64 y.kind, .string y.room, .string y.user, .string y.event, .string y.thread, .bool y.priv, .bool y.on, .int .i64 y.span, .int .i64 y.state, .int .i64 y.tick, .int .i64 y.stamp] 23)
  generalize hW : (w3.alloc (.cells #[.int .i64 y.kind, .string y.room, .string y.user, .string y.event, .string y.thread, .bool y.priv, .bool y.on, .int .i64 y.span, .int .i64 y.state, .int .i64 y.tick, .int .i64 y.stamp] 23)) = w4 at HK ⊢
  generalize hg : w3.heap.size = b4 at HK ⊢
  clear hW hg
  obtain ⟨c2_0, c2_1, c2_2, c2_3, c2_4, c2_5, c2_6, c2_7, c2_8, c2_9, c2_10⟩ := cells11 (HK.out.st 2 rfl)
  go_wp2_with fail
  clear c2_0 c2_1 c2_2 c2_3 c2_4 c2_5 c2_6 c2_7 c2_8 c2_9 c2_10
  refine (HPc.out _).mono ?_
  rintro e w5 ⟨rfl, hb⟩
  replace HK := Lib.hid (HK.out.later hb)
  clear hb
  go_upto_region 4 with (fail)
  replace HK := Lib.hid (HK.out.new #[.int .i64 z.kind, .string z.room, .string z.user, .string z.event, .string z.thread, .bool z.priv, .bool z.on, .int .i64 z.span, .int .i64 z.state, .int .i64 z.tick, .int .i64 z.stamp] 23)
  generalize hW : (w5.alloc (.cells #[.int .i64 z.kind, .string z.room, .string z.user, .string z.event, .string z.thread, .bool z.priv, .bool z.on, .int .i64 z.span, .int .i64 z.state, .int .i64 z.tick, .int .i64 z.stamp] 23)) = w6 at HK ⊢
  generalize hg : w5.heap.size = b6 at HK ⊢
  clear hW hg
  obtain ⟨c1_0, c1_1, c1_2, c1_3, c1_4, c1_5, c1_6, c1_7, c1_8, c1_9, c1_10⟩ := cells11 (HK.out.st 1 rfl)
  obtain ⟨c2_0, c2_1, c2_2, c2_3, c2_4, c2_5, c2_6, c2_7, c2_8, c2_9, c2_10⟩ := cells11 (HK.out.st 2 rfl)
  go_wp2_with fail
  clear c1_0 c1_1 c1_2 c1_3 c1_4 c1_5 c1_6 c1_7 c1_8 c1_9 c1_10 c2_0 c2_1 c2_2 c2_3 c2_4 c2_5 c2_6 c2_7 c2_8 c2_9 c2_10
  refine (Hxy.out _).mono ?_
  rintro e w7 ⟨rfl, hb⟩
  replace HK := Lib.hid (HK.out.later hb)
  clear hb
  obtain ⟨c0_0, c0_1, c0_2, c0_3, c0_4, c0_5, c0_6, c0_7, c0_8, c0_9, c0_10⟩ := cells11 (HK.out.st 0 rfl)
  obtain ⟨c1_0, c1_1, c1_2, c1_3, c1_4, c1_5, c1_6, c1_7, c1_8, c1_9, c1_10⟩ := cells11 (HK.out.st 1 rfl)
  go_wp2_with fail
  clear c0_0 c0_1 c0_2 c0_3 c0_4 c0_5 c0_6 c0_7 c0_8 c0_9 c0_10 c1_0 c1_1 c1_2 c1_3 c1_4 c1_5 c1_6 c1_7 c1_8 c1_9 c1_10
  refine (Hyz.out _).mono ?_
  rintro e w8 ⟨rfl, hb⟩
  replace HK := Lib.hid (HK.out.later hb)
  clear hb
  obtain ⟨c1_0, c1_1, c1_2, c1_3, c1_4, c1_5, c1_6, c1_7, c1_8, c1_9, c1_10⟩ := cells11 (HK.out.st 1 rfl)
  obtain ⟨c2_0, c2_1, c2_2, c2_3, c2_4, c2_5, c2_6, c2_7, c2_8, c2_9, c2_10⟩ := cells11 (HK.out.st 2 rfl)
  go_wp2_with fail
  clear c1_0 c1_1 c1_2 c1_3 c1_4 c1_5 c1_6 c1_7 c1_8 c1_9 c1_10 c2_0 c2_1 c2_2 c2_3 c2_4 c2_5 c2_6 c2_7 c2_8 c2_9 c2_10
  refine (HS.out _).mono ?_
  rintro e w9 ⟨rfl, hb⟩
  replace HK := Lib.hid (HK.out.later hb)
  clear hb
  obtain ⟨c1_0, c1_1, c1_2, c1_3, c1_4, c1_5, c1_6, c1_7, c1_8, c1_9, c1_10⟩ := cells11 (HK.out.st 1 rfl)
  obtain ⟨c2_0, c2_1, c2_2, c2_3, c2_4, c2_5, c2_6, c2_7, c2_8, c2_9, c2_10⟩ := cells11 (HK.out.st 2 rfl)
  go_wp2_with fail
  clear c1_0 c1_1 c1_2 c1_3 c1_4 c1_5 c1_6 c1_7 c1_8 c1_9 c1_10 c2_0 c2_1 c2_2 c2_3 c2_4 c2_5 c2_6 c2_7 c2_8 c2_9 c2_10
  refine (Hr.out _).mono ?_
  rintro e w10 ⟨rfl, hb⟩
  replace HK := Lib.hid (HK.out.later hb)
  clear hb
  rcases hrg with rfl | rfl | rfl
  · obtain rfl : eb = false := by first | exact heb.2 rfl | exact Bool.eq_false_iff.2 (fun h => absurd (heb.1 h) (by decide))
    clear heb
    obtain ⟨c1_0, c1_1, c1_2, c1_3, c1_4, c1_5, c1_6, c1_7, c1_8, c1_9, c1_10⟩ := cells11 (HK.out.st 1 rfl)
    obtain ⟨c2_0, c2_1, c2_2, c2_3, c2_4, c2_5, c2_6, c2_7, c2_8, c2_9, c2_10⟩ := cells11 (HK.out.st 2 rfl)
    have heq := HE.out
    go_wp2_with fail
    clear heq
    clear c1_0 c1_1 c1_2 c1_3 c1_4 c1_5 c1_6 c1_7 c1_8 c1_9 c1_10 c2_0 c2_1 c2_2 c2_3 c2_4 c2_5 c2_6 c2_7 c2_8 c2_9 c2_10
    refine (Hyx.out _).mono ?_
    rintro e w11 ⟨rfl, hb⟩
    replace HK := Lib.hid (HK.out.later hb)
    clear hb
    by_cases hm : m ≤ 0
    · have qm : decide (m ≤ 0) = true := decide_eq_true hm
      obtain ⟨c0_0, c0_1, c0_2, c0_3, c0_4, c0_5, c0_6, c0_7, c0_8, c0_9, c0_10⟩ := cells11 (HK.out.st 0 rfl)
      obtain ⟨c1_0, c1_1, c1_2, c1_3, c1_4, c1_5, c1_6, c1_7, c1_8, c1_9, c1_10⟩ := cells11 (HK.out.st 1 rfl)
      obtain ⟨c2_0, c2_1, c2_2, c2_3, c2_4, c2_5, c2_6, c2_7, c2_8, c2_9, c2_10⟩ := cells11 (HK.out.st 2 rfl)
      have heq := HE.out
      go_wp2_with fail
      clear heq
      clear c0_0 c0_1 c0_2 c0_3 c0_4 c0_5 c0_6 c0_7 c0_8 c0_9 c0_10 c1_0 c1_1 c1_2 c1_3 c1_4 c1_5 c1_6 c1_7 c1_8 c1_9 c1_10 c2_0 c2_1 c2_2 c2_3 c2_4 c2_5 c2_6 c2_7 c2_8 c2_9 c2_10
      refine (Hxz.out _).mono ?_
      rintro e w12 ⟨rfl, hb⟩
      replace HK := Lib.hid (HK.out.later hb)
      clear hb
      have qq : decide (0 < q) = false := decide_eq_false (by have := htr (by decide) hm; omega)
      obtain ⟨c0_0, c0_1, c0_2, c0_3, c0_4, c0_5, c0_6, c0_7, c0_8, c0_9, c0_10⟩ := cells11 (HK.out.st 0 rfl)
      obtain ⟨c1_0, c1_1, c1_2, c1_3, c1_4, c1_5, c1_6, c1_7, c1_8, c1_9, c1_10⟩ := cells11 (HK.out.st 1 rfl)
      obtain ⟨c2_0, c2_1, c2_2, c2_3, c2_4, c2_5, c2_6, c2_7, c2_8, c2_9, c2_10⟩ := cells11 (HK.out.st 2 rfl)
      have heq := HE.out
      go_wp2_with fail
      clear heq
      clear c0_0 c0_1 c0_2 c0_3 c0_4 c0_5 c0_6 c0_7 c0_8 c0_9 c0_10 c1_0 c1_1 c1_2 c1_3 c1_4 c1_5 c1_6 c1_7 c1_8 c1_9 c1_10 c2_0 c2_1 c2_2 c2_3 c2_4 c2_5 c2_6 c2_7 c2_8 c2_9 c2_10
      cases se
      · refine (HL.out _).mono ?_
        rintro e w13 ⟨rfl, hb⟩
        replace HK := Lib.hid (HK.out.later hb)
        clear hb
        obtain ⟨c1_0, c1_1, c1_2, c1_3, c1_4, c1_5, c1_6, c1_7, c1_8, c1_9, c1_10⟩ := cells11 (HK.out.st 1 rfl)
        obtain ⟨c2_0, c2_1, c2_2, c2_3, c2_4, c2_5, c2_6, c2_7, c2_8, c2_9, c2_10⟩ := cells11 (HK.out.st 2 rfl)
        have heq := HE.out
        go_wp2_with fail
        clear heq
        clear c1_0 c1_1 c1_2 c1_3 c1_4 c1_5 c1_6 c1_7 c1_8 c1_9 c1_10 c2_0 c2_1 c2_2 c2_3 c2_4 c2_5 c2_6 c2_7 c2_8 c2_9 c2_10
        refine (HL.out _).mono ?_
        rintro e w14 ⟨rfl, hb⟩
        replace HK := Lib.hid (HK.out.later hb)
        clear hb
        obtain ⟨c1_0, c1_1, c1_2, c1_3, c1_4, c1_5, c1_6, c1_7, c1_8, c1_9, c1_10⟩ := cells11 (HK.out.st 1 rfl)
        obtain ⟨c2_0, c2_1, c2_2, c2_3, c2_4, c2_5, c2_6, c2_7, c2_8, c2_9, c2_10⟩ := cells11 (HK.out.st 2 rfl)
        have heq := HE.out
        go_wp2_with fail
        clear heq
        clear c1_0 c1_1 c1_2 c1_3 c1_4 c1_5 c1_6 c1_7 c1_8 c1_9 c1_10 c2_0 c2_1 c2_2 c2_3 c2_4 c2_5 c2_6 c2_7 c2_8 c2_9 c2_10
        refine (HM.out _).mono ?_
        rintro e w15 ⟨rfl, hb⟩
        replace HK := Lib.hid (HK.out.later hb)
        clear hb
        obtain ⟨c1_0, c1_1, c1_2, c1_3, c1_4, c1_5, c1_6, c1_7, c1_8, c1_9, c1_10⟩ := cells11 (HK.out.st 1 rfl)
        obtain ⟨c2_0, c2_1, c2_2, c2_3, c2_4, c2_5, c2_6, c2_7, c2_8, c2_9, c2_10⟩ := cells11 (HK.out.st 2 rfl)
        have heq := HE.out
        go_wp2_with fail
        clear heq
        clear c1_0 c1_1 c1_2 c1_3 c1_4 c1_5 c1_6 c1_7 c1_8 c1_9 c1_10 c2_0 c2_1 c2_2 c2_3 c2_4 c2_5 c2_6 c2_7 c2_8 c2_9 c2_10
        refine (lives_any _).mono ?_
        rintro e w16 ⟨rfl, hb⟩
        replace HK := Lib.hid (HK.out.later hb)
        clear hb
        go_wp2_with fail
        go_ret
        exact ⟨rfl, HK.out.1⟩
      · refine (HL.out _).mono ?_
        rintro e w13 ⟨rfl, hb⟩
        replace HK := Lib.hid (HK.out.later hb)
        clear hb
        obtain ⟨c1_0, c1_1, c1_2, c1_3, c1_4, c1_5, c1_6, c1_7, c1_8, c1_9, c1_10⟩ := cells11 (HK.out.st 1 rfl)
        obtain ⟨c2_0, c2_1, c2_2, c2_3, c2_4, c2_5, c2_6, c2_7, c2_8, c2_9, c2_10⟩ := cells11 (HK.out.st 2 rfl)
        have heq := HE.out
        go_wp2_with fail
        clear heq
        clear c1_0 c1_1 c1_2 c1_3 c1_4 c1_5 c1_6 c1_7 c1_8 c1_9 c1_10 c2_0 c2_1 c2_2 c2_3 c2_4 c2_5 c2_6 c2_7 c2_8 c2_9 c2_10
        refine (HL.out _).mono ?_
        rintro e w14 ⟨rfl, hb⟩
        replace HK := Lib.hid (HK.out.later hb)
        clear hb
        obtain ⟨c1_0, c1_1, c1_2, c1_3, c1_4, c1_5, c1_6, c1_7, c1_8, c1_9, c1_10⟩ := cells11 (HK.out.st 1 rfl)
        obtain ⟨c2_0, c2_1, c2_2, c2_3, c2_4, c2_5, c2_6, c2_7, c2_8, c2_9, c2_10⟩ := cells11 (HK.out.st 2 rfl)
        have heq := HE.out
        go_wp2_with fail
        clear heq
        clear c1_0 c1_1 c1_2 c1_3 c1_4 c1_5 c1_6 c1_7 c1_8 c1_9 c1_10 c2_0 c2_1 c2_2 c2_3 c2_4 c2_5 c2_6 c2_7 c2_8 c2_9 c2_10
        refine (HM.out _).mono ?_
        rintro e w15 ⟨rfl, hb⟩
        replace HK := Lib.hid (HK.out.later hb)
        clear hb
        obtain ⟨c1_0, c1_1, c1_2, c1_3, c1_4, c1_5, c1_6, c1_7, c1_8, c1_9, c1_10⟩ := cells11 (HK.out.st 1 rfl)
        obtain ⟨c2_0, c2_1, c2_2, c2_3, c2_4, c2_5, c2_6, c2_7, c2_8, c2_9, c2_10⟩ := cells11 (HK.out.st 2 rfl)
        have heq := HE.out
        go_wp2_with fail
        clear heq
        clear c1_0 c1_1 c1_2 c1_3 c1_4 c1_5 c1_6 c1_7 c1_8 c1_9 c1_10 c2_0 c2_1 c2_2 c2_3 c2_4 c2_5 c2_6 c2_7 c2_8 c2_9 c2_10
        refine (lives_any _).mono ?_
        rintro e w16 ⟨rfl, hb⟩
        replace HK := Lib.hid (HK.out.later hb)
        clear hb
        go_wp2_with fail
        go_ret
        exact ⟨rfl, HK.out.1⟩
    · have qm : decide (m ≤ 0) = false := decide_eq_false hm
      obtain ⟨c0_0, c0_1, c0_2, c0_3, c0_4, c0_5, c0_6, c0_7, c0_8, c0_9, c0_10⟩ := cells11 (HK.out.st 0 rfl)
      obtain ⟨c1_0, c1_1, c1_2, c1_3, c1_4, c1_5, c1_6, c1_7, c1_8, c1_9, c1_10⟩ := cells11 (HK.out.st 1 rfl)
      obtain ⟨c2_0, c2_1, c2_2, c2_3, c2_4, c2_5, c2_6, c2_7, c2_8, c2_9, c2_10⟩ := cells11 (HK.out.st 2 rfl)
      have heq := HE.out
      go_wp2_with fail
      clear heq
      clear c0_0 c0_1 c0_2 c0_3 c0_4 c0_5 c0_6 c0_7 c0_8 c0_9 c0_10 c1_0 c1_1 c1_2 c1_3 c1_4 c1_5 c1_6 c1_7 c1_8 c1_9 c1_10 c2_0 c2_1 c2_2 c2_3 c2_4 c2_5 c2_6 c2_7 c2_8 c2_9 c2_10
      cases se
      · refine (HL.out _).mono ?_
        rintro e w12 ⟨rfl, hb⟩
        replace HK := Lib.hid (HK.out.later hb)
        clear hb
        obtain ⟨c1_0, c1_1, c1_2, c1_3, c1_4, c1_5, c1_6, c1_7, c1_8, c1_9, c1_10⟩ := cells11 (HK.out.st 1 rfl)
        obtain ⟨c2_0, c2_1, c2_2, c2_3, c2_4, c2_5, c2_6, c2_7, c2_8, c2_9, c2_10⟩ := cells11 (HK.out.st 2 rfl)
        have heq := HE.out
        go_wp2_with fail
        clear heq
        clear c1_0 c1_1 c1_2 c1_3 c1_4 c1_5 c1_6 c1_7 c1_8 c1_9 c1_10 c2_0 c2_1 c2_2 c2_3 c2_4 c2_5 c2_6 c2_7 c2_8 c2_9 c2_10
        refine (HL.out _).mono ?_
        rintro e w13 ⟨rfl, hb⟩
        replace HK := Lib.hid (HK.out.later hb)
        clear hb
        obtain ⟨c1_0, c1_1, c1_2, c1_3, c1_4, c1_5, c1_6, c1_7, c1_8, c1_9, c1_10⟩ := cells11 (HK.out.st 1 rfl)
        obtain ⟨c2_0, c2_1, c2_2, c2_3, c2_4, c2_5, c2_6, c2_7, c2_8, c2_9, c2_10⟩ := cells11 (HK.out.st 2 rfl)
        have heq := HE.out
        go_wp2_with fail
        clear heq
        clear c1_0 c1_1 c1_2 c1_3 c1_4 c1_5 c1_6 c1_7 c1_8 c1_9 c1_10 c2_0 c2_1 c2_2 c2_3 c2_4 c2_5 c2_6 c2_7 c2_8 c2_9 c2_10
        refine (HM.out _).mono ?_
        rintro e w14 ⟨rfl, hb⟩
        replace HK := Lib.hid (HK.out.later hb)
        clear hb
        obtain ⟨c1_0, c1_1, c1_2, c1_3, c1_4, c1_5, c1_6, c1_7, c1_8, c1_9, c1_10⟩ := cells11 (HK.out.st 1 rfl)
        obtain ⟨c2_0, c2_1, c2_2, c2_3, c2_4, c2_5, c2_6, c2_7, c2_8, c2_9, c2_10⟩ := cells11 (HK.out.st 2 rfl)
        have heq := HE.out
        go_wp2_with fail
        clear heq
        clear c1_0 c1_1 c1_2 c1_3 c1_4 c1_5 c1_6 c1_7 c1_8 c1_9 c1_10 c2_0 c2_1 c2_2 c2_3 c2_4 c2_5 c2_6 c2_7 c2_8 c2_9 c2_10
        refine (lives_any _).mono ?_
        rintro e w15 ⟨rfl, hb⟩
        replace HK := Lib.hid (HK.out.later hb)
        clear hb
        go_wp2_with fail
        go_ret
        exact ⟨rfl, HK.out.1⟩
      · refine (HL.out _).mono ?_
        rintro e w12 ⟨rfl, hb⟩
        replace HK := Lib.hid (HK.out.later hb)
        clear hb
        obtain ⟨c1_0, c1_1, c1_2, c1_3, c1_4, c1_5, c1_6, c1_7, c1_8, c1_9, c1_10⟩ := cells11 (HK.out.st 1 rfl)
        obtain ⟨c2_0, c2_1, c2_2, c2_3, c2_4, c2_5, c2_6, c2_7, c2_8, c2_9, c2_10⟩ := cells11 (HK.out.st 2 rfl)
        have heq := HE.out
        go_wp2_with fail
        clear heq
        clear c1_0 c1_1 c1_2 c1_3 c1_4 c1_5 c1_6 c1_7 c1_8 c1_9 c1_10 c2_0 c2_1 c2_2 c2_3 c2_4 c2_5 c2_6 c2_7 c2_8 c2_9 c2_10
        refine (HL.out _).mono ?_
        rintro e w13 ⟨rfl, hb⟩
        replace HK := Lib.hid (HK.out.later hb)
        clear hb
        obtain ⟨c1_0, c1_1, c1_2, c1_3, c1_4, c1_5, c1_6, c1_7, c1_8, c1_9, c1_10⟩ := cells11 (HK.out.st 1 rfl)
        obtain ⟨c2_0, c2_1, c2_2, c2_3, c2_4, c2_5, c2_6, c2_7, c2_8, c2_9, c2_10⟩ := cells11 (HK.out.st 2 rfl)
        have heq := HE.out
        go_wp2_with fail
        clear heq
        clear c1_0 c1_1 c1_2 c1_3 c1_4 c1_5 c1_6 c1_7 c1_8 c1_9 c1_10 c2_0 c2_1 c2_2 c2_3 c2_4 c2_5 c2_6 c2_7 c2_8 c2_9 c2_10
        refine (HM.out _).mono ?_
        rintro e w14 ⟨rfl, hb⟩
        replace HK := Lib.hid (HK.out.later hb)
        clear hb
        obtain ⟨c1_0, c1_1, c1_2, c1_3, c1_4, c1_5, c1_6, c1_7, c1_8, c1_9, c1_10⟩ := cells11 (HK.out.st 1 rfl)
        obtain ⟨c2_0, c2_1, c2_2, c2_3, c2_4, c2_5, c2_6, c2_7, c2_8, c2_9, c2_10⟩ := cells11 (HK.out.st 2 rfl)
        have heq := HE.out
        go_wp2_with fail
        clear heq
        clear c1_0 c1_1 c1_2 c1_3 c1_4 c1_5 c1_6 c1_7 c1_8 c1_9 c1_10 c2_0 c2_1 c2_2 c2_3 c2_4 c2_5 c2_6 c2_7 c2_8 c2_9 c2_10
        refine (lives_any _).mono ?_
        rintro e w15 ⟨rfl, hb⟩
        replace HK := Lib.hid (HK.out.later hb)
        clear hb
        go_wp2_with fail
        go_ret
        exact ⟨rfl, HK.out.1⟩
  · obtain rfl : eb = true := by first | exact heb.2 rfl | exact Bool.eq_false_iff.2 (fun h => absurd (heb.1 h) (by decide))
    clear heb
    obtain ⟨c1_0, c1_1, c1_2, c1_3, c1_4, c1_5, c1_6, c1_7, c1_8, c1_9, c1_10⟩ := cells11 (HK.out.st 1 rfl)
    obtain ⟨c2_0, c2_1, c2_2, c2_3, c2_4, c2_5, c2_6, c2_7, c2_8, c2_9, c2_10⟩ := cells11 (HK.out.st 2 rfl)
    have heq := HE.out
    go_wp2_with fail
    clear heq
    clear c1_0 c1_1 c1_2 c1_3 c1_4 c1_5 c1_6 c1_7 c1_8 c1_9 c1_10 c2_0 c2_1 c2_2 c2_3 c2_4 c2_5 c2_6 c2_7 c2_8 c2_9 c2_10
    refine (Hyx.out _).mono ?_
    rintro e w11 ⟨rfl, hb⟩
    replace HK := Lib.hid (HK.out.later hb)
    clear hb
    by_cases hm : m ≤ 0
    · have qm : decide (m ≤ 0) = true := decide_eq_true hm
      obtain ⟨c0_0, c0_1, c0_2, c0_3, c0_4, c0_5, c0_6, c0_7, c0_8, c0_9, c0_10⟩ := cells11 (HK.out.st 0 rfl)
      obtain ⟨c1_0, c1_1, c1_2, c1_3, c1_4, c1_5, c1_6, c1_7, c1_8, c1_9, c1_10⟩ := cells11 (HK.out.st 1 rfl)
      obtain ⟨c2_0, c2_1, c2_2, c2_3, c2_4, c2_5, c2_6, c2_7, c2_8, c2_9, c2_10⟩ := cells11 (HK.out.st 2 rfl)
      have heq := HE.out
      go_wp2_with fail
      clear heq
      clear c0_0 c0_1 c0_2 c0_3 c0_4 c0_5 c0_6 c0_7 c0_8 c0_9 c0_10 c1_0 c1_1 c1_2 c1_3 c1_4 c1_5 c1_6 c1_7 c1_8 c1_9 c1_10 c2_0 c2_1 c2_2 c2_3 c2_4 c2_5 c2_6 c2_7 c2_8 c2_9 c2_10
      refine (Hxz.out _).mono ?_
      rintro e w12 ⟨rfl, hb⟩
      replace HK := Lib.hid (HK.out.later hb)
      clear hb
      have qq : decide (0 < q) = false := decide_eq_false (by have := htr (by decide) hm; omega)
      obtain ⟨c0_0, c0_1, c0_2, c0_3, c0_4, c0_5, c0_6, c0_7, c0_8, c0_9, c0_10⟩ := cells11 (HK.out.st 0 rfl)
      obtain ⟨c1_0, c1_1, c1_2, c1_3, c1_4, c1_5, c1_6, c1_7, c1_8, c1_9, c1_10⟩ := cells11 (HK.out.st 1 rfl)
      obtain ⟨c2_0, c2_1, c2_2, c2_3, c2_4, c2_5, c2_6, c2_7, c2_8, c2_9, c2_10⟩ := cells11 (HK.out.st 2 rfl)
      have heq := HE.out
      go_wp2_with fail
      clear heq
      clear c0_0 c0_1 c0_2 c0_3 c0_4 c0_5 c0_6 c0_7 c0_8 c0_9 c0_10 c1_0 c1_1 c1_2 c1_3 c1_4 c1_5 c1_6 c1_7 c1_8 c1_9 c1_10 c2_0 c2_1 c2_2 c2_3 c2_4 c2_5 c2_6 c2_7 c2_8 c2_9 c2_10
      cases se
      · refine (HL.out _).mono ?_
        rintro e w13 ⟨rfl, hb⟩
        replace HK := Lib.hid (HK.out.later hb)
        clear hb
        obtain ⟨c1_0, c1_1, c1_2, c1_3, c1_4, c1_5, c1_6, c1_7, c1_8, c1_9, c1_10⟩ := cells11 (HK.out.st 1 rfl)
        obtain ⟨c2_0, c2_1, c2_2, c2_3, c2_4, c2_5, c2_6, c2_7, c2_8, c2_9, c2_10⟩ := cells11 (HK.out.st 2 rfl)
        have heq := HE.out
        go_wp2_with fail
        clear heq
        clear c1_0 c1_1 c1_2 c1_3 c1_4 c1_5 c1_6 c1_7 c1_8 c1_9 c1_10 c2_0 c2_1 c2_2 c2_3 c2_4 c2_5 c2_6 c2_7 c2_8 c2_9 c2_10
        refine (HL.out _).mono ?_
        rintro e w14 ⟨rfl, hb⟩
        replace HK := Lib.hid (HK.out.later hb)
        clear hb
        obtain ⟨c1_0, c1_1, c1_2, c1_3, c1_4, c1_5, c1_6, c1_7, c1_8, c1_9, c1_10⟩ := cells11 (HK.out.st 1 rfl)
        obtain ⟨c2_0, c2_1, c2_2, c2_3, c2_4, c2_5, c2_6, c2_7, c2_8, c2_9, c2_10⟩ := cells11 (HK.out.st 2 rfl)
        have heq := HE.out
        go_wp2_with fail
        clear heq
        clear c1_0 c1_1 c1_2 c1_3 c1_4 c1_5 c1_6 c1_7 c1_8 c1_9 c1_10 c2_0 c2_1 c2_2 c2_3 c2_4 c2_5 c2_6 c2_7 c2_8 c2_9 c2_10
        refine (HM.out _).mono ?_
        rintro e w15 ⟨rfl, hb⟩
        replace HK := Lib.hid (HK.out.later hb)
        clear hb
        obtain ⟨c1_0, c1_1, c1_2, c1_3, c1_4, c1_5, c1_6, c1_7, c1_8, c1_9, c1_10⟩ := cells11 (HK.out.st 1 rfl)
        obtain ⟨c2_0, c2_1, c2_2, c2_3, c2_4, c2_5, c2_6, c2_7, c2_8, c2_9, c2_10⟩ := cells11 (HK.out.st 2 rfl)
        have heq := HE.out
        go_wp2_with fail
        clear heq
        clear c1_0 c1_1 c1_2 c1_3 c1_4 c1_5 c1_6 c1_7 c1_8 c1_9 c1_10 c2_0 c2_1 c2_2 c2_3 c2_4 c2_5 c2_6 c2_7 c2_8 c2_9 c2_10
        refine (lives_any _).mono ?_
        rintro e w16 ⟨rfl, hb⟩
        replace HK := Lib.hid (HK.out.later hb)
        clear hb
        go_wp2_with fail
        go_ret
        exact ⟨rfl, HK.out.1⟩
      · refine (HL.out _).mono ?_
        rintro e w13 ⟨rfl, hb⟩
        replace HK := Lib.hid (HK.out.later hb)
        clear hb
        obtain ⟨c1_0, c1_1, c1_2, c1_3, c1_4, c1_5, c1_6, c1_7, c1_8, c1_9, c1_10⟩ := cells11 (HK.out.st 1 rfl)
        obtain ⟨c2_0, c2_1, c2_2, c2_3, c2_4, c2_5, c2_6, c2_7, c2_8, c2_9, c2_10⟩ := cells11 (HK.out.st 2 rfl)
        have heq := HE.out
        go_wp2_with fail
        clear heq
        clear c1_0 c1_1 c1_2 c1_3 c1_4 c1_5 c1_6 c1_7 c1_8 c1_9 c1_10 c2_0 c2_1 c2_2 c2_3 c2_4 c2_5 c2_6 c2_7 c2_8 c2_9 c2_10
        refine (HL.out _).mono ?_
        rintro e w14 ⟨rfl, hb⟩
        replace HK := Lib.hid (HK.out.later hb)
        clear hb
        obtain ⟨c1_0, c1_1, c1_2, c1_3, c1_4, c1_5, c1_6, c1_7, c1_8, c1_9, c1_10⟩ := cells11 (HK.out.st 1 rfl)
        obtain ⟨c2_0, c2_1, c2_2, c2_3, c2_4, c2_5, c2_6, c2_7, c2_8, c2_9, c2_10⟩ := cells11 (HK.out.st 2 rfl)
        have heq := HE.out
        go_wp2_with fail
        clear heq
        clear c1_0 c1_1 c1_2 c1_3 c1_4 c1_5 c1_6 c1_7 c1_8 c1_9 c1_10 c2_0 c2_1 c2_2 c2_3 c2_4 c2_5 c2_6 c2_7 c2_8 c2_9 c2_10
        refine (HM.out _).mono ?_
        rintro e w15 ⟨rfl, hb⟩
        replace HK := Lib.hid (HK.out.later hb)
        clear hb
        obtain ⟨c1_0, c1_1, c1_2, c1_3, c1_4, c1_5, c1_6, c1_7, c1_8, c1_9, c1_10⟩ := cells11 (HK.out.st 1 rfl)
        obtain ⟨c2_0, c2_1, c2_2, c2_3, c2_4, c2_5, c2_6, c2_7, c2_8, c2_9, c2_10⟩ := cells11 (HK.out.st 2 rfl)
        have heq := HE.out
        go_wp2_with fail
        clear heq
        clear c1_0 c1_1 c1_2 c1_3 c1_4 c1_5 c1_6 c1_7 c1_8 c1_9 c1_10 c2_0 c2_1 c2_2 c2_3 c2_4 c2_5 c2_6 c2_7 c2_8 c2_9 c2_10
        refine (lives_any _).mono ?_
        rintro e w16 ⟨rfl, hb⟩
        replace HK := Lib.hid (HK.out.later hb)
        clear hb
        go_wp2_with fail
        go_ret
        exact ⟨rfl, HK.out.1⟩
    · have qm : decide (m ≤ 0) = false := decide_eq_false hm
      obtain ⟨c0_0, c0_1, c0_2, c0_3, c0_4, c0_5, c0_6, c0_7, c0_8, c0_9, c0_10⟩ := cells11 (HK.out.st 0 rfl)
      obtain ⟨c1_0, c1_1, c1_2, c1_3, c1_4, c1_5, c1_6, c1_7, c1_8, c1_9, c1_10⟩ := cells11 (HK.out.st 1 rfl)
      obtain ⟨c2_0, c2_1, c2_2, c2_3, c2_4, c2_5, c2_6, c2_7, c2_8, c2_9, c2_10⟩ := cells11 (HK.out.st 2 rfl)
      have heq := HE.out
      go_wp2_with fail
      clear heq
      clear c0_0 c0_1 c0_2 c0_3 c0_4 c0_5 c0_6 c0_7 c0_8 c0_9 c0_10 c1_0 c1_1 c1_2 c1_3 c1_4 c1_5 c1_6 c1_7 c1_8 c1_9 c1_10 c2_0 c2_1 c2_2 c2_3 c2_4 c2_5 c2_6 c2_7 c2_8 c2_9 c2_10
      cases se
      · refine (HL.out _).mono ?_
        rintro e w12 ⟨rfl, hb⟩
        replace HK := Lib.hid (HK.out.later hb)
        clear hb
        obtain ⟨c1_0, c1_1, c1_2, c1_3, c1_4, c1_5, c1_6, c1_7, c1_8, c1_9, c1_10⟩ := cells11 (HK.out.st 1 rfl)
        obtain ⟨c2_0, c2_1, c2_2, c2_3, c2_4, c2_5, c2_6, c2_7, c2_8, c2_9, c2_10⟩ := cells11 (HK.out.st 2 rfl)
        have heq := HE.out
        go_wp2_with fail
        clear heq
        clear c1_0 c1_1 c1_2 c1_3 c1_4 c1_5 c1_6 c1_7 c1_8 c1_9 c1_10 c2_0 c2_1 c2_2 c2_3 c2_4 c2_5 c2_6 c2_7 c2_8 c2_9 c2_10
        refine (HL.out _).mono ?_
        rintro e w13 ⟨rfl, hb⟩
        replace HK := Lib.hid (HK.out.later hb)
        clear hb
        obtain ⟨c1_0, c1_1, c1_2, c1_3, c1_4, c1_5, c1_6, c1_7, c1_8, c1_9, c1_10⟩ := cells11 (HK.out.st 1 rfl)
        obtain ⟨c2_0, c2_1, c2_2, c2_3, c2_4, c2_5, c2_6, c2_7, c2_8, c2_9, c2_10⟩ := cells11 (HK.out.st 2 rfl)
        have heq := HE.out
        go_wp2_with fail
        clear heq
        clear c1_0 c1_1 c1_2 c1_3 c1_4 c1_5 c1_6 c1_7 c1_8 c1_9 c1_10 c2_0 c2_1 c2_2 c2_3 c2_4 c2_5 c2_6 c2_7 c2_8 c2_9 c2_10
        refine (HM.out _).mono ?_
        rintro e w14 ⟨rfl, hb⟩
        replace HK := Lib.hid (HK.out.later hb)
        clear hb
        obtain ⟨c1_0, c1_1, c1_2, c1_3, c1_4, c1_5, c1_6, c1_7, c1_8, c1_9, c1_10⟩ := cells11 (HK.out.st 1 rfl)
        obtain ⟨c2_0, c2_1, c2_2, c2_3, c2_4, c2_5, c2_6, c2_7, c2_8, c2_9, c2_10⟩ := cells11 (HK.out.st 2 rfl)
        have heq := HE.out
        go_wp2_with fail
        clear heq
        clear c1_0 c1_1 c1_2 c1_3 c1_4 c1_5 c1_6 c1_7 c1_8 c1_9 c1_10 c2_0 c2_1 c2_2 c2_3 c2_4 c2_5 c2_6 c2_7 c2_8 c2_9 c2_10
        refine (lives_any _).mono ?_
        rintro e w15 ⟨rfl, hb⟩
        replace HK := Lib.hid (HK.out.later hb)
        clear hb
        go_wp2_with fail
        go_ret
        exact ⟨rfl, HK.out.1⟩
      · refine (HL.out _).mono ?_
        rintro e w12 ⟨rfl, hb⟩
        replace HK := Lib.hid (HK.out.later hb)
        clear hb
        obtain ⟨c1_0, c1_1, c1_2, c1_3, c1_4, c1_5, c1_6, c1_7, c1_8, c1_9, c1_10⟩ := cells11 (HK.out.st 1 rfl)
        obtain ⟨c2_0, c2_1, c2_2, c2_3, c2_4, c2_5, c2_6, c2_7, c2_8, c2_9, c2_10⟩ := cells11 (HK.out.st 2 rfl)
        have heq := HE.out
        go_wp2_with fail
        clear heq
        clear c1_0 c1_1 c1_2 c1_3 c1_4 c1_5 c1_6 c1_7 c1_8 c1_9 c1_10 c2_0 c2_1 c2_2 c2_3 c2_4 c2_5 c2_6 c2_7 c2_8 c2_9 c2_10
        refine (HL.out _).mono ?_
        rintro e w13 ⟨rfl, hb⟩
        replace HK := Lib.hid (HK.out.later hb)
        clear hb
        obtain ⟨c1_0, c1_1, c1_2, c1_3, c1_4, c1_5, c1_6, c1_7, c1_8, c1_9, c1_10⟩ := cells11 (HK.out.st 1 rfl)
        obtain ⟨c2_0, c2_1, c2_2, c2_3, c2_4, c2_5, c2_6, c2_7, c2_8, c2_9, c2_10⟩ := cells11 (HK.out.st 2 rfl)
        have heq := HE.out
        go_wp2_with fail
        clear heq
        clear c1_0 c1_1 c1_2 c1_3 c1_4 c1_5 c1_6 c1_7 c1_8 c1_9 c1_10 c2_0 c2_1 c2_2 c2_3 c2_4 c2_5 c2_6 c2_7 c2_8 c2_9 c2_10
        refine (HM.out _).mono ?_
        rintro e w14 ⟨rfl, hb⟩
        replace HK := Lib.hid (HK.out.later hb)
        clear hb
        obtain ⟨c1_0, c1_1, c1_2, c1_3, c1_4, c1_5, c1_6, c1_7, c1_8, c1_9, c1_10⟩ := cells11 (HK.out.st 1 rfl)
        obtain ⟨c2_0, c2_1, c2_2, c2_3, c2_4, c2_5, c2_6, c2_7, c2_8, c2_9, c2_10⟩ := cells11 (HK.out.st 2 rfl)
        have heq := HE.out
        go_wp2_with fail
        clear heq
        clear c1_0 c1_1 c1_2 c1_3 c1_4 c1_5 c1_6 c1_7 c1_8 c1_9 c1_10 c2_0 c2_1 c2_2 c2_3 c2_4 c2_5 c2_6 c2_7 c2_8 c2_9 c2_10
        refine (lives_any _).mono ?_
        rintro e w15 ⟨rfl, hb⟩
        replace HK := Lib.hid (HK.out.later hb)
        clear hb
        go_wp2_with fail
        go_ret
        exact ⟨rfl, HK.out.1⟩
  · obtain rfl : eb = false := by first | exact heb.2 rfl | exact Bool.eq_false_iff.2 (fun h => absurd (heb.1 h) (by decide))
    clear heb
    obtain ⟨c1_0, c1_1, c1_2, c1_3, c1_4, c1_5, c1_6, c1_7, c1_8, c1_9, c1_10⟩ := cells11 (HK.out.st 1 rfl)
    obtain ⟨c2_0, c2_1, c2_2, c2_3, c2_4, c2_5, c2_6, c2_7, c2_8, c2_9, c2_10⟩ := cells11 (HK.out.st 2 rfl)
    have heq := HE.out
    go_wp2_with fail
    clear heq
    clear c1_0 c1_1 c1_2 c1_3 c1_4 c1_5 c1_6 c1_7 c1_8 c1_9 c1_10 c2_0 c2_1 c2_2 c2_3 c2_4 c2_5 c2_6 c2_7 c2_8 c2_9 c2_10
    refine (Hyx.out _).mono ?_
    rintro e w11 ⟨rfl, hb⟩
    replace HK := Lib.hid (HK.out.later hb)
    clear hb
    obtain ⟨c0_0, c0_1, c0_2, c0_3, c0_4, c0_5, c0_6, c0_7, c0_8, c0_9, c0_10⟩ := cells11 (HK.out.st 0 rfl)
    obtain ⟨c1_0, c1_1, c1_2, c1_3, c1_4, c1_5, c1_6, c1_7, c1_8, c1_9, c1_10⟩ := cells11 (HK.out.st 1 rfl)
    obtain ⟨c2_0, c2_1, c2_2, c2_3, c2_4, c2_5, c2_6, c2_7, c2_8, c2_9, c2_10⟩ := cells11 (HK.out.st 2 rfl)
    have heq := HE.out
    go_wp2_with fail
    clear heq
    clear c0_0 c0_1 c0_2 c0_3 c0_4 c0_5 c0_6 c0_7 c0_8 c0_9 c0_10 c1_0 c1_1 c1_2 c1_3 c1_4 c1_5 c1_6 c1_7 c1_8 c1_9 c1_10 c2_0 c2_1 c2_2 c2_3 c2_4 c2_5 c2_6 c2_7 c2_8 c2_9 c2_10
    cases se
    · refine (HL.out _).mono ?_
      rintro e w12 ⟨rfl, hb⟩
      replace HK := Lib.hid (HK.out.later hb)
      clear hb
      obtain ⟨c1_0, c1_1, c1_2, c1_3, c1_4, c1_5, c1_6, c1_7, c1_8, c1_9, c1_10⟩ := cells11 (HK.out.st 1 rfl)
      obtain ⟨c2_0, c2_1, c2_2, c2_3, c2_4, c2_5, c2_6, c2_7, c2_8, c2_9, c2_10⟩ := cells11 (HK.out.st 2 rfl)
      have heq := HE.out
      go_wp2_with fail
      clear heq
      clear c1_0 c1_1 c1_2 c1_3 c1_4 c1_5 c1_6 c1_7 c1_8 c1_9 c1_10 c2_0 c2_1 c2_2 c2_3 c2_4 c2_5 c2_6 c2_7 c2_8 c2_9 c2_10
      refine (HL.out _).mono ?_
      rintro e w13 ⟨rfl, hb⟩
      replace HK := Lib.hid (HK.out.later hb)
      clear hb
      obtain ⟨c1_0, c1_1, c1_2, c1_3, c1_4, c1_5, c1_6, c1_7, c1_8, c1_9, c1_10⟩ := cells11 (HK.out.st 1 rfl)
      obtain ⟨c2_0, c2_1, c2_2, c2_3, c2_4, c2_5, c2_6, c2_7, c2_8, c2_9, c2_10⟩ := cells11 (HK.out.st 2 rfl)
      have heq := HE.out
      go_wp2_with fail
      clear heq
      clear c1_0 c1_1 c1_2 c1_3 c1_4 c1_5 c1_6 c1_7 c1_8 c1_9 c1_10 c2_0 c2_1 c2_2 c2_3 c2_4 c2_5 c2_6 c2_7 c2_8 c2_9 c2_10
      refine (HM.out _).mono ?_
      rintro e w14 ⟨rfl, hb⟩
      replace HK := Lib.hid (HK.out.later hb)
      clear hb
      obtain ⟨c1_0, c1_1, c1_2, c1_3, c1_4, c1_5, c1_6, c1_7, c1_8, c1_9, c1_10⟩ := cells11 (HK.out.st 1 rfl)
      obtain ⟨c2_0, c2_1, c2_2, c2_3, c2_4, c2_5, c2_6, c2_7, c2_8, c2_9, c2_10⟩ := cells11 (HK.out.st 2 rfl)
      have heq := HE.out
      go_wp2_with fail
      clear heq
      clear c1_0 c1_1 c1_2 c1_3 c1_4 c1_5 c1_6 c1_7 c1_8 c1_9 c1_10 c2_0 c2_1 c2_2 c2_3 c2_4 c2_5 c2_6 c2_7 c2_8 c2_9 c2_10
      refine (lives_any _).mono ?_
      rintro e w15 ⟨rfl, hb⟩
      replace HK := Lib.hid (HK.out.later hb)
      clear hb
      go_wp2_with fail
      go_ret
      exact ⟨rfl, HK.out.1⟩
    · refine (HL.out _).mono ?_
      rintro e w12 ⟨rfl, hb⟩
      replace HK := Lib.hid (HK.out.later hb)
      clear hb
      obtain ⟨c1_0, c1_1, c1_2, c1_3, c1_4, c1_5, c1_6, c1_7, c1_8, c1_9, c1_10⟩ := cells11 (HK.out.st 1 rfl)
      obtain ⟨c2_0, c2_1, c2_2, c2_3, c2_4, c2_5, c2_6, c2_7, c2_8, c2_9, c2_10⟩ := cells11 (HK.out.st 2 rfl)
      have heq := HE.out
      go_wp2_with fail
      clear heq
      clear c1_0 c1_1 c1_2 c1_3 c1_4 c1_5 c1_6 c1_7 c1_8 c1_9 c1_10 c2_0 c2_1 c2_2 c2_3 c2_4 c2_5 c2_6 c2_7 c2_8 c2_9 c2_10
      refine (HL.out _).mono ?_
      rintro e w13 ⟨rfl, hb⟩
      replace HK := Lib.hid (HK.out.later hb)
      clear hb
      obtain ⟨c1_0, c1_1, c1_2, c1_3, c1_4, c1_5, c1_6, c1_7, c1_8, c1_9, c1_10⟩ := cells11 (HK.out.st 1 rfl)
      obtain ⟨c2_0, c2_1, c2_2, c2_3, c2_4, c2_5, c2_6, c2_7, c2_8, c2_9, c2_10⟩ := cells11 (HK.out.st 2 rfl)
      have heq := HE.out
      go_wp2_with fail
      clear heq
      clear c1_0 c1_1 c1_2 c1_3 c1_4 c1_5 c1_6 c1_7 c1_8 c1_9 c1_10 c2_0 c2_1 c2_2 c2_3 c2_4 c2_5 c2_6 c2_7 c2_8 c2_9 c2_10
      refine (lives_any _).mono ?_
      rintro e w14 ⟨rfl, hb⟩
      replace HK := Lib.hid (HK.out.later hb)
      clear hb
      go_wp2_with fail
      go_ret
      exact ⟨rfl, HK.out.1⟩
end Go.Proofs.Ytahgkhcmchbpbaa
