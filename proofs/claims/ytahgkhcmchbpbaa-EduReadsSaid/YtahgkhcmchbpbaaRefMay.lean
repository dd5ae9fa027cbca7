/-
  The document's May, Few, Same, Public.
-/
import Derived.Test.YtahgkhcmchbpbaaRefLocal
import Derived.Test.YtahgkhcmchbpbaaGoodW
import Derived.Test.YtahgkhcmchbpbaaLocal
namespace Go.Proofs.Ytahgkhcmchbpbaa
open Go.RowKit
set_option linter.unusedVariables false
set_option linter.unusedSimpArgs false
set_option maxRecDepth 4000

set_option maxHeartbeats 800000 in
theorem refMay_any (e : Edu) (w : World) (hr : e.room.size ≤ maxLen) (hu : e.user.size ≤ maxLen) (hv : e.event.size ≤ maxLen) (ht : e.thread.size ≤ maxLen) : Calls Try.prog 12 #[e.val] w fun x w' => x = .returned (.bool (mayB e)) ∧ Below w.heap.size w w' := by
  have hL := fun w => refLocal_any e w hr hu hv ht
  have HM := Lib.hid (show mayB e = (localB e && !e.priv) from rfl)
  generalize mayB e = mb at *
  generalize localB e = lb at *
  obtain ⟨k, r, u, v, t, p, o, s, z, c, m⟩ := e
  clear hr hu hv ht
  simp only [Edu.val] at hL ⊢
  simp only at HM
  replace hL := Lib.hid hL
  go_enter Try.func12, Try.ntmps12
  go_wp2_with fail
  have hT := one_new w #[.int .i64 k, .string r, .string u, .string v, .string t, .bool p, .bool o, .int .i64 s, .int .i64 z, .int .i64 c, .int .i64 m]
  generalize hW : (w.alloc (.cells #[.int .i64 k, .string r, .string u, .string v, .string t, .bool p, .bool o, .int .i64 s, .int .i64 z, .int .i64 c, .int .i64 m] 23)) = W at hT ⊢
  clear hW
  refine (hL.out _).mono ?_
  rintro e w1 ⟨rfl, hb1⟩
  replace hT := hT.later hb1
  clear hb1
  obtain ⟨d0, d1, d2, d3, d4, d5, d6, d7, d8, d9, d10⟩ := cells11 hT.2
  have HB := Lib.hid hT.1
  clear hT
  cases lb
  · go_wp2_with fail
    go_ret
    exact ⟨by rw [HM.out]; rfl, HB.out⟩
  · cases p
    all_goals
      go_wp2_with fail
      go_ret
      exact ⟨by rw [HM.out]; rfl, HB.out⟩

theorem few_def (e : Edu) : fewE e = ⟨e.kind, fewS e.room 40, fewS e.user 40, fewS e.event 40, fewS e.thread 40, e.priv, e.on, e.span, e.state, e.tick, e.stamp⟩ := rfl
set_option maxHeartbeats 800000 in
theorem refFew_any (e : Edu) (w : World) (hr : e.room.size ≤ maxLen) (hu : e.user.size ≤ maxLen) (hv : e.event.size ≤ maxLen) (ht : e.thread.size ≤ maxLen) : Calls Try.prog 9 #[e.val] w fun x w' => x = .returned (fewE e).val ∧ Below w.heap.size w w' := by
  have h1 := Lib.hid (fun w => few_any e.room 40 (by decide) w hr)
  have h2 := Lib.hid (fun w => few_any e.user 40 (by decide) w hu)
  have h3 := Lib.hid (fun w => few_any e.event 40 (by decide) w hv)
  have h4 := Lib.hid (fun w => few_any e.thread 40 (by decide) w ht)
  rw [few_def]
  clear hr hu hv ht
  obtain ⟨k, r, u, v, t, p, o, s, z, c, m⟩ := e
  simp only [Edu.val] at *
  generalize fewS r 40 = fr at *
  generalize fewS u 40 = fu at *
  generalize fewS v 40 = fv at *
  generalize fewS t 40 = ft at *
  have hB := Lib.hid (fun a b => show Below w.heap.size w ((w.alloc (.cells a 23)).alloc (.cells b 23)) from (at_two _ _ rfl).2.2.1)
  go_enter Try.func9, Try.ntmps9
  go_wp2_with fail
  refine (h1.out _).mono ?_
  rintro e wx ⟨rfl, rfl⟩
  go_wp2_with fail
  refine (h2.out _).mono ?_
  rintro e wx ⟨rfl, rfl⟩
  go_wp2_with fail
  refine (h3.out _).mono ?_
  rintro e wx ⟨rfl, rfl⟩
  go_wp2_with fail
  refine (h4.out _).mono ?_
  rintro e wx ⟨rfl, rfl⟩
  go_wp2_with fail
  refine bodyPost_ret (v := .agg #[.int .i64 k, .string fr, .string fu, .string fv, .string ft, .bool p, .bool o, .int .i64 s, .int .i64 z, .int .i64 c, .int .i64 m]) ?_ rfl ⟨rfl, hB.out _ _⟩
  simp [results, Try.results9, go_sem]

set_option maxHeartbeats 1600000 in
theorem refSame_any (a b : Edu) (w : World) : Calls Try.prog 23 #[a.val, b.val] w fun x w' => x = .returned (.bool (sameE a b)) ∧ Below w.heap.size w w' := by
  have HS := Lib.hid (show sameE a b = (decide (a.kind = b.kind) && (a.room == b.room) && (a.user == b.user) && (a.thread == b.thread) && (a.priv == b.priv)) from rfl)
  generalize sameE a b = se at *
  obtain ⟨k, r, u, v, t, p, o, s, z, c, m⟩ := a
  obtain ⟨k', r', u', v', t', p', o', s', z', c', m'⟩ := b
  simp only [Edu.val, beq_toListBytes] at *
  obtain ⟨e0, e1, hb, _⟩ := at_two (w := w) (.cells #[.int .i64 k, .string r, .string u, .string v, .string t, .bool p, .bool o, .int .i64 s, .int .i64 z, .int .i64 c, .int .i64 m] 23) (.cells #[.int .i64 k', .string r', .string u', .string v', .string t', .bool p', .bool o', .int .i64 s', .int .i64 z', .int .i64 c', .int .i64 m'] 23) rfl
  obtain ⟨d0, d1, d2, d3, d4, d5, d6, d7, d8, d9, d10⟩ := cells11 e0
  obtain ⟨f0, f1, f2, f3, f4, f5, f6, f7, f8, f9, f10⟩ := cells11 e1
  replace hb := Lib.hid hb
  clear e0 e1
  go_enter Try.func23, Try.ntmps23
  go_upto_region 1 with (fail)
  generalize hW : ((w.alloc (.cells #[.int .i64 k, .string r, .string u, .string v, .string t, .bool p, .bool o, .int .i64 s, .int .i64 z, .int .i64 c, .int .i64 m] 23)).alloc (.cells #[.int .i64 k', .string r', .string u', .string v', .string t', .bool p', .bool o', .int .i64 s', .int .i64 z', .int .i64 c', .int .i64 m'] 23)) = W at *
  clear hW
  go_wp2_with fail
  all_goals
    go_ret
    refine ⟨?_, hb.out⟩
    rw [HS.out]
    first | (simp [*]; done) | (simp [*]; rw [Bool.eq_iff_iff]; simp; done)

theorem public_def (e : Edu) : publicE e = { goodE e with priv := false } := rfl
set_option maxHeartbeats 1600000 in
theorem public_any (e : Edu) (w : World) (hf : e.fits) (hv : e.event.size ≤ maxLen) (ht : e.thread.size ≤ maxLen) :
    Calls Try.prog 19 #[e.val] w fun x w' => x = .returned (publicE e).val ∧ Below w.heap.size w w' := by
  have HG := Lib.hid (fun w => good_any e w hf hv ht)
  rw [public_def]
  clear hf hv ht
  generalize goodE e = ge at *
  obtain ⟨k', r', u', v', t', p', o', s', z', c', m'⟩ := e
  obtain ⟨k, r, u, v, t, p, o, s, z, c, m⟩ := ge
  simp only [Edu.val] at *
  go_enter Try.func19, Try.ntmps19
  go_wp2_with fail
  generalize hW : ((w.alloc (.cells #[.int .i64 k', .string r', .string u', .string v', .string t', .bool p', .bool o', .int .i64 s', .int .i64 z', .int .i64 c', .int .i64 m'] 23)).alloc (.cells #[.int .i64 0, .string ⟨#[]⟩, .string ⟨#[]⟩, .string ⟨#[]⟩, .string ⟨#[]⟩, .bool false, .bool false, .int .i64 0, .int .i64 0, .int .i64 0, .int .i64 0] 23)) = W
  have hT := two_new hW rfl
  clear hW
  refine (HG.out _).mono ?_
  rintro e w1 ⟨rfl, hb1⟩
  replace hT := hT.later hb1
  clear hb1 W
  go_upto_region 3 with (fail)
  have hnew := heap_alloc_new w1 (.cells #[.int .i64 k, .string r, .string u, .string v, .string t, .bool false, .bool o, .int .i64 s, .int .i64 z, .int .i64 c, .int .i64 m] 23)
  replace hT := hT.later (below_new w1 (.cells #[.int .i64 k, .string r, .string u, .string v, .string t, .bool false, .bool o, .int .i64 s, .int .i64 z, .int .i64 c, .int .i64 m] 23))
  generalize hW : (w1.alloc (.cells #[.int .i64 k, .string r, .string u, .string v, .string t, .bool false, .bool o, .int .i64 s, .int .i64 z, .int .i64 c, .int .i64 m] 23)) = W2 at *
  generalize hgg : w1.heap.size = g at *
  clear hW hgg
  obtain ⟨X, hX, hx3⟩ := hT.2.2
  have Hset := Lib.hid (setRow_heap _ _ _ #[.int .i64 k, .string r, .string u, .string v, .string t, .bool false, .bool o, .int .i64 s, .int .i64 z, .int .i64 c, .int .i64 m] _ _ hx3)
  have HB := Lib.hid (hT.set (new := #[.int .i64 k, .string r, .string u, .string v, .string t, .bool false, .bool o, .int .i64 s, .int .i64 z, .int .i64 c, .int .i64 m]) rfl).1
  replace hx3 := Lib.hid hx3
  obtain ⟨f0, f1, f2, f3, f4, f5, f6, f7, f8, f9, f10⟩ := cells11 hnew
  clear hT hnew
  go_wp2_with (refine wpList_store_row rfl 23 (.tmp 2) (.tmp 7) rfl (w.heap.size + 1) #[.int .i64 k, .string r, .string u, .string v, .string t, .bool false, .bool o, .int .i64 s, .int .i64 z, .int .i64 c, .int .i64 m] rfl rfl 23 X hx3.out edu_info (hX.trans rfl) (one11 _ _ _ _ _ _ _ _ _ _ _) ?_)
  generalize hW2 : World.setRow _ _ _ = W3 at Hset HB ⊢
  clear hW2 f0 f1 f2 f3 f4 f5 f6 f7 f8 f9 f10
  obtain ⟨d0, d1, d2, d3, d4, d5, d6, d7, d8, d9, d10⟩ := cells11 Hset.out
  go_wp2_with fail
  refine bodyPost_ret (v := .agg #[.int .i64 k, .string r, .string u, .string v, .string t, .bool false, .bool o, .int .i64 s, .int .i64 z, .int .i64 c, .int .i64 m]) ?_ rfl ⟨rfl, HB.out⟩
  simp [results, Try.results19, go_sem, d0, d1, d2, d3, d4, d5, d6, d7, d8, d9, d10]
end Go.Proofs.Ytahgkhcmchbpbaa
