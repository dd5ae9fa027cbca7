/-
  Which EDUs may be, and may be local, and the bytes of those that may be, is told as the document says: the statement EduMay, walked.
-/
import Derived.Test.YtahgkhcmchbpbaaLawKit
import Derived.Deep.CutBlock
namespace Go.Proofs.Ytahgkhcmchbpbaa
open Go.RowKit
set_option linter.unusedVariables false
set_option linter.unusedSimpArgs false
set_option maxRecDepth 4000

theorem fewE_short (e : Edu) : (fewE e).short := ⟨fewS_size _ 40, fewS_size _ 40, fewS_size _ 40, fewS_size _ 40⟩
theorem few_fits {e : Edu} (h : e.fits) : (fewE e).fits := h

theorem Keep.set0 {w w' : World} {l : List (Nat × Array Value × TypeId)} {g i : Nat} {cs : Array Value} {t : TypeId} {u : Value} (h : Keep w ((g, cs, t) :: l) [] w') (hw : w.heap.size ≤ g) (hne : ∀ p ∈ l, p.1 ≠ g) : Keep w ((g, cs.setIfInBounds i u, t) :: l) [] (w'.setCell ⟨g, i, none⟩ u) := by
  obtain ⟨h1, h2, h3⟩ := h
  refine ⟨h1.setCell hw _, fun p hp => ?_, fun _ hp => (List.not_mem_nil hp).elim⟩
  rcases List.mem_cons.1 hp with rfl | hp
  · exact heap_set (h2 _ (List.mem_cons_self ..)) i u
  · exact (Below.heap_setCell w' _ u _ (hne p hp)).trans (h2 p (List.mem_cons_of_mem _ hp))

set_option maxHeartbeats 12800000 in
theorem eduMay_walk (e : Edu) (n : Int) (w : World) (ef : e.fits) (e1 : e.room.size ≤ maxLen) (e2 : e.user.size ≤ maxLen) (e3 : e.event.size ≤ maxLen) (e4 : e.thread.size ≤ maxLen) (n0 : -9223372036854775808 ≤ n) (n1 : n ≤ 9223372036854775807) :
    Calls Try.prog 3 #[e.val, .int .i64 n] w fun x w' => x = .returned (.bool true) ∧ Below w.heap.size w w' := by
  have HF := Lib.hid (fun w => refFew_any e w e1 e2 e3 e4)
  have HG := Lib.hid (fun w => good_any e w ef e3 e4)
  have ffa := few_fits ef
  have sfa := fewE_short e
  have fga := local_fits (good_local e)
  have sga := local_short (good_local e)
  have HA := Lib.hid (fun w => around_any n 9 w n0 n1 (by decide) (by decide))
  have hbd := aroundI_bd n 9 (by decide)
  clear ef e1 e2 e3 e4 n0 n1
  generalize fewE e = r at *
  generalize goodE e = g at *
  generalize aroundI n 9 = k at *
  simp only [Edu.val] at *
  go_enter Try.func3, Try.ntmps3
  go_upto_region 1 with (fail)
  have HK : Keep w _ _ (w.alloc (.cells #[.int .i64 e.kind, .string e.room, .string e.user, .string e.event, .string e.thread, .bool e.priv, .bool e.on, .int .i64 e.span, .int .i64 e.state, .int .i64 e.tick, .int .i64 e.stamp] 23)) := ((Keep.refl w).new #[.int .i64 e.kind, .string e.room, .string e.user, .string e.event, .string e.thread, .bool e.priv, .bool e.on, .int .i64 e.span, .int .i64 e.state, .int .i64 e.tick, .int .i64 e.stamp] 23)
  try simp only [size_alloc1] at HK
  replace HK := Lib.hid (show Keep w [(w.heap.size, #[.int .i64 e.kind, .string e.room, .string e.user, .string e.event, .string e.thread, .bool e.priv, .bool e.on, .int .i64 e.span, .int .i64 e.state, .int .i64 e.tick, .int .i64 e.stamp], 23)] [] (w.alloc (.cells #[.int .i64 e.kind, .string e.room, .string e.user, .string e.event, .string e.thread, .bool e.priv, .bool e.on, .int .i64 e.span, .int .i64 e.state, .int .i64 e.tick, .int .i64 e.stamp] 23)) from HK)
  generalize hW : (w.alloc (.cells #[.int .i64 e.kind, .string e.room, .string e.user, .string e.event, .string e.thread, .bool e.priv, .bool e.on, .int .i64 e.span, .int .i64 e.state, .int .i64 e.tick, .int .i64 e.stamp] 23)) = W0 at HK ⊢
  clear hW
  obtain ⟨c0_0, c0_1, c0_2, c0_3, c0_4, c0_5, c0_6, c0_7, c0_8, c0_9, c0_10⟩ := cells11 (HK.out.st 0 rfl)
  go_wp2_with fail
  clear c0_0 c0_1 c0_2 c0_3 c0_4 c0_5 c0_6 c0_7 c0_8 c0_9 c0_10
  refine (HF.out _).mono ?_
  rintro e w1 ⟨rfl, hb⟩
  replace HK := Lib.hid (HK.out.later hb)
  clear hb
  go_upto_region 2 with (fail)
  replace HK := Lib.hid (HK.out.new #[.int .i64 r.kind, .string r.room, .string r.user, .string r.event, .string r.thread, .bool r.priv, .bool r.on, .int .i64 r.span, .int .i64 r.state, .int .i64 r.tick, .int .i64 r.stamp] 23)
  generalize hW : (w1.alloc (.cells #[.int .i64 r.kind, .string r.room, .string r.user, .string r.event, .string r.thread, .bool r.priv, .bool r.on, .int .i64 r.span, .int .i64 r.state, .int .i64 r.tick, .int .i64 r.stamp] 23)) = w2 at HK ⊢
  generalize hg : w1.heap.size = b2 at HK ⊢
  clear hW hg
  obtain ⟨c1_0, c1_1, c1_2, c1_3, c1_4, c1_5, c1_6, c1_7, c1_8, c1_9, c1_10⟩ := cells11 (HK.out.st 1 rfl)
  go_wp2_with fail
  clear c1_0 c1_1 c1_2 c1_3 c1_4 c1_5 c1_6 c1_7 c1_8 c1_9 c1_10
  refine (HG.out _).mono ?_
  rintro e w3 ⟨rfl, hb⟩
  replace HK := Lib.hid (HK.out.later hb)
  clear hb
  go_upto_region 3 with (fail)
  replace HK := Lib.hid (HK.out.new #[.int .i64 g.kind, .string g.room, .string g.user, .string g.event, .string g.thread, .bool g.priv, .bool g.on, .int .i64 g.span, .int .i64 g.state, .int .i64 g.tick, .int .i64 g.stamp] 23)
  generalize hW : (w3.alloc (.cells #[.int .i64 g.kind, .string g.room, .string g.user, .string g.event, .string g.thread, .bool g.priv, .bool g.on, .int .i64 g.span, .int .i64 g.state, .int .i64 g.tick, .int .i64 g.stamp] 23)) = w4 at HK ⊢
  generalize hg : w3.heap.size = b4 at HK ⊢
  clear hW hg
  obtain ⟨c0_0, c0_1, c0_2, c0_3, c0_4, c0_5, c0_6, c0_7, c0_8, c0_9, c0_10⟩ := cells11 (HK.out.st 0 rfl)
  go_upto_region 4 with (fail)
  clear c0_0 c0_1 c0_2 c0_3 c0_4 c0_5 c0_6 c0_7 c0_8 c0_9 c0_10
  have l2 := heap_lt (HK.out.st 0 rfl)
  have l1 := heap_lt (HK.out.st 1 rfl)
  have l0 := heap_lt (HK.out.st 2 rfl)
  simp only at l0 l1 l2
  replace HK := Lib.hid (HK.out.new #[.int .i64 g.kind, .string g.room, .string g.user, .string g.event, .string g.thread, .bool g.priv, .bool g.on, .int .i64 g.span, .int .i64 g.state, .int .i64 g.tick, .int .i64 g.stamp] 23)
  generalize hW : (w4.alloc (.cells #[.int .i64 g.kind, .string g.room, .string g.user, .string g.event, .string g.thread, .bool g.priv, .bool g.on, .int .i64 g.span, .int .i64 g.state, .int .i64 g.tick, .int .i64 g.stamp] 23)) = w5 at HK ⊢
  generalize hg : w4.heap.size = b5 at HK l0 l1 l2 ⊢
  clear hW hg
  go_wp2_with fail
  refine (HA.out _).mono ?_
  rintro e wz ⟨rfl, rfl⟩
  go_upto_block 0 with (fail)
  go_cut [26] from 20 to 65 (fun s26 wx => ∃ od : Edu, od.fits ∧ od.short ∧ Hid (Keep w ((b5, #[.int .i64 od.kind, .string od.room, .string od.user, .string od.event, .string od.thread, .bool od.priv, .bool od.on, .int .i64 od.span, .int .i64 od.state, .int .i64 od.tick, .int .i64 od.stamp], 23) :: [(b4, #[.int .i64 g.kind, .string g.room, .string g.user, .string g.event, .string g.thread, .bool g.priv, .bool g.on, .int .i64 g.span, .int .i64 g.state, .int .i64 g.tick, .int .i64 g.stamp], 23), (b2, #[.int .i64 r.kind, .string r.room, .string r.user, .string r.event, .string r.thread, .bool r.priv, .bool r.on, .int .i64 r.span, .int .i64 r.state, .int .i64 r.tick, .int .i64 r.stamp], 23), (w.heap.size, #[.int .i64 e.kind, .string e.room, .string e.user, .string e.event, .string e.thread, .bool e.priv, .bool e.on, .int .i64 e.span, .int .i64 e.state, .int .i64 e.tick, .int .i64 e.stamp], 23)]) [] wx))
  case first =>
    have hne : ∀ p ∈ ([(b4, #[.int .i64 g.kind, .string g.room, .string g.user, .string g.event, .string g.thread, .bool g.priv, .bool g.on, .int .i64 g.span, .int .i64 g.state, .int .i64 g.tick, .int .i64 g.stamp], 23), (b2, #[.int .i64 r.kind, .string r.room, .string r.user, .string r.event, .string r.thread, .bool r.priv, .bool r.on, .int .i64 r.span, .int .i64 r.state, .int .i64 r.tick, .int .i64 r.stamp], 23), (w.heap.size, #[.int .i64 e.kind, .string e.room, .string e.user, .string e.event, .string e.thread, .bool e.priv, .bool e.on, .int .i64 e.span, .int .i64 e.state, .int .i64 e.tick, .int .i64 e.stamp], 23)] : List (Nat × Array Value × TypeId)), p.1 ≠ b5 := by
      intro p hp
      simp only [List.mem_cons, List.not_mem_nil, or_false] at hp
      rcases hp with rfl | rfl | rfl <;> (simp only; omega)
    have HN := Lib.hid hne
    clear hne
    rcases (show k = 0 ∨ k = 1 ∨ k = 2 ∨ k = 3 ∨ k = 4 ∨ k = 5 ∨ k = 6 ∨ k = 7 ∨ k = 8 by omega) with rfl | rfl | rfl | rfl | rfl | rfl | rfl | rfl | rfl
    · obtain ⟨c0_0, c0_1, c0_2, c0_3, c0_4, c0_5, c0_6, c0_7, c0_8, c0_9, c0_10⟩ := cells11 (HK.out.st 0 rfl)
      obtain ⟨c2_0, c2_1, c2_2, c2_3, c2_4, c2_5, c2_6, c2_7, c2_8, c2_9, c2_10⟩ := cells11 (HK.out.st 2 rfl)
      have fr_kind := free_at (HK.out.st 0 rfl) 0
      go_wp2_with fail
      go_meet
      exact ⟨{ g with kind := r.kind }, ⟨ffa.1, fga.2⟩, sga, Lib.hid (HK.out.set0 (i := 0) (u := .int .i64 r.kind) (by omega) HN.out)⟩
    · obtain ⟨c0_0, c0_1, c0_2, c0_3, c0_4, c0_5, c0_6, c0_7, c0_8, c0_9, c0_10⟩ := cells11 (HK.out.st 0 rfl)
      obtain ⟨c2_0, c2_1, c2_2, c2_3, c2_4, c2_5, c2_6, c2_7, c2_8, c2_9, c2_10⟩ := cells11 (HK.out.st 2 rfl)
      have fr_room := free_at (HK.out.st 0 rfl) 1
      go_wp2_with fail
      go_meet
      exact ⟨{ g with room := r.room }, fga, ⟨sfa.1, sga.2⟩, Lib.hid (HK.out.set0 (i := 1) (u := .string r.room) (by omega) HN.out)⟩
    · obtain ⟨c0_0, c0_1, c0_2, c0_3, c0_4, c0_5, c0_6, c0_7, c0_8, c0_9, c0_10⟩ := cells11 (HK.out.st 0 rfl)
      obtain ⟨c2_0, c2_1, c2_2, c2_3, c2_4, c2_5, c2_6, c2_7, c2_8, c2_9, c2_10⟩ := cells11 (HK.out.st 2 rfl)
      have fr_user := free_at (HK.out.st 0 rfl) 2
      go_wp2_with fail
      go_meet
      exact ⟨{ g with user := r.user }, fga, ⟨sga.1, sfa.2.1, sga.2.2⟩, Lib.hid (HK.out.set0 (i := 2) (u := .string r.user) (by omega) HN.out)⟩
    · obtain ⟨c0_0, c0_1, c0_2, c0_3, c0_4, c0_5, c0_6, c0_7, c0_8, c0_9, c0_10⟩ := cells11 (HK.out.st 0 rfl)
      obtain ⟨c2_0, c2_1, c2_2, c2_3, c2_4, c2_5, c2_6, c2_7, c2_8, c2_9, c2_10⟩ := cells11 (HK.out.st 2 rfl)
      have fr_event := free_at (HK.out.st 0 rfl) 3
      go_wp2_with fail
      go_meet
      exact ⟨{ g with event := r.event }, fga, ⟨sga.1, sga.2.1, sfa.2.2.1, sga.2.2.2⟩, Lib.hid (HK.out.set0 (i := 3) (u := .string r.event) (by omega) HN.out)⟩
    · obtain ⟨c0_0, c0_1, c0_2, c0_3, c0_4, c0_5, c0_6, c0_7, c0_8, c0_9, c0_10⟩ := cells11 (HK.out.st 0 rfl)
      obtain ⟨c2_0, c2_1, c2_2, c2_3, c2_4, c2_5, c2_6, c2_7, c2_8, c2_9, c2_10⟩ := cells11 (HK.out.st 2 rfl)
      have fr_thread := free_at (HK.out.st 0 rfl) 4
      go_wp2_with fail
      go_meet
      exact ⟨{ g with thread := r.thread }, fga, ⟨sga.1, sga.2.1, sga.2.2.1, sfa.2.2.2⟩, Lib.hid (HK.out.set0 (i := 4) (u := .string r.thread) (by omega) HN.out)⟩
    · obtain ⟨c0_0, c0_1, c0_2, c0_3, c0_4, c0_5, c0_6, c0_7, c0_8, c0_9, c0_10⟩ := cells11 (HK.out.st 0 rfl)
      obtain ⟨c2_0, c2_1, c2_2, c2_3, c2_4, c2_5, c2_6, c2_7, c2_8, c2_9, c2_10⟩ := cells11 (HK.out.st 2 rfl)
      have fr_on := free_at (HK.out.st 0 rfl) 6
      go_wp2_with fail
      go_meet
      exact ⟨{ g with on := r.on }, fga, sga, Lib.hid (HK.out.set0 (i := 6) (u := .bool r.on) (by omega) HN.out)⟩
    · obtain ⟨c0_0, c0_1, c0_2, c0_3, c0_4, c0_5, c0_6, c0_7, c0_8, c0_9, c0_10⟩ := cells11 (HK.out.st 0 rfl)
      obtain ⟨c2_0, c2_1, c2_2, c2_3, c2_4, c2_5, c2_6, c2_7, c2_8, c2_9, c2_10⟩ := cells11 (HK.out.st 2 rfl)
      have fr_span := free_at (HK.out.st 0 rfl) 7
      go_wp2_with fail
      go_meet
      exact ⟨{ g with span := r.span }, ⟨fga.1, ffa.2.1, fga.2.2⟩, sga, Lib.hid (HK.out.set0 (i := 7) (u := .int .i64 r.span) (by omega) HN.out)⟩
    · obtain ⟨c0_0, c0_1, c0_2, c0_3, c0_4, c0_5, c0_6, c0_7, c0_8, c0_9, c0_10⟩ := cells11 (HK.out.st 0 rfl)
      obtain ⟨c2_0, c2_1, c2_2, c2_3, c2_4, c2_5, c2_6, c2_7, c2_8, c2_9, c2_10⟩ := cells11 (HK.out.st 2 rfl)
      have fr_state := free_at (HK.out.st 0 rfl) 8
      go_wp2_with fail
      go_meet
      exact ⟨{ g with state := r.state }, ⟨fga.1, fga.2.1, ffa.2.2.1, fga.2.2.2⟩, sga, Lib.hid (HK.out.set0 (i := 8) (u := .int .i64 r.state) (by omega) HN.out)⟩
    · obtain ⟨c0_0, c0_1, c0_2, c0_3, c0_4, c0_5, c0_6, c0_7, c0_8, c0_9, c0_10⟩ := cells11 (HK.out.st 0 rfl)
      obtain ⟨c2_0, c2_1, c2_2, c2_3, c2_4, c2_5, c2_6, c2_7, c2_8, c2_9, c2_10⟩ := cells11 (HK.out.st 2 rfl)
      have fr_tick := free_at (HK.out.st 0 rfl) 9
      have fr_stamp := free_at (HK.out.st 0 rfl) 10
      go_wp2_with fail
      go_meet
      exact ⟨{ g with tick := r.tick, stamp := r.stamp }, ⟨fga.1, fga.2.1, fga.2.2.1, ffa.2.2.2⟩, sga, Lib.hid ((HK.out.set0 (i := 9) (u := .int .i64 r.tick) (by omega) HN.out).set0 (i := 10) (u := .int .i64 r.stamp) (by omega) HN.out)⟩
  case rest =>
    obtain ⟨od, fod, sod, HK⟩ := hcut
    clear hbd l0 l1 l2 HA HF HG
    obtain ⟨x1, x2, x3, x4⟩ := short_max sfa
    have HMr := Lib.hid (fun w => refMay_any r w x1 x2 x3 x4)
    have HLr := Lib.hid (fun w => refLocal_any r w x1 x2 x3 x4)
    have Hmr := Lib.hid (fun w => may_any r w x1 x2 x3 x4)
    have Hlr := Lib.hid (fun w => local_any r w x1 x2 x3 x4)
    have HYr := Lib.hid (fun h w => write_yes r w ffa sfa h)
    have HNr := Lib.hid (fun h w => write_no r w sfa h)
    have HBr := Lib.hid (fun w => refBytes_any r w ffa sfa)
    clear x1 x2 x3 x4 ffa sfa
    generalize mayB r = mr at *
    generalize localB r = lr at *
    generalize bytesB r = yr at *
    obtain ⟨x1, x2, x3, x4⟩ := short_max sga
    have HMg := Lib.hid (fun w => refMay_any g w x1 x2 x3 x4)
    have HLg := Lib.hid (fun w => refLocal_any g w x1 x2 x3 x4)
    have Hmg := Lib.hid (fun w => may_any g w x1 x2 x3 x4)
    have Hlg := Lib.hid (fun w => local_any g w x1 x2 x3 x4)
    have HYg := Lib.hid (fun h w => write_yes g w fga sga h)
    have HNg := Lib.hid (fun h w => write_no g w sga h)
    have HBg := Lib.hid (fun w => refBytes_any g w fga sga)
    clear x1 x2 x3 x4 fga sga
    generalize mayB g = mg at *
    generalize localB g = lg at *
    generalize bytesB g = yg at *
    obtain ⟨x1, x2, x3, x4⟩ := short_max sod
    have HMod := Lib.hid (fun w => refMay_any od w x1 x2 x3 x4)
    have HLod := Lib.hid (fun w => refLocal_any od w x1 x2 x3 x4)
    have Hmod := Lib.hid (fun w => may_any od w x1 x2 x3 x4)
    have Hlod := Lib.hid (fun w => local_any od w x1 x2 x3 x4)
    have HYod := Lib.hid (fun h w => write_yes od w fod sod h)
    have HNod := Lib.hid (fun h w => write_no od w sod h)
    have HBod := Lib.hid (fun w => refBytes_any od w fod sod)
    clear x1 x2 x3 x4 fod sod
    generalize mayB od = mod at *
    generalize localB od = lod at *
    generalize bytesB od = yod at *
    unfold BoolPost at *
    simp only [Edu.val] at *
    obtain ⟨c0_0, c0_1, c0_2, c0_3, c0_4, c0_5, c0_6, c0_7, c0_8, c0_9, c0_10⟩ := cells11 (HK.out.st 0 rfl)
    obtain ⟨c1_0, c1_1, c1_2, c1_3, c1_4, c1_5, c1_6, c1_7, c1_8, c1_9, c1_10⟩ := cells11 (HK.out.st 1 rfl)
    obtain ⟨c2_0, c2_1, c2_2, c2_3, c2_4, c2_5, c2_6, c2_7, c2_8, c2_9, c2_10⟩ := cells11 (HK.out.st 2 rfl)
    go_upto_region 24 with (fail)
    clear c0_0 c0_1 c0_2 c0_3 c0_4 c0_5 c0_6 c0_7 c0_8 c0_9 c0_10 c1_0 c1_1 c1_2 c1_3 c1_4 c1_5 c1_6 c1_7 c1_8 c1_9 c1_10 c2_0 c2_1 c2_2 c2_3 c2_4 c2_5 c2_6 c2_7 c2_8 c2_9 c2_10
    replace HK := Lib.hid (HK.out.new #[.int .i64 r.kind, .string r.room, .string r.user, .string r.event, .string r.thread, .bool r.priv, .bool r.on, .int .i64 r.span, .int .i64 r.state, .int .i64 r.tick, .int .i64 r.stamp, .int .i64 g.kind, .string g.room, .string g.user, .string g.event, .string g.thread, .bool g.priv, .bool g.on, .int .i64 g.span, .int .i64 g.state, .int .i64 g.tick, .int .i64 g.stamp, .int .i64 od.kind, .string od.room, .string od.user, .string od.event, .string od.thread, .bool od.priv, .bool od.on, .int .i64 od.span, .int .i64 od.state, .int .i64 od.tick, .int .i64 od.stamp] 23)
    generalize hW : (wc.alloc (.cells #[.int .i64 r.kind, .string r.room, .string r.user, .string r.event, .string r.thread, .bool r.priv, .bool r.on, .int .i64 r.span, .int .i64 r.state, .int .i64 r.tick, .int .i64 r.stamp, .int .i64 g.kind, .string g.room, .string g.user, .string g.event, .string g.thread, .bool g.priv, .bool g.on, .int .i64 g.span, .int .i64 g.state, .int .i64 g.tick, .int .i64 g.stamp, .int .i64 od.kind, .string od.room, .string od.user, .string od.event, .string od.thread, .bool od.priv, .bool od.on, .int .i64 od.span, .int .i64 od.state, .int .i64 od.tick, .int .i64 od.stamp] 23)) = w1 at HK ⊢
    generalize hg : wc.heap.size = b1 at HK ⊢
    clear hW hg
    go_wp2_with fail
    go_loopw [9] (fun i wr => ∃ j : Nat, j ≤ 3 ∧ i = .int .i64 (j : Int) ∧ Hid (Keep w [(b1, #[.int .i64 r.kind, .string r.room, .string r.user, .string r.event, .string r.thread, .bool r.priv, .bool r.on, .int .i64 r.span, .int .i64 r.state, .int .i64 r.tick, .int .i64 r.stamp, .int .i64 g.kind, .string g.room, .string g.user, .string g.event, .string g.thread, .bool g.priv, .bool g.on, .int .i64 g.span, .int .i64 g.state, .int .i64 g.tick, .int .i64 g.stamp, .int .i64 od.kind, .string od.room, .string od.user, .string od.event, .string od.thread, .bool od.priv, .bool od.on, .int .i64 od.span, .int .i64 od.state, .int .i64 od.tick, .int .i64 od.stamp], 23), (b5, #[.int .i64 od.kind, .string od.room, .string od.user, .string od.event, .string od.thread, .bool od.priv, .bool od.on, .int .i64 od.span, .int .i64 od.state, .int .i64 od.tick, .int .i64 od.stamp], 23), (b4, #[.int .i64 g.kind, .string g.room, .string g.user, .string g.event, .string g.thread, .bool g.priv, .bool g.on, .int .i64 g.span, .int .i64 g.state, .int .i64 g.tick, .int .i64 g.stamp], 23), (b2, #[.int .i64 r.kind, .string r.room, .string r.user, .string r.event, .string r.thread, .bool r.priv, .bool r.on, .int .i64 r.span, .int .i64 r.state, .int .i64 r.tick, .int .i64 r.stamp], 23), (w.heap.size, #[.int .i64 e.kind, .string e.room, .string e.user, .string e.event, .string e.thread, .bool e.priv, .bool e.on, .int .i64 e.span, .int .i64 e.state, .int .i64 e.tick, .int .i64 e.stamp], 23)] [] wr)) (fun i _ => 3 - (intOf i).toNat)
    case atStart => exact ⟨0, by omega, rfl, HK⟩
    case round =>
      obtain ⟨j, hj, rfl, HK⟩ := hrel
      rcases (show j = 0 ∨ j = 1 ∨ j = 2 ∨ j = 3 by omega) with rfl | rfl | rfl | rfl
      · have e0_0 : World.cell? _ ⟨b1, 0, none⟩ = some (.int .i64 r.kind) := cell_at (HK.out.st 0 rfl) 0
        have e0_1 : World.cell? _ ⟨b1, 1, none⟩ = some (.string r.room) := cell_at (HK.out.st 0 rfl) 1
        have e0_2 : World.cell? _ ⟨b1, 2, none⟩ = some (.string r.user) := cell_at (HK.out.st 0 rfl) 2
        have e0_3 : World.cell? _ ⟨b1, 3, none⟩ = some (.string r.event) := cell_at (HK.out.st 0 rfl) 3
        have e0_4 : World.cell? _ ⟨b1, 4, none⟩ = some (.string r.thread) := cell_at (HK.out.st 0 rfl) 4
        have e0_5 : World.cell? _ ⟨b1, 5, none⟩ = some (.bool r.priv) := cell_at (HK.out.st 0 rfl) 5
        have e0_6 : World.cell? _ ⟨b1, 6, none⟩ = some (.bool r.on) := cell_at (HK.out.st 0 rfl) 6
        have e0_7 : World.cell? _ ⟨b1, 7, none⟩ = some (.int .i64 r.span) := cell_at (HK.out.st 0 rfl) 7
        have e0_8 : World.cell? _ ⟨b1, 8, none⟩ = some (.int .i64 r.state) := cell_at (HK.out.st 0 rfl) 8
        have e0_9 : World.cell? _ ⟨b1, 9, none⟩ = some (.int .i64 r.tick) := cell_at (HK.out.st 0 rfl) 9
        have e0_10 : World.cell? _ ⟨b1, 10, none⟩ = some (.int .i64 r.stamp) := cell_at (HK.out.st 0 rfl) 10
        go_wp2_with fail
        clear e0_0 e0_1 e0_2 e0_3 e0_4 e0_5 e0_6 e0_7 e0_8 e0_9 e0_10
        refine (HMr.out _).mono ?_
        rintro e w2 ⟨rfl, hb⟩
        replace HK := Lib.hid (HK.out.later hb)
        clear hb
        cases mr
        · have e0_0 : World.cell? _ ⟨b1, 0, none⟩ = some (.int .i64 r.kind) := cell_at (HK.out.st 0 rfl) 0
          have e0_1 : World.cell? _ ⟨b1, 1, none⟩ = some (.string r.room) := cell_at (HK.out.st 0 rfl) 1
          have e0_2 : World.cell? _ ⟨b1, 2, none⟩ = some (.string r.user) := cell_at (HK.out.st 0 rfl) 2
          have e0_3 : World.cell? _ ⟨b1, 3, none⟩ = some (.string r.event) := cell_at (HK.out.st 0 rfl) 3
          have e0_4 : World.cell? _ ⟨b1, 4, none⟩ = some (.string r.thread) := cell_at (HK.out.st 0 rfl) 4
          have e0_5 : World.cell? _ ⟨b1, 5, none⟩ = some (.bool r.priv) := cell_at (HK.out.st 0 rfl) 5
          have e0_6 : World.cell? _ ⟨b1, 6, none⟩ = some (.bool r.on) := cell_at (HK.out.st 0 rfl) 6
          have e0_7 : World.cell? _ ⟨b1, 7, none⟩ = some (.int .i64 r.span) := cell_at (HK.out.st 0 rfl) 7
          have e0_8 : World.cell? _ ⟨b1, 8, none⟩ = some (.int .i64 r.state) := cell_at (HK.out.st 0 rfl) 8
          have e0_9 : World.cell? _ ⟨b1, 9, none⟩ = some (.int .i64 r.tick) := cell_at (HK.out.st 0 rfl) 9
          have e0_10 : World.cell? _ ⟨b1, 10, none⟩ = some (.int .i64 r.stamp) := cell_at (HK.out.st 0 rfl) 10
          go_wp2_with fail
          clear e0_0 e0_1 e0_2 e0_3 e0_4 e0_5 e0_6 e0_7 e0_8 e0_9 e0_10
          refine (HNr.out (by first | trivial | rfl) _).mono ?_
          rintro e w3 ⟨rfl, hb⟩
          replace HK := Lib.hid (HK.out.later hb)
          clear hb
          go_upto_region 29 with (fail)
          refine wp_region_held_drew (S := fun w' => Keep w [(b1, #[.int .i64 r.kind, .string r.room, .string r.user, .string r.event, .string r.thread, .bool r.priv, .bool r.on, .int .i64 r.span, .int .i64 r.state, .int .i64 r.tick, .int .i64 r.stamp, .int .i64 g.kind, .string g.room, .string g.user, .string g.event, .string g.thread, .bool g.priv, .bool g.on, .int .i64 g.span, .int .i64 g.state, .int .i64 g.tick, .int .i64 g.stamp, .int .i64 od.kind, .string od.room, .string od.user, .string od.event, .string od.thread, .bool od.priv, .bool od.on, .int .i64 od.span, .int .i64 od.state, .int .i64 od.tick, .int .i64 od.stamp], 23), (b5, #[.int .i64 od.kind, .string od.room, .string od.user, .string od.event, .string od.thread, .bool od.priv, .bool od.on, .int .i64 od.span, .int .i64 od.state, .int .i64 od.tick, .int .i64 od.stamp], 23), (b4, #[.int .i64 g.kind, .string g.room, .string g.user, .string g.event, .string g.thread, .bool g.priv, .bool g.on, .int .i64 g.span, .int .i64 g.state, .int .i64 g.tick, .int .i64 g.stamp], 23), (b2, #[.int .i64 r.kind, .string r.room, .string r.user, .string r.event, .string r.thread, .bool r.priv, .bool r.on, .int .i64 r.span, .int .i64 r.state, .int .i64 r.tick, .int .i64 r.stamp], 23), (w.heap.size, #[.int .i64 e.kind, .string e.room, .string e.user, .string e.event, .string e.thread, .bool e.priv, .bool e.on, .int .i64 e.span, .int .i64 e.state, .int .i64 e.tick, .int .i64 e.stamp], 23)] [] w') (by kernel_rfl) HK.out.drew (fun hHeld => ?_)
          generalize hwd : w3.drew = wd at hHeld ⊢
          clear HK hwd
          refine wpAnyH_take (i := 0) (oi := ⟨some 87, _, _, _, _, _⟩) (v := ?vafu0) rfl (by kernel_rfl) (by kernel_rfl) (by kernel_rfl) (fun _ _ _ h => h) (Or.inl ⟨by rfl, ?yafu0⟩) hHeld ?rafu0
          case yafu0 =>
            intro wx hSx
            go_simp
            try with_reducible rfl
          try simp only [Act.put, List.setIfInBounds_toArray, List.set_cons_zero, List.set_cons_succ]
          refine wpAnyH_take (i := 1) (oi := ⟨some 88, _, _, _, _, _⟩) (v := ?vafu1) rfl (by kernel_rfl) (by kernel_rfl) (by kernel_rfl) (fun _ _ _ h => h) (Or.inl ⟨by rfl, ?yafu1⟩) hHeld ?rafu1
          case yafu1 =>
            intro wx hSx
            go_simp
            try with_reducible rfl
          try simp only [Act.put, List.setIfInBounds_toArray, List.set_cons_zero, List.set_cons_succ]
          refine wpAnyH_take (i := 2) (oi := ⟨some 89, _, _, _, _, _⟩) (v := ?vafu2) rfl (by kernel_rfl) (by kernel_rfl) (by kernel_rfl) (fun _ _ _ h => h) (Or.inl ⟨by rfl, ?yafu2⟩) hHeld ?rafu2
          case yafu2 =>
            intro wx hSx
            go_simp
            try with_reducible rfl
          try simp only [Act.put, List.setIfInBounds_toArray, List.set_cons_zero, List.set_cons_succ]
          refine wpAnyH_take (i := 3) (oi := ⟨some 90, _, _, _, _, _⟩) (v := ?vafu3) rfl (by kernel_rfl) (by kernel_rfl) (by kernel_rfl) (fun _ _ _ h => h) (Or.inl ⟨by rfl, ?yafu3⟩) hHeld ?rafu3
          case yafu3 =>
            intro wx hSx
            have e0 : World.cell? _ ⟨b1, 0, none⟩ = some (.int .i64 r.kind) := cell_at (hSx.st 0 rfl) 0
            have e1 : World.cell? _ ⟨b1, 1, none⟩ = some (.string r.room) := cell_at (hSx.st 0 rfl) 1
            have e2 : World.cell? _ ⟨b1, 2, none⟩ = some (.string r.user) := cell_at (hSx.st 0 rfl) 2
            have e3 : World.cell? _ ⟨b1, 3, none⟩ = some (.string r.event) := cell_at (hSx.st 0 rfl) 3
            have e4 : World.cell? _ ⟨b1, 4, none⟩ = some (.string r.thread) := cell_at (hSx.st 0 rfl) 4
            have e5 : World.cell? _ ⟨b1, 5, none⟩ = some (.bool r.priv) := cell_at (hSx.st 0 rfl) 5
            have e6 : World.cell? _ ⟨b1, 6, none⟩ = some (.bool r.on) := cell_at (hSx.st 0 rfl) 6
            have e7 : World.cell? _ ⟨b1, 7, none⟩ = some (.int .i64 r.span) := cell_at (hSx.st 0 rfl) 7
            have e8 : World.cell? _ ⟨b1, 8, none⟩ = some (.int .i64 r.state) := cell_at (hSx.st 0 rfl) 8
            have e9 : World.cell? _ ⟨b1, 9, none⟩ = some (.int .i64 r.tick) := cell_at (hSx.st 0 rfl) 9
            have e10 : World.cell? _ ⟨b1, 10, none⟩ = some (.int .i64 r.stamp) := cell_at (hSx.st 0 rfl) 10
            go_simp
            try with_reducible rfl
          try simp only [Act.put, List.setIfInBounds_toArray, List.set_cons_zero, List.set_cons_succ]
          refine wpAnyH_take (i := 5) (oi := ⟨some 92, _, _, _, _, _⟩) (v := ?vafu5) rfl (by kernel_rfl) (by kernel_rfl) (by kernel_rfl) (fun _ _ _ h => h) (Or.inl ⟨by rfl, ?yafu5⟩) hHeld ?rafu5
          case yafu5 =>
            intro wx hSx
            go_simp
            try with_reducible rfl
          try simp only [Act.put, List.setIfInBounds_toArray, List.set_cons_zero, List.set_cons_succ]
          refine wpAnyH_ready (rs := [4]) (by kernel_rfl) (by simp) ?_
          refine AllReadyH.cons (o := ⟨some 91, _, _, _, _, _⟩) rfl (fun K hK => ?_) AllReadyH.nil
          go_simp
          refine (Hmr.out _).mono ?_
          rintro e wnafu4 ⟨rfl, hbn⟩
          replace hHeld := hHeld.later hbn
          refine hK.out _ _ hHeld (fun _ => ?_)
          clear hK K hbn
          try simp only [Act.put, List.setIfInBounds_toArray, List.set_cons_zero, List.set_cons_succ]
          refine wpAnyH_take (i := 6) (oi := ⟨some 93, _, _, _, _, _⟩) (v := ?vafu6) rfl (by kernel_rfl) (by kernel_rfl) (by kernel_rfl) (fun _ _ _ h => h) (Or.inl ⟨by rfl, ?yafu6⟩) hHeld ?rafu6
          case yafu6 =>
            intro wx hSx
            go_simp
            try with_reducible rfl
          try simp only [Act.put, List.setIfInBounds_toArray, List.set_cons_zero, List.set_cons_succ]
          refine wpAnyH_take (i := 7) (oi := ⟨some 94, _, _, _, _, _⟩) (v := ?vafu7) rfl (by kernel_rfl) (by kernel_rfl) (by kernel_rfl) (fun _ _ _ h => h) (Or.inl ⟨by rfl, ?yafu7⟩) hHeld ?rafu7
          case yafu7 =>
            intro wx hSx
            go_simp
            try with_reducible rfl
          try simp only [Act.put, List.setIfInBounds_toArray, List.set_cons_zero, List.set_cons_succ]
          refine wpAnyH_take (i := 8) (oi := ⟨some 95, _, _, _, _, _⟩) (v := ?vafu8) rfl (by kernel_rfl) (by kernel_rfl) (by kernel_rfl) (fun _ _ _ h => h) (Or.inl ⟨by rfl, ?yafu8⟩) hHeld ?rafu8
          case yafu8 =>
            intro wx hSx
            go_simp
            try with_reducible rfl
          try simp only [Act.put, List.setIfInBounds_toArray, List.set_cons_zero, List.set_cons_succ]
          refine wpAnyH_take (i := 9) (oi := ⟨some 96, _, _, _, _, _⟩) (v := ?vafu9) rfl (by kernel_rfl) (by kernel_rfl) (by kernel_rfl) (fun _ _ _ h => h) (Or.inl ⟨by rfl, ?yafu9⟩) hHeld ?rafu9
          case yafu9 =>
            intro wx hSx
            go_simp
            try with_reducible rfl
          try simp only [Act.put, List.setIfInBounds_toArray, List.set_cons_zero, List.set_cons_succ]
          refine wpAnyH_take (i := 10) (oi := ⟨some 97, _, _, _, _, _⟩) (v := ?vafu10) rfl (by kernel_rfl) (by kernel_rfl) (by kernel_rfl) (fun _ _ _ h => h) (Or.inl ⟨by rfl, ?yafu10⟩) hHeld ?rafu10
          case yafu10 =>
            intro wx hSx
            go_simp
            try with_reducible rfl
          try simp only [Act.put, List.setIfInBounds_toArray, List.set_cons_zero, List.set_cons_succ]
          refine wpAnyH_take (i := 11) (oi := ⟨some 98, _, _, _, _, _⟩) (v := ?vafu11) rfl (by kernel_rfl) (by kernel_rfl) (by kernel_rfl) (fun _ _ _ h => h) (Or.inl ⟨by rfl, ?yafu11⟩) hHeld ?rafu11
          case yafu11 =>
            intro wx hSx
            have e0 : World.cell? _ ⟨b1, 0, none⟩ = some (.int .i64 r.kind) := cell_at (hSx.st 0 rfl) 0
            have e1 : World.cell? _ ⟨b1, 1, none⟩ = some (.string r.room) := cell_at (hSx.st 0 rfl) 1
            have e2 : World.cell? _ ⟨b1, 2, none⟩ = some (.string r.user) := cell_at (hSx.st 0 rfl) 2
            have e3 : World.cell? _ ⟨b1, 3, none⟩ = some (.string r.event) := cell_at (hSx.st 0 rfl) 3
            have e4 : World.cell? _ ⟨b1, 4, none⟩ = some (.string r.thread) := cell_at (hSx.st 0 rfl) 4
            have e5 : World.cell? _ ⟨b1, 5, none⟩ = some (.bool r.priv) := cell_at (hSx.st 0 rfl) 5
            have e6 : World.cell? _ ⟨b1, 6, none⟩ = some (.bool r.on) := cell_at (hSx.st 0 rfl) 6
            have e7 : World.cell? _ ⟨b1, 7, none⟩ = some (.int .i64 r.span) := cell_at (hSx.st 0 rfl) 7
            have e8 : World.cell? _ ⟨b1, 8, none⟩ = some (.int .i64 r.state) := cell_at (hSx.st 0 rfl) 8
            have e9 : World.cell? _ ⟨b1, 9, none⟩ = some (.int .i64 r.tick) := cell_at (hSx.st 0 rfl) 9
            have e10 : World.cell? _ ⟨b1, 10, none⟩ = some (.int .i64 r.stamp) := cell_at (hSx.st 0 rfl) 10
            go_simp
            try with_reducible rfl
          try simp only [Act.put, List.setIfInBounds_toArray, List.set_cons_zero, List.set_cons_succ]
          refine wpAnyH_take (i := 13) (oi := ⟨some 100, _, _, _, _, _⟩) (v := ?vafu13) rfl (by kernel_rfl) (by kernel_rfl) (by kernel_rfl) (fun _ _ _ h => h) (Or.inl ⟨by rfl, ?yafu13⟩) hHeld ?rafu13
          case yafu13 =>
            intro wx hSx
            go_simp
            try with_reducible rfl
          try simp only [Act.put, List.setIfInBounds_toArray, List.set_cons_zero, List.set_cons_succ]
          refine wpAnyH_take (i := 14) (oi := ⟨some 101, _, _, _, _, _⟩) (v := ?vafu14) rfl (by kernel_rfl) (by kernel_rfl) (by kernel_rfl) (fun _ _ _ h => h) (Or.inl ⟨by rfl, ?yafu14⟩) hHeld ?rafu14
          case yafu14 =>
            intro wx hSx
            go_simp
            try with_reducible rfl
          try simp only [Act.put, List.setIfInBounds_toArray, List.set_cons_zero, List.set_cons_succ]
          refine wpAnyH_take (i := 15) (oi := ⟨some 102, _, _, _, _, _⟩) (v := ?vafu15) rfl (by kernel_rfl) (by kernel_rfl) (by kernel_rfl) (fun _ _ _ h => h) (Or.inl ⟨by rfl, ?yafu15⟩) hHeld ?rafu15
          case yafu15 =>
            intro wx hSx
            go_simp
            try with_reducible rfl
          try simp only [Act.put, List.setIfInBounds_toArray, List.set_cons_zero, List.set_cons_succ]
          refine wpAnyH_take (i := 16) (oi := ⟨some 103, _, _, _, _, _⟩) (v := ?vafu16) rfl (by kernel_rfl) (by kernel_rfl) (by kernel_rfl) (fun _ _ _ h => h) (Or.inl ⟨by rfl, ?yafu16⟩) hHeld ?rafu16
          case yafu16 =>
            intro wx hSx
            have e0 : World.cell? _ ⟨b1, 0, none⟩ = some (.int .i64 r.kind) := cell_at (hSx.st 0 rfl) 0
            have e1 : World.cell? _ ⟨b1, 1, none⟩ = some (.string r.room) := cell_at (hSx.st 0 rfl) 1
            have e2 : World.cell? _ ⟨b1, 2, none⟩ = some (.string r.user) := cell_at (hSx.st 0 rfl) 2
            have e3 : World.cell? _ ⟨b1, 3, none⟩ = some (.string r.event) := cell_at (hSx.st 0 rfl) 3
            have e4 : World.cell? _ ⟨b1, 4, none⟩ = some (.string r.thread) := cell_at (hSx.st 0 rfl) 4
            have e5 : World.cell? _ ⟨b1, 5, none⟩ = some (.bool r.priv) := cell_at (hSx.st 0 rfl) 5
            have e6 : World.cell? _ ⟨b1, 6, none⟩ = some (.bool r.on) := cell_at (hSx.st 0 rfl) 6
            have e7 : World.cell? _ ⟨b1, 7, none⟩ = some (.int .i64 r.span) := cell_at (hSx.st 0 rfl) 7
            have e8 : World.cell? _ ⟨b1, 8, none⟩ = some (.int .i64 r.state) := cell_at (hSx.st 0 rfl) 8
            have e9 : World.cell? _ ⟨b1, 9, none⟩ = some (.int .i64 r.tick) := cell_at (hSx.st 0 rfl) 9
            have e10 : World.cell? _ ⟨b1, 10, none⟩ = some (.int .i64 r.stamp) := cell_at (hSx.st 0 rfl) 10
            go_simp
            try with_reducible rfl
          try simp only [Act.put, List.setIfInBounds_toArray, List.set_cons_zero, List.set_cons_succ]
          refine wpAnyH_ready (rs := [12]) (by kernel_rfl) (by simp) ?_
          refine AllReadyH.cons (o := ⟨some 99, _, _, _, _, _⟩) rfl (fun K hK => ?_) AllReadyH.nil
          go_simp
          refine (Hlr.out _).mono ?_
          rintro e wnafu12 ⟨rfl, hbn⟩
          replace hHeld := hHeld.later hbn
          refine hK.out _ _ hHeld (fun _ => ?_)
          clear hK K hbn
          try simp only [Act.put, List.setIfInBounds_toArray, List.set_cons_zero, List.set_cons_succ]
          refine wpAnyH_ready (rs := [17]) (by kernel_rfl) (by simp) ?_
          refine AllReadyH.cons (o := ⟨some 104, _, _, _, _, _⟩) rfl (fun K hK => ?_) AllReadyH.nil
          go_simp
          refine (HLr.out _).mono ?_
          rintro e wnafu17 ⟨rfl, hbn⟩
          replace hHeld := hHeld.later hbn
          refine hK.out _ _ hHeld (fun _ => ?_)
          clear hK K hbn
          try simp only [Act.put, List.setIfInBounds_toArray, List.set_cons_zero, List.set_cons_succ]
          refine wpAnyH_take (i := 18) (oi := ⟨some 105, _, _, _, _, _⟩) (v := ?vafu18) rfl (by kernel_rfl) (by kernel_rfl) (by kernel_rfl) (fun _ _ _ h => h) (Or.inl ⟨by rfl, ?yafu18⟩) hHeld ?rafu18
          case yafu18 =>
            intro wx hSx
            go_simp
            try with_reducible rfl
          try simp only [Act.put, List.setIfInBounds_toArray, List.set_cons_zero, List.set_cons_succ]
          refine wpAnyH_take (i := 19) (oi := ⟨some 106, _, _, _, _, _⟩) (v := ?vafu19) rfl (by kernel_rfl) (by kernel_rfl) (by kernel_rfl) (fun _ _ _ h => h) (Or.inl ⟨by rfl, ?yafu19⟩) hHeld ?rafu19
          case yafu19 =>
            intro wx hSx
            go_simp
            try with_reducible rfl
          try simp only [Act.put, List.setIfInBounds_toArray, List.set_cons_zero, List.set_cons_succ]
          refine wpAnyH_take (i := 20) (oi := ⟨some 107, _, _, _, _, _⟩) (v := ?vafu20) rfl (by kernel_rfl) (by kernel_rfl) (by kernel_rfl) (fun _ _ _ h => h) (Or.inl ⟨by rfl, ?yafu20⟩) hHeld ?rafu20
          case yafu20 =>
            intro wx hSx
            go_simp
            try with_reducible rfl
          try simp only [Act.put, List.setIfInBounds_toArray, List.set_cons_zero, List.set_cons_succ]
          refine wpAnyH_take (i := 21) (oi := ⟨some 108, _, _, _, _, _⟩) (v := ?vafu21) rfl (by kernel_rfl) (by kernel_rfl) (by kernel_rfl) (fun _ _ _ h => h) (Or.inl ⟨by rfl, ?yafu21⟩) hHeld ?rafu21
          case yafu21 =>
            intro wx hSx
            go_simp
            try with_reducible rfl
          try simp only [Act.put, List.setIfInBounds_toArray, List.set_cons_zero, List.set_cons_succ]
          refine wpAnyH_take (i := 22) (oi := ⟨some 109, _, _, _, _, _⟩) (v := ?vafu22) rfl (by kernel_rfl) (by kernel_rfl) (by kernel_rfl) (fun _ _ _ h => h) (Or.inl ⟨by rfl, ?yafu22⟩) hHeld ?rafu22
          case yafu22 =>
            intro wx hSx
            go_simp
            try with_reducible rfl
          try simp only [Act.put, List.setIfInBounds_toArray, List.set_cons_zero, List.set_cons_succ]
          refine wpAnyH_take (i := 23) (oi := ⟨some 110, _, _, _, _, _⟩) (v := ?vafu23) rfl (by kernel_rfl) (by kernel_rfl) (by kernel_rfl) (fun _ _ _ h => h) (Or.inl ⟨by rfl, ?yafu23⟩) hHeld ?rafu23
          case yafu23 =>
            intro wx hSx
            go_simp
            try with_reducible rfl
          try simp only [Act.put, List.setIfInBounds_toArray, List.set_cons_zero, List.set_cons_succ]
          refine wpAnyH_take (i := 24) (oi := ⟨some 111, _, _, _, _, _⟩) (v := ?vafu24) rfl (by kernel_rfl) (by kernel_rfl) (by kernel_rfl) (fun _ _ _ h => h) (Or.inl ⟨by rfl, ?yafu24⟩) hHeld ?rafu24
          case yafu24 =>
            intro wx hSx
            go_simp
            try with_reducible rfl
          try simp only [Act.put, List.setIfInBounds_toArray, List.set_cons_zero, List.set_cons_succ]
          refine wpAnyH_take (i := 25) (oi := ⟨some 112, _, _, _, _, _⟩) (v := ?vafu25) rfl (by kernel_rfl) (by kernel_rfl) (by kernel_rfl) (fun _ _ _ h => h) (Or.inl ⟨by rfl, ?yafu25⟩) hHeld ?rafu25
          case yafu25 =>
            intro wx hSx
            go_simp
            try with_reducible rfl
          try simp only [Act.put, List.setIfInBounds_toArray, List.set_cons_zero, List.set_cons_succ]
          refine wpAnyH_done (by kernel_rfl) ?_ _
          have HK := Lib.hid hHeld
          clear hHeld
          go_upto_region 31 with (fail)
          refine wp_region_held_drew (S := fun w' => Keep w [(b1, #[.int .i64 r.kind, .string r.room, .string r.user, .string r.event, .string r.thread, .bool r.priv, .bool r.on, .int .i64 r.span, .int .i64 r.state, .int .i64 r.tick, .int .i64 r.stamp, .int .i64 g.kind, .string g.room, .string g.user, .string g.event, .string g.thread, .bool g.priv, .bool g.on, .int .i64 g.span, .int .i64 g.state, .int .i64 g.tick, .int .i64 g.stamp, .int .i64 od.kind, .string od.room, .string od.user, .string od.event, .string od.thread, .bool od.priv, .bool od.on, .int .i64 od.span, .int .i64 od.state, .int .i64 od.tick, .int .i64 od.stamp], 23), (b5, #[.int .i64 od.kind, .string od.room, .string od.user, .string od.event, .string od.thread, .bool od.priv, .bool od.on, .int .i64 od.span, .int .i64 od.state, .int .i64 od.tick, .int .i64 od.stamp], 23), (b4, #[.int .i64 g.kind, .string g.room, .string g.user, .string g.event, .string g.thread, .bool g.priv, .bool g.on, .int .i64 g.span, .int .i64 g.state, .int .i64 g.tick, .int .i64 g.stamp], 23), (b2, #[.int .i64 r.kind, .string r.room, .string r.user, .string r.event, .string r.thread, .bool r.priv, .bool r.on, .int .i64 r.span, .int .i64 r.state, .int .i64 r.tick, .int .i64 r.stamp], 23), (w.heap.size, #[.int .i64 e.kind, .string e.room, .string e.user, .string e.event, .string e.thread, .bool e.priv, .bool e.on, .int .i64 e.span, .int .i64 e.state, .int .i64 e.tick, .int .i64 e.stamp], 23)] [] w') (by kernel_rfl) HK.out.drew (fun hHeld => ?_)
          generalize hwd : wnafu17.drew = wd at hHeld ⊢
          clear HK hwd
          refine wpAnyH_take (i := 0) (oi := ⟨some 113, _, _, _, _, _⟩) (v := ?vafv0) rfl (by kernel_rfl) (by kernel_rfl) (by kernel_rfl) (fun _ _ _ h => h) (Or.inl ⟨by rfl, ?yafv0⟩) hHeld ?rafv0
          case yafv0 =>
            intro wx hSx
            go_simp
            try with_reducible rfl
          try simp only [Act.put, List.setIfInBounds_toArray, List.set_cons_zero, List.set_cons_succ]
          refine wpAnyH_take (i := 1) (oi := ⟨some 114, _, _, _, _, _⟩) (v := ?vafv1) rfl (by kernel_rfl) (by kernel_rfl) (by kernel_rfl) (fun _ _ _ h => h) (Or.inl ⟨by rfl, ?yafv1⟩) hHeld ?rafv1
          case yafv1 =>
            intro wx hSx
            go_simp
            try with_reducible rfl
          try simp only [Act.put, List.setIfInBounds_toArray, List.set_cons_zero, List.set_cons_succ]
          refine wpAnyH_take (i := 2) (oi := ⟨some 115, _, _, _, _, _⟩) (v := undef) rfl (by kernel_rfl) (by kernel_rfl) (by kernel_rfl) (fun _ _ _ h => h) (Or.inr ⟨by rfl, rfl⟩) hHeld ?rafv2
          try simp only [Act.put, List.setIfInBounds_toArray, List.set_cons_zero, List.set_cons_succ]
          refine wpAnyH_take (i := 3) (oi := ⟨some 116, _, _, _, _, _⟩) (v := undef) rfl (by kernel_rfl) (by kernel_rfl) (by kernel_rfl) (fun _ _ _ h => h) (Or.inr ⟨by rfl, rfl⟩) hHeld ?rafv3
          try simp only [Act.put, List.setIfInBounds_toArray, List.set_cons_zero, List.set_cons_succ]
          refine wpAnyH_take (i := 4) (oi := ⟨some 117, _, _, _, _, _⟩) (v := undef) rfl (by kernel_rfl) (by kernel_rfl) (by kernel_rfl) (fun _ _ _ h => h) (Or.inr ⟨by rfl, rfl⟩) hHeld ?rafv4
          try simp only [Act.put, List.setIfInBounds_toArray, List.set_cons_zero, List.set_cons_succ]
          refine wpAnyH_take (i := 5) (oi := ⟨some 118, _, _, _, _, _⟩) (v := undef) rfl (by kernel_rfl) (by kernel_rfl) (by kernel_rfl) (fun _ _ _ h => h) (Or.inr ⟨by rfl, rfl⟩) hHeld ?rafv5
          try simp only [Act.put, List.setIfInBounds_toArray, List.set_cons_zero, List.set_cons_succ]
          refine wpAnyH_take (i := 6) (oi := ⟨some 119, _, _, _, _, _⟩) (v := undef) rfl (by kernel_rfl) (by kernel_rfl) (by kernel_rfl) (fun _ _ _ h => h) (Or.inr ⟨by rfl, rfl⟩) hHeld ?rafv6
          try simp only [Act.put, List.setIfInBounds_toArray, List.set_cons_zero, List.set_cons_succ]
          refine wpAnyH_take (i := 7) (oi := ⟨some 120, _, _, _, _, _⟩) (v := undef) rfl (by kernel_rfl) (by kernel_rfl) (by kernel_rfl) (fun _ _ _ h => h) (Or.inr ⟨by rfl, rfl⟩) hHeld ?rafv7
          try simp only [Act.put, List.setIfInBounds_toArray, List.set_cons_zero, List.set_cons_succ]
          refine wpAnyH_take (i := 8) (oi := ⟨some 121, _, _, _, _, _⟩) (v := undef) rfl (by kernel_rfl) (by kernel_rfl) (by kernel_rfl) (fun _ _ _ h => h) (Or.inr ⟨by rfl, rfl⟩) hHeld ?rafv8
          try simp only [Act.put, List.setIfInBounds_toArray, List.set_cons_zero, List.set_cons_succ]
          refine wpAnyH_take (i := 9) (oi := ⟨some 122, _, _, _, _, _⟩) (v := undef) rfl (by kernel_rfl) (by kernel_rfl) (by kernel_rfl) (fun _ _ _ h => h) (Or.inr ⟨by rfl, rfl⟩) hHeld ?rafv9
          try simp only [Act.put, List.setIfInBounds_toArray, List.set_cons_zero, List.set_cons_succ]
          refine wpAnyH_take (i := 10) (oi := ⟨some 123, _, _, _, _, _⟩) (v := undef) rfl (by kernel_rfl) (by kernel_rfl) (by kernel_rfl) (fun _ _ _ h => h) (Or.inr ⟨by rfl, rfl⟩) hHeld ?rafv10
          try simp only [Act.put, List.setIfInBounds_toArray, List.set_cons_zero, List.set_cons_succ]
          refine wpAnyH_take (i := 11) (oi := ⟨some 124, _, _, _, _, _⟩) (v := ?vafv11) rfl (by kernel_rfl) (by kernel_rfl) (by kernel_rfl) (fun _ _ _ h => h) (Or.inl ⟨by rfl, ?yafv11⟩) hHeld ?rafv11
          case yafv11 =>
            intro wx hSx
            go_simp
            try with_reducible rfl
          try simp only [Act.put, List.setIfInBounds_toArray, List.set_cons_zero, List.set_cons_succ]
          refine wpAnyH_done (by kernel_rfl) ?_ _
          have HK := Lib.hid hHeld
          clear hHeld
          go_wp2_with fail
          go_roundw
          case rel => exact ⟨1, by omega, by go_num, Lib.hid ⟨HK.out.1, HK.out.2.1, fun _ hp => (List.not_mem_nil hp).elim⟩⟩
          case measure => simp [intOf]
        · have e0_0 : World.cell? _ ⟨b1, 0, none⟩ = some (.int .i64 r.kind) := cell_at (HK.out.st 0 rfl) 0
          have e0_1 : World.cell? _ ⟨b1, 1, none⟩ = some (.string r.room) := cell_at (HK.out.st 0 rfl) 1
          have e0_2 : World.cell? _ ⟨b1, 2, none⟩ = some (.string r.user) := cell_at (HK.out.st 0 rfl) 2
          have e0_3 : World.cell? _ ⟨b1, 3, none⟩ = some (.string r.event) := cell_at (HK.out.st 0 rfl) 3
          have e0_4 : World.cell? _ ⟨b1, 4, none⟩ = some (.string r.thread) := cell_at (HK.out.st 0 rfl) 4
          have e0_5 : World.cell? _ ⟨b1, 5, none⟩ = some (.bool r.priv) := cell_at (HK.out.st 0 rfl) 5
          have e0_6 : World.cell? _ ⟨b1, 6, none⟩ = some (.bool r.on) := cell_at (HK.out.st 0 rfl) 6
          have e0_7 : World.cell? _ ⟨b1, 7, none⟩ = some (.int .i64 r.span) := cell_at (HK.out.st 0 rfl) 7
          have e0_8 : World.cell? _ ⟨b1, 8, none⟩ = some (.int .i64 r.state) := cell_at (HK.out.st 0 rfl) 8
          have e0_9 : World.cell? _ ⟨b1, 9, none⟩ = some (.int .i64 r.tick) := cell_at (HK.out.st 0 rfl) 9
          have e0_10 : World.cell? _ ⟨b1, 10, none⟩ = some (.int .i64 r.stamp) := cell_at (HK.out.st 0 rfl) 10
          go_wp2_with fail
          clear e0_0 e0_1 e0_2 e0_3 e0_4 e0_5 e0_6 e0_7 e0_8 e0_9 e0_10
          refine (HYr.out (by first | trivial | rfl) _).mono ?_
          rintro e w3 ⟨⟨g3, cap3, rfl, hg, ho⟩, hb⟩
          replace HK := Lib.hid (show Keep w [(b1, #[.int .i64 r.kind, .string r.room, .string r.user, .string r.event, .string r.thread, .bool r.priv, .bool r.on, .int .i64 r.span, .int .i64 r.state, .int .i64 r.tick, .int .i64 r.stamp, .int .i64 g.kind, .string g.room, .string g.user, .string g.event, .string g.thread, .bool g.priv, .bool g.on, .int .i64 g.span, .int .i64 g.state, .int .i64 g.tick, .int .i64 g.stamp, .int .i64 od.kind, .string od.room, .string od.user, .string od.event, .string od.thread, .bool od.priv, .bool od.on, .int .i64 od.span, .int .i64 od.state, .int .i64 od.tick, .int .i64 od.stamp], 23), (b5, #[.int .i64 od.kind, .string od.room, .string od.user, .string od.event, .string od.thread, .bool od.priv, .bool od.on, .int .i64 od.span, .int .i64 od.state, .int .i64 od.tick, .int .i64 od.stamp], 23), (b4, #[.int .i64 g.kind, .string g.room, .string g.user, .string g.event, .string g.thread, .bool g.priv, .bool g.on, .int .i64 g.span, .int .i64 g.state, .int .i64 g.tick, .int .i64 g.stamp], 23), (b2, #[.int .i64 r.kind, .string r.room, .string r.user, .string r.event, .string r.thread, .bool r.priv, .bool r.on, .int .i64 r.span, .int .i64 r.state, .int .i64 r.tick, .int .i64 r.stamp], 23), (w.heap.size, #[.int .i64 e.kind, .string e.room, .string e.user, .string e.event, .string e.thread, .bool e.priv, .bool e.on, .int .i64 e.span, .int .i64 e.state, .int .i64 e.tick, .int .i64 e.stamp], 23)] [(.slice (some ⟨g3, 0, none⟩) yr.length cap3, yr)] w3 from (HK.out.later hb).consR (ho.row (Nat.zero_le _)))
          clear hb ho hg
          go_upto_region 29 with (fail)
          refine wp_region_held_drew (S := fun w' => Keep w [(b1, #[.int .i64 r.kind, .string r.room, .string r.user, .string r.event, .string r.thread, .bool r.priv, .bool r.on, .int .i64 r.span, .int .i64 r.state, .int .i64 r.tick, .int .i64 r.stamp, .int .i64 g.kind, .string g.room, .string g.user, .string g.event, .string g.thread, .bool g.priv, .bool g.on, .int .i64 g.span, .int .i64 g.state, .int .i64 g.tick, .int .i64 g.stamp, .int .i64 od.kind, .string od.room, .string od.user, .string od.event, .string od.thread, .bool od.priv, .bool od.on, .int .i64 od.span, .int .i64 od.state, .int .i64 od.tick, .int .i64 od.stamp], 23), (b5, #[.int .i64 od.kind, .string od.room, .string od.user, .string od.event, .string od.thread, .bool od.priv, .bool od.on, .int .i64 od.span, .int .i64 od.state, .int .i64 od.tick, .int .i64 od.stamp], 23), (b4, #[.int .i64 g.kind, .string g.room, .string g.user, .string g.event, .string g.thread, .bool g.priv, .bool g.on, .int .i64 g.span, .int .i64 g.state, .int .i64 g.tick, .int .i64 g.stamp], 23), (b2, #[.int .i64 r.kind, .string r.room, .string r.user, .string r.event, .string r.thread, .bool r.priv, .bool r.on, .int .i64 r.span, .int .i64 r.state, .int .i64 r.tick, .int .i64 r.stamp], 23), (w.heap.size, #[.int .i64 e.kind, .string e.room, .string e.user, .string e.event, .string e.thread, .bool e.priv, .bool e.on, .int .i64 e.span, .int .i64 e.state, .int .i64 e.tick, .int .i64 e.stamp], 23)] [(.slice (some ⟨g3, 0, none⟩) yr.length cap3, yr)] w') (by kernel_rfl) HK.out.drew (fun hHeld => ?_)
          generalize hwd : w3.drew = wd at hHeld ⊢
          clear HK hwd
          refine wpAnyH_take (i := 0) (oi := ⟨some 87, _, _, _, _, _⟩) (v := ?vatu0) rfl (by kernel_rfl) (by kernel_rfl) (by kernel_rfl) (fun _ _ _ h => h) (Or.inl ⟨by rfl, ?yatu0⟩) hHeld ?ratu0
          case yatu0 =>
            intro wx hSx
            go_simp
            try with_reducible rfl
          try simp only [Act.put, List.setIfInBounds_toArray, List.set_cons_zero, List.set_cons_succ]
          refine wpAnyH_take (i := 1) (oi := ⟨some 88, _, _, _, _, _⟩) (v := ?vatu1) rfl (by kernel_rfl) (by kernel_rfl) (by kernel_rfl) (fun _ _ _ h => h) (Or.inl ⟨by rfl, ?yatu1⟩) hHeld ?ratu1
          case yatu1 =>
            intro wx hSx
            go_simp
            try with_reducible rfl
          try simp only [Act.put, List.setIfInBounds_toArray, List.set_cons_zero, List.set_cons_succ]
          refine wpAnyH_take (i := 2) (oi := ⟨some 89, _, _, _, _, _⟩) (v := ?vatu2) rfl (by kernel_rfl) (by kernel_rfl) (by kernel_rfl) (fun _ _ _ h => h) (Or.inl ⟨by rfl, ?yatu2⟩) hHeld ?ratu2
          case yatu2 =>
            intro wx hSx
            go_simp
            try with_reducible rfl
          try simp only [Act.put, List.setIfInBounds_toArray, List.set_cons_zero, List.set_cons_succ]
          refine wpAnyH_take (i := 3) (oi := ⟨some 90, _, _, _, _, _⟩) (v := ?vatu3) rfl (by kernel_rfl) (by kernel_rfl) (by kernel_rfl) (fun _ _ _ h => h) (Or.inl ⟨by rfl, ?yatu3⟩) hHeld ?ratu3
          case yatu3 =>
            intro wx hSx
            have e0 : World.cell? _ ⟨b1, 0, none⟩ = some (.int .i64 r.kind) := cell_at (hSx.st 0 rfl) 0
            have e1 : World.cell? _ ⟨b1, 1, none⟩ = some (.string r.room) := cell_at (hSx.st 0 rfl) 1
            have e2 : World.cell? _ ⟨b1, 2, none⟩ = some (.string r.user) := cell_at (hSx.st 0 rfl) 2
            have e3 : World.cell? _ ⟨b1, 3, none⟩ = some (.string r.event) := cell_at (hSx.st 0 rfl) 3
            have e4 : World.cell? _ ⟨b1, 4, none⟩ = some (.string r.thread) := cell_at (hSx.st 0 rfl) 4
            have e5 : World.cell? _ ⟨b1, 5, none⟩ = some (.bool r.priv) := cell_at (hSx.st 0 rfl) 5
            have e6 : World.cell? _ ⟨b1, 6, none⟩ = some (.bool r.on) := cell_at (hSx.st 0 rfl) 6
            have e7 : World.cell? _ ⟨b1, 7, none⟩ = some (.int .i64 r.span) := cell_at (hSx.st 0 rfl) 7
            have e8 : World.cell? _ ⟨b1, 8, none⟩ = some (.int .i64 r.state) := cell_at (hSx.st 0 rfl) 8
            have e9 : World.cell? _ ⟨b1, 9, none⟩ = some (.int .i64 r.tick) := cell_at (hSx.st 0 rfl) 9
            have e10 : World.cell? _ ⟨b1, 10, none⟩ = some (.int .i64 r.stamp) := cell_at (hSx.st 0 rfl) 10
            go_simp
            try with_reducible rfl
          try simp only [Act.put, List.setIfInBounds_toArray, List.set_cons_zero, List.set_cons_succ]
          refine wpAnyH_take (i := 5) (oi := ⟨some 92, _, _, _, _, _⟩) (v := ?vatu5) rfl (by kernel_rfl) (by kernel_rfl) (by kernel_rfl) (fun _ _ _ h => h) (Or.inl ⟨by rfl, ?yatu5⟩) hHeld ?ratu5
          case yatu5 =>
            intro wx hSx
            go_simp
            try with_reducible rfl
          try simp only [Act.put, List.setIfInBounds_toArray, List.set_cons_zero, List.set_cons_succ]
          refine wpAnyH_ready (rs := [4]) (by kernel_rfl) (by simp) ?_
          refine AllReadyH.cons (o := ⟨some 91, _, _, _, _, _⟩) rfl (fun K hK => ?_) AllReadyH.nil
          go_simp
          refine (Hmr.out _).mono ?_
          rintro e wnatu4 ⟨rfl, hbn⟩
          replace hHeld := hHeld.later hbn
          refine hK.out _ _ hHeld (fun _ => ?_)
          clear hK K hbn
          try simp only [Act.put, List.setIfInBounds_toArray, List.set_cons_zero, List.set_cons_succ]
          refine wpAnyH_take (i := 6) (oi := ⟨some 93, _, _, _, _, _⟩) (v := ?vatu6) rfl (by kernel_rfl) (by kernel_rfl) (by kernel_rfl) (fun _ _ _ h => h) (Or.inl ⟨by rfl, ?yatu6⟩) hHeld ?ratu6
          case yatu6 =>
            intro wx hSx
            go_simp
            try with_reducible rfl
          try simp only [Act.put, List.setIfInBounds_toArray, List.set_cons_zero, List.set_cons_succ]
          refine wpAnyH_take (i := 7) (oi := ⟨some 94, _, _, _, _, _⟩) (v := ?vatu7) rfl (by kernel_rfl) (by kernel_rfl) (by kernel_rfl) (fun _ _ _ h => h) (Or.inl ⟨by rfl, ?yatu7⟩) hHeld ?ratu7
          case yatu7 =>
            intro wx hSx
            go_simp
            try with_reducible rfl
          try simp only [Act.put, List.setIfInBounds_toArray, List.set_cons_zero, List.set_cons_succ]
          refine wpAnyH_take (i := 8) (oi := ⟨some 95, _, _, _, _, _⟩) (v := ?vatu8) rfl (by kernel_rfl) (by kernel_rfl) (by kernel_rfl) (fun _ _ _ h => h) (Or.inl ⟨by rfl, ?yatu8⟩) hHeld ?ratu8
          case yatu8 =>
            intro wx hSx
            go_simp
            try with_reducible rfl
          try simp only [Act.put, List.setIfInBounds_toArray, List.set_cons_zero, List.set_cons_succ]
          refine wpAnyH_take (i := 9) (oi := ⟨some 96, _, _, _, _, _⟩) (v := ?vatu9) rfl (by kernel_rfl) (by kernel_rfl) (by kernel_rfl) (fun _ _ _ h => h) (Or.inl ⟨by rfl, ?yatu9⟩) hHeld ?ratu9
          case yatu9 =>
            intro wx hSx
            go_simp
            try with_reducible rfl
          try simp only [Act.put, List.setIfInBounds_toArray, List.set_cons_zero, List.set_cons_succ]
          refine wpAnyH_take (i := 10) (oi := ⟨some 97, _, _, _, _, _⟩) (v := ?vatu10) rfl (by kernel_rfl) (by kernel_rfl) (by kernel_rfl) (fun _ _ _ h => h) (Or.inl ⟨by rfl, ?yatu10⟩) hHeld ?ratu10
          case yatu10 =>
            intro wx hSx
            go_simp
            try with_reducible rfl
          try simp only [Act.put, List.setIfInBounds_toArray, List.set_cons_zero, List.set_cons_succ]
          refine wpAnyH_take (i := 11) (oi := ⟨some 98, _, _, _, _, _⟩) (v := ?vatu11) rfl (by kernel_rfl) (by kernel_rfl) (by kernel_rfl) (fun _ _ _ h => h) (Or.inl ⟨by rfl, ?yatu11⟩) hHeld ?ratu11
          case yatu11 =>
            intro wx hSx
            have e0 : World.cell? _ ⟨b1, 0, none⟩ = some (.int .i64 r.kind) := cell_at (hSx.st 0 rfl) 0
            have e1 : World.cell? _ ⟨b1, 1, none⟩ = some (.string r.room) := cell_at (hSx.st 0 rfl) 1
            have e2 : World.cell? _ ⟨b1, 2, none⟩ = some (.string r.user) := cell_at (hSx.st 0 rfl) 2
            have e3 : World.cell? _ ⟨b1, 3, none⟩ = some (.string r.event) := cell_at (hSx.st 0 rfl) 3
            have e4 : World.cell? _ ⟨b1, 4, none⟩ = some (.string r.thread) := cell_at (hSx.st 0 rfl) 4
            have e5 : World.cell? _ ⟨b1, 5, none⟩ = some (.bool r.priv) := cell_at (hSx.st 0 rfl) 5
            have e6 : World.cell? _ ⟨b1, 6, none⟩ = some (.bool r.on) := cell_at (hSx.st 0 rfl) 6
            have e7 : World.cell? _ ⟨b1, 7, none⟩ = some (.int .i64 r.span) := cell_at (hSx.st 0 rfl) 7
            have e8 : World.cell? _ ⟨b1, 8, none⟩ = some (.int .i64 r.state) := cell_at (hSx.st 0 rfl) 8
            have e9 : World.cell? _ ⟨b1, 9, none⟩ = some (.int .i64 r.tick) := cell_at (hSx.st 0 rfl) 9
            have e10 : World.cell? _ ⟨b1, 10, none⟩ = some (.int .i64 r.stamp) := cell_at (hSx.st 0 rfl) 10
            go_simp
            try with_reducible rfl
          try simp only [Act.put, List.setIfInBounds_toArray, List.set_cons_zero, List.set_cons_succ]
          refine wpAnyH_take (i := 13) (oi := ⟨some 100, _, _, _, _, _⟩) (v := ?vatu13) rfl (by kernel_rfl) (by kernel_rfl) (by kernel_rfl) (fun _ _ _ h => h) (Or.inl ⟨by rfl, ?yatu13⟩) hHeld ?ratu13
          case yatu13 =>
            intro wx hSx
            go_simp
            try with_reducible rfl
          try simp only [Act.put, List.setIfInBounds_toArray, List.set_cons_zero, List.set_cons_succ]
          refine wpAnyH_take (i := 14) (oi := ⟨some 101, _, _, _, _, _⟩) (v := ?vatu14) rfl (by kernel_rfl) (by kernel_rfl) (by kernel_rfl) (fun _ _ _ h => h) (Or.inl ⟨by rfl, ?yatu14⟩) hHeld ?ratu14
          case yatu14 =>
            intro wx hSx
            go_simp
            try with_reducible rfl
          try simp only [Act.put, List.setIfInBounds_toArray, List.set_cons_zero, List.set_cons_succ]
          refine wpAnyH_take (i := 15) (oi := ⟨some 102, _, _, _, _, _⟩) (v := ?vatu15) rfl (by kernel_rfl) (by kernel_rfl) (by kernel_rfl) (fun _ _ _ h => h) (Or.inl ⟨by rfl, ?yatu15⟩) hHeld ?ratu15
          case yatu15 =>
            intro wx hSx
            go_simp
            try with_reducible rfl
          try simp only [Act.put, List.setIfInBounds_toArray, List.set_cons_zero, List.set_cons_succ]
          refine wpAnyH_take (i := 16) (oi := ⟨some 103, _, _, _, _, _⟩) (v := ?vatu16) rfl (by kernel_rfl) (by kernel_rfl) (by kernel_rfl) (fun _ _ _ h => h) (Or.inl ⟨by rfl, ?yatu16⟩) hHeld ?ratu16
          case yatu16 =>
            intro wx hSx
            have e0 : World.cell? _ ⟨b1, 0, none⟩ = some (.int .i64 r.kind) := cell_at (hSx.st 0 rfl) 0
            have e1 : World.cell? _ ⟨b1, 1, none⟩ = some (.string r.room) := cell_at (hSx.st 0 rfl) 1
            have e2 : World.cell? _ ⟨b1, 2, none⟩ = some (.string r.user) := cell_at (hSx.st 0 rfl) 2
            have e3 : World.cell? _ ⟨b1, 3, none⟩ = some (.string r.event) := cell_at (hSx.st 0 rfl) 3
            have e4 : World.cell? _ ⟨b1, 4, none⟩ = some (.string r.thread) := cell_at (hSx.st 0 rfl) 4
            have e5 : World.cell? _ ⟨b1, 5, none⟩ = some (.bool r.priv) := cell_at (hSx.st 0 rfl) 5
            have e6 : World.cell? _ ⟨b1, 6, none⟩ = some (.bool r.on) := cell_at (hSx.st 0 rfl) 6
            have e7 : World.cell? _ ⟨b1, 7, none⟩ = some (.int .i64 r.span) := cell_at (hSx.st 0 rfl) 7
            have e8 : World.cell? _ ⟨b1, 8, none⟩ = some (.int .i64 r.state) := cell_at (hSx.st 0 rfl) 8
            have e9 : World.cell? _ ⟨b1, 9, none⟩ = some (.int .i64 r.tick) := cell_at (hSx.st 0 rfl) 9
            have e10 : World.cell? _ ⟨b1, 10, none⟩ = some (.int .i64 r.stamp) := cell_at (hSx.st 0 rfl) 10
            go_simp
            try with_reducible rfl
          try simp only [Act.put, List.setIfInBounds_toArray, List.set_cons_zero, List.set_cons_succ]
          refine wpAnyH_ready (rs := [12]) (by kernel_rfl) (by simp) ?_
          refine AllReadyH.cons (o := ⟨some 99, _, _, _, _, _⟩) rfl (fun K hK => ?_) AllReadyH.nil
          go_simp
          refine (Hlr.out _).mono ?_
          rintro e wnatu12 ⟨rfl, hbn⟩
          replace hHeld := hHeld.later hbn
          refine hK.out _ _ hHeld (fun _ => ?_)
          clear hK K hbn
          try simp only [Act.put, List.setIfInBounds_toArray, List.set_cons_zero, List.set_cons_succ]
          refine wpAnyH_ready (rs := [17]) (by kernel_rfl) (by simp) ?_
          refine AllReadyH.cons (o := ⟨some 104, _, _, _, _, _⟩) rfl (fun K hK => ?_) AllReadyH.nil
          go_simp
          refine (HLr.out _).mono ?_
          rintro e wnatu17 ⟨rfl, hbn⟩
          replace hHeld := hHeld.later hbn
          refine hK.out _ _ hHeld (fun _ => ?_)
          clear hK K hbn
          try simp only [Act.put, List.setIfInBounds_toArray, List.set_cons_zero, List.set_cons_succ]
          refine wpAnyH_take (i := 18) (oi := ⟨some 105, _, _, _, _, _⟩) (v := ?vatu18) rfl (by kernel_rfl) (by kernel_rfl) (by kernel_rfl) (fun _ _ _ h => h) (Or.inl ⟨by rfl, ?yatu18⟩) hHeld ?ratu18
          case yatu18 =>
            intro wx hSx
            go_simp
            try with_reducible rfl
          try simp only [Act.put, List.setIfInBounds_toArray, List.set_cons_zero, List.set_cons_succ]
          refine wpAnyH_take (i := 19) (oi := ⟨some 106, _, _, _, _, _⟩) (v := ?vatu19) rfl (by kernel_rfl) (by kernel_rfl) (by kernel_rfl) (fun _ _ _ h => h) (Or.inl ⟨by rfl, ?yatu19⟩) hHeld ?ratu19
          case yatu19 =>
            intro wx hSx
            go_simp
            try with_reducible rfl
          try simp only [Act.put, List.setIfInBounds_toArray, List.set_cons_zero, List.set_cons_succ]
          refine wpAnyH_take (i := 20) (oi := ⟨some 107, _, _, _, _, _⟩) (v := ?vatu20) rfl (by kernel_rfl) (by kernel_rfl) (by kernel_rfl) (fun _ _ _ h => h) (Or.inl ⟨by rfl, ?yatu20⟩) hHeld ?ratu20
          case yatu20 =>
            intro wx hSx
            go_simp
            try with_reducible rfl
          try simp only [Act.put, List.setIfInBounds_toArray, List.set_cons_zero, List.set_cons_succ]
          refine wpAnyH_take (i := 21) (oi := ⟨some 108, _, _, _, _, _⟩) (v := ?vatu21) rfl (by kernel_rfl) (by kernel_rfl) (by kernel_rfl) (fun _ _ _ h => h) (Or.inl ⟨by rfl, ?yatu21⟩) hHeld ?ratu21
          case yatu21 =>
            intro wx hSx
            go_simp
            try with_reducible rfl
          try simp only [Act.put, List.setIfInBounds_toArray, List.set_cons_zero, List.set_cons_succ]
          refine wpAnyH_take (i := 22) (oi := ⟨some 109, _, _, _, _, _⟩) (v := ?vatu22) rfl (by kernel_rfl) (by kernel_rfl) (by kernel_rfl) (fun _ _ _ h => h) (Or.inl ⟨by rfl, ?yatu22⟩) hHeld ?ratu22
          case yatu22 =>
            intro wx hSx
            go_simp
            try with_reducible rfl
          try simp only [Act.put, List.setIfInBounds_toArray, List.set_cons_zero, List.set_cons_succ]
          refine wpAnyH_take (i := 23) (oi := ⟨some 110, _, _, _, _, _⟩) (v := ?vatu23) rfl (by kernel_rfl) (by kernel_rfl) (by kernel_rfl) (fun _ _ _ h => h) (Or.inl ⟨by rfl, ?yatu23⟩) hHeld ?ratu23
          case yatu23 =>
            intro wx hSx
            go_simp
            try with_reducible rfl
          try simp only [Act.put, List.setIfInBounds_toArray, List.set_cons_zero, List.set_cons_succ]
          refine wpAnyH_take (i := 24) (oi := ⟨some 111, _, _, _, _, _⟩) (v := ?vatu24) rfl (by kernel_rfl) (by kernel_rfl) (by kernel_rfl) (fun _ _ _ h => h) (Or.inl ⟨by rfl, ?yatu24⟩) hHeld ?ratu24
          case yatu24 =>
            intro wx hSx
            go_simp
            try with_reducible rfl
          try simp only [Act.put, List.setIfInBounds_toArray, List.set_cons_zero, List.set_cons_succ]
          refine wpAnyH_take (i := 25) (oi := ⟨some 112, _, _, _, _, _⟩) (v := ?vatu25) rfl (by kernel_rfl) (by kernel_rfl) (by kernel_rfl) (fun _ _ _ h => h) (Or.inl ⟨by rfl, ?yatu25⟩) hHeld ?ratu25
          case yatu25 =>
            intro wx hSx
            go_simp
            try with_reducible rfl
          try simp only [Act.put, List.setIfInBounds_toArray, List.set_cons_zero, List.set_cons_succ]
          refine wpAnyH_done (by kernel_rfl) ?_ _
          have HK := Lib.hid hHeld
          clear hHeld
          go_upto_region 31 with (fail)
          refine wp_region_held_drew (S := fun w' => Keep w [(b1, #[.int .i64 r.kind, .string r.room, .string r.user, .string r.event, .string r.thread, .bool r.priv, .bool r.on, .int .i64 r.span, .int .i64 r.state, .int .i64 r.tick, .int .i64 r.stamp, .int .i64 g.kind, .string g.room, .string g.user, .string g.event, .string g.thread, .bool g.priv, .bool g.on, .int .i64 g.span, .int .i64 g.state, .int .i64 g.tick, .int .i64 g.stamp, .int .i64 od.kind, .string od.room, .string od.user, .string od.event, .string od.thread, .bool od.priv, .bool od.on, .int .i64 od.span, .int .i64 od.state, .int .i64 od.tick, .int .i64 od.stamp], 23), (b5, #[.int .i64 od.kind, .string od.room, .string od.user, .string od.event, .string od.thread, .bool od.priv, .bool od.on, .int .i64 od.span, .int .i64 od.state, .int .i64 od.tick, .int .i64 od.stamp], 23), (b4, #[.int .i64 g.kind, .string g.room, .string g.user, .string g.event, .string g.thread, .bool g.priv, .bool g.on, .int .i64 g.span, .int .i64 g.state, .int .i64 g.tick, .int .i64 g.stamp], 23), (b2, #[.int .i64 r.kind, .string r.room, .string r.user, .string r.event, .string r.thread, .bool r.priv, .bool r.on, .int .i64 r.span, .int .i64 r.state, .int .i64 r.tick, .int .i64 r.stamp], 23), (w.heap.size, #[.int .i64 e.kind, .string e.room, .string e.user, .string e.event, .string e.thread, .bool e.priv, .bool e.on, .int .i64 e.span, .int .i64 e.state, .int .i64 e.tick, .int .i64 e.stamp], 23)] [(.slice (some ⟨g3, 0, none⟩) yr.length cap3, yr)] w') (by kernel_rfl) HK.out.drew (fun hHeld => ?_)
          generalize hwd : wnatu17.drew = wd at hHeld ⊢
          clear HK hwd
          refine wpAnyH_take (i := 0) (oi := ⟨some 113, _, _, _, _, _⟩) (v := ?vatv0) rfl (by kernel_rfl) (by kernel_rfl) (by kernel_rfl) (fun _ _ _ h => h) (Or.inl ⟨by rfl, ?yatv0⟩) hHeld ?ratv0
          case yatv0 =>
            intro wx hSx
            go_simp
            try with_reducible rfl
          try simp only [Act.put, List.setIfInBounds_toArray, List.set_cons_zero, List.set_cons_succ]
          refine wpAnyH_take (i := 1) (oi := ⟨some 114, _, _, _, _, _⟩) (v := ?vatv1) rfl (by kernel_rfl) (by kernel_rfl) (by kernel_rfl) (fun _ _ _ h => h) (Or.inl ⟨by rfl, ?yatv1⟩) hHeld ?ratv1
          case yatv1 =>
            intro wx hSx
            go_simp
            try with_reducible rfl
          try simp only [Act.put, List.setIfInBounds_toArray, List.set_cons_zero, List.set_cons_succ]
          refine wpAnyH_take (i := 2) (oi := ⟨some 115, _, _, _, _, _⟩) (v := ?vatv2) rfl (by kernel_rfl) (by kernel_rfl) (by kernel_rfl) (fun _ _ _ h => h) (Or.inl ⟨by rfl, ?yatv2⟩) hHeld ?ratv2
          case yatv2 =>
            intro wx hSx
            go_simp
            try with_reducible rfl
          try simp only [Act.put, List.setIfInBounds_toArray, List.set_cons_zero, List.set_cons_succ]
          refine wpAnyH_take (i := 3) (oi := ⟨some 116, _, _, _, _, _⟩) (v := ?vatv3) rfl (by kernel_rfl) (by kernel_rfl) (by kernel_rfl) (fun _ _ _ h => h) (Or.inl ⟨by rfl, ?yatv3⟩) hHeld ?ratv3
          case yatv3 =>
            intro wx hSx
            have cc := conv_row (hSx.row 0 rfl)
            go_simp
            first | done | rfl | (rw [cc]; rfl)
          try simp only [Act.put, List.setIfInBounds_toArray, List.set_cons_zero, List.set_cons_succ]
          refine wpAnyH_take (i := 4) (oi := ⟨some 117, _, _, _, _, _⟩) (v := ?vatv4) rfl (by kernel_rfl) (by kernel_rfl) (by kernel_rfl) (fun _ _ _ h => h) (Or.inl ⟨by rfl, ?yatv4⟩) hHeld ?ratv4
          case yatv4 =>
            intro wx hSx
            go_simp
            try with_reducible rfl
          try simp only [Act.put, List.setIfInBounds_toArray, List.set_cons_zero, List.set_cons_succ]
          refine wpAnyH_take (i := 5) (oi := ⟨some 118, _, _, _, _, _⟩) (v := ?vatv5) rfl (by kernel_rfl) (by kernel_rfl) (by kernel_rfl) (fun _ _ _ h => h) (Or.inl ⟨by rfl, ?yatv5⟩) hHeld ?ratv5
          case yatv5 =>
            intro wx hSx
            go_simp
            try with_reducible rfl
          try simp only [Act.put, List.setIfInBounds_toArray, List.set_cons_zero, List.set_cons_succ]
          refine wpAnyH_take (i := 6) (oi := ⟨some 119, _, _, _, _, _⟩) (v := ?vatv6) rfl (by kernel_rfl) (by kernel_rfl) (by kernel_rfl) (fun _ _ _ h => h) (Or.inl ⟨by rfl, ?yatv6⟩) hHeld ?ratv6
          case yatv6 =>
            intro wx hSx
            go_simp
            try with_reducible rfl
          try simp only [Act.put, List.setIfInBounds_toArray, List.set_cons_zero, List.set_cons_succ]
          refine wpAnyH_take (i := 7) (oi := ⟨some 120, _, _, _, _, _⟩) (v := ?vatv7) rfl (by kernel_rfl) (by kernel_rfl) (by kernel_rfl) (fun _ _ _ h => h) (Or.inl ⟨by rfl, ?yatv7⟩) hHeld ?ratv7
          case yatv7 =>
            intro wx hSx
            have e0 : World.cell? _ ⟨b1, 0, none⟩ = some (.int .i64 r.kind) := cell_at (hSx.st 0 rfl) 0
            have e1 : World.cell? _ ⟨b1, 1, none⟩ = some (.string r.room) := cell_at (hSx.st 0 rfl) 1
            have e2 : World.cell? _ ⟨b1, 2, none⟩ = some (.string r.user) := cell_at (hSx.st 0 rfl) 2
            have e3 : World.cell? _ ⟨b1, 3, none⟩ = some (.string r.event) := cell_at (hSx.st 0 rfl) 3
            have e4 : World.cell? _ ⟨b1, 4, none⟩ = some (.string r.thread) := cell_at (hSx.st 0 rfl) 4
            have e5 : World.cell? _ ⟨b1, 5, none⟩ = some (.bool r.priv) := cell_at (hSx.st 0 rfl) 5
            have e6 : World.cell? _ ⟨b1, 6, none⟩ = some (.bool r.on) := cell_at (hSx.st 0 rfl) 6
            have e7 : World.cell? _ ⟨b1, 7, none⟩ = some (.int .i64 r.span) := cell_at (hSx.st 0 rfl) 7
            have e8 : World.cell? _ ⟨b1, 8, none⟩ = some (.int .i64 r.state) := cell_at (hSx.st 0 rfl) 8
            have e9 : World.cell? _ ⟨b1, 9, none⟩ = some (.int .i64 r.tick) := cell_at (hSx.st 0 rfl) 9
            have e10 : World.cell? _ ⟨b1, 10, none⟩ = some (.int .i64 r.stamp) := cell_at (hSx.st 0 rfl) 10
            go_simp
            try with_reducible rfl
          try simp only [Act.put, List.setIfInBounds_toArray, List.set_cons_zero, List.set_cons_succ]
          refine wpAnyH_ready (rs := [8]) (by kernel_rfl) (by simp) ?_
          refine AllReadyH.cons (o := ⟨some 121, _, _, _, _, _⟩) rfl (fun K hK => ?_) AllReadyH.nil
          go_simp
          refine (HBr.out _).mono ?_
          rintro e wq ⟨⟨gq, capq, rfl, hgq, hoq⟩, hbq⟩
          replace hHeld := hHeld.later hbq
          refine hK.out _ _ hHeld (fun _ => ?_)
          clear hK K hbq hgq
          try simp only [Act.put, List.setIfInBounds_toArray, List.set_cons_zero, List.set_cons_succ]
          refine anyH_narrow (S' := fun w' => Keep w [(b1, #[.int .i64 r.kind, .string r.room, .string r.user, .string r.event, .string r.thread, .bool r.priv, .bool r.on, .int .i64 r.span, .int .i64 r.state, .int .i64 r.tick, .int .i64 r.stamp, .int .i64 g.kind, .string g.room, .string g.user, .string g.event, .string g.thread, .bool g.priv, .bool g.on, .int .i64 g.span, .int .i64 g.state, .int .i64 g.tick, .int .i64 g.stamp, .int .i64 od.kind, .string od.room, .string od.user, .string od.event, .string od.thread, .bool od.priv, .bool od.on, .int .i64 od.span, .int .i64 od.state, .int .i64 od.tick, .int .i64 od.stamp], 23), (b5, #[.int .i64 od.kind, .string od.room, .string od.user, .string od.event, .string od.thread, .bool od.priv, .bool od.on, .int .i64 od.span, .int .i64 od.state, .int .i64 od.tick, .int .i64 od.stamp], 23), (b4, #[.int .i64 g.kind, .string g.room, .string g.user, .string g.event, .string g.thread, .bool g.priv, .bool g.on, .int .i64 g.span, .int .i64 g.state, .int .i64 g.tick, .int .i64 g.stamp], 23), (b2, #[.int .i64 r.kind, .string r.room, .string r.user, .string r.event, .string r.thread, .bool r.priv, .bool r.on, .int .i64 r.span, .int .i64 r.state, .int .i64 r.tick, .int .i64 r.stamp], 23), (w.heap.size, #[.int .i64 e.kind, .string e.room, .string e.user, .string e.event, .string e.thread, .bool e.priv, .bool e.on, .int .i64 e.span, .int .i64 e.state, .int .i64 e.tick, .int .i64 e.stamp], 23)] [(.slice (some ⟨gq, 0, none⟩) yr.length capq, yr), (.slice (some ⟨g3, 0, none⟩) yr.length cap3, yr)] w') (fun _ h => ⟨h.1, h.2.1, fun p hp => h.2.2 p (List.mem_cons_of_mem _ hp)⟩) _ _ _ _ ?_
          replace hHeld := hHeld.consR (hoq.row (Nat.zero_le _))
          clear hoq
          refine wpAnyH_take (i := 9) (oi := ⟨some 122, _, _, _, _, _⟩) (v := ?vatv9) rfl (by kernel_rfl) (by kernel_rfl) (by kernel_rfl) (fun _ _ _ h => h) (Or.inl ⟨by rfl, ?yatv9⟩) hHeld ?ratv9
          case yatv9 =>
            intro wx hSx
            have cc := conv_row (hSx.row 0 rfl)
            go_simp
            first | done | rfl | (rw [cc]; rfl)
          try simp only [Act.put, List.setIfInBounds_toArray, List.set_cons_zero, List.set_cons_succ]
          refine wpAnyH_take (i := 10) (oi := ⟨some 123, _, _, _, _, _⟩) (v := ?vatv10) rfl (by kernel_rfl) (by kernel_rfl) (by kernel_rfl) (fun _ _ _ h => h) (Or.inl ⟨by rfl, ?yatv10⟩) hHeld ?ratv10
          case yatv10 =>
            intro wx hSx
            go_simp
            try with_reducible rfl
          try simp only [Act.put, List.setIfInBounds_toArray, List.set_cons_zero, List.set_cons_succ]
          refine wpAnyH_take (i := 11) (oi := ⟨some 124, _, _, _, _, _⟩) (v := ?vatv11) rfl (by kernel_rfl) (by kernel_rfl) (by kernel_rfl) (fun _ _ _ h => h) (Or.inl ⟨by rfl, ?yatv11⟩) hHeld ?ratv11
          case yatv11 =>
            intro wx hSx
            go_simp
            try with_reducible rfl
          try simp only [Act.put, List.setIfInBounds_toArray, List.set_cons_zero, List.set_cons_succ]
          refine wpAnyH_done (by kernel_rfl) ?_ _
          have HK := Lib.hid hHeld
          clear hHeld
          go_wp2_with fail
          go_roundw
          case rel => exact ⟨1, by omega, by go_num, Lib.hid ⟨HK.out.1, HK.out.2.1, fun _ hp => (List.not_mem_nil hp).elim⟩⟩
          case measure => simp [intOf]
      · have e0_0 : World.cell? _ ⟨b1, 11, none⟩ = some (.int .i64 g.kind) := cell_at (HK.out.st 0 rfl) 11
        have e0_1 : World.cell? _ ⟨b1, 12, none⟩ = some (.string g.room) := cell_at (HK.out.st 0 rfl) 12
        have e0_2 : World.cell? _ ⟨b1, 13, none⟩ = some (.string g.user) := cell_at (HK.out.st 0 rfl) 13
        have e0_3 : World.cell? _ ⟨b1, 14, none⟩ = some (.string g.event) := cell_at (HK.out.st 0 rfl) 14
        have e0_4 : World.cell? _ ⟨b1, 15, none⟩ = some (.string g.thread) := cell_at (HK.out.st 0 rfl) 15
        have e0_5 : World.cell? _ ⟨b1, 16, none⟩ = some (.bool g.priv) := cell_at (HK.out.st 0 rfl) 16
        have e0_6 : World.cell? _ ⟨b1, 17, none⟩ = some (.bool g.on) := cell_at (HK.out.st 0 rfl) 17
        have e0_7 : World.cell? _ ⟨b1, 18, none⟩ = some (.int .i64 g.span) := cell_at (HK.out.st 0 rfl) 18
        have e0_8 : World.cell? _ ⟨b1, 19, none⟩ = some (.int .i64 g.state) := cell_at (HK.out.st 0 rfl) 19
        have e0_9 : World.cell? _ ⟨b1, 20, none⟩ = some (.int .i64 g.tick) := cell_at (HK.out.st 0 rfl) 20
        have e0_10 : World.cell? _ ⟨b1, 21, none⟩ = some (.int .i64 g.stamp) := cell_at (HK.out.st 0 rfl) 21
        go_wp2_with fail
        clear e0_0 e0_1 e0_2 e0_3 e0_4 e0_5 e0_6 e0_7 e0_8 e0_9 e0_10
        refine (HMg.out _).mono ?_
        rintro e w2 ⟨rfl, hb⟩
        replace HK := Lib.hid (HK.out.later hb)
        clear hb
        cases mg
        · have e0_0 : World.cell? _ ⟨b1, 11, none⟩ = some (.int .i64 g.kind) := cell_at (HK.out.st 0 rfl) 11
          have e0_1 : World.cell? _ ⟨b1, 12, none⟩ = some (.string g.room) := cell_at (HK.out.st 0 rfl) 12
          have e0_2 : World.cell? _ ⟨b1, 13, none⟩ = some (.string g.user) := cell_at (HK.out.st 0 rfl) 13
          have e0_3 : World.cell? _ ⟨b1, 14, none⟩ = some (.string g.event) := cell_at (HK.out.st 0 rfl) 14
          have e0_4 : World.cell? _ ⟨b1, 15, none⟩ = some (.string g.thread) := cell_at (HK.out.st 0 rfl) 15
          have e0_5 : World.cell? _ ⟨b1, 16, none⟩ = some (.bool g.priv) := cell_at (HK.out.st 0 rfl) 16
          have e0_6 : World.cell? _ ⟨b1, 17, none⟩ = some (.bool g.on) := cell_at (HK.out.st 0 rfl) 17
          have e0_7 : World.cell? _ ⟨b1, 18, none⟩ = some (.int .i64 g.span) := cell_at (HK.out.st 0 rfl) 18
          have e0_8 : World.cell? _ ⟨b1, 19, none⟩ = some (.int .i64 g.state) := cell_at (HK.out.st 0 rfl) 19
          have e0_9 : World.cell? _ ⟨b1, 20, none⟩ = some (.int .i64 g.tick) := cell_at (HK.out.st 0 rfl) 20
          have e0_10 : World.cell? _ ⟨b1, 21, none⟩ = some (.int .i64 g.stamp) := cell_at (HK.out.st 0 rfl) 21
          go_wp2_with fail
          clear e0_0 e0_1 e0_2 e0_3 e0_4 e0_5 e0_6 e0_7 e0_8 e0_9 e0_10
          refine (HNg.out (by first | trivial | rfl) _).mono ?_
          rintro e w3 ⟨rfl, hb⟩
          replace HK := Lib.hid (HK.out.later hb)
          clear hb
          go_upto_region 29 with (fail)
          refine wp_region_held_drew (S := fun w' => Keep w [(b1, #[.int .i64 r.kind, .string r.room, .string r.user, .string r.event, .string r.thread, .bool r.priv, .bool r.on, .int .i64 r.span, .int .i64 r.state, .int .i64 r.tick, .int .i64 r.stamp, .int .i64 g.kind, .string g.room, .string g.user, .string g.event, .string g.thread, .bool g.priv, .bool g.on, .int .i64 g.span, .int .i64 g.state, .int .i64 g.tick, .int .i64 g.stamp, .int .i64 od.kind, .string od.room, .string od.user, .string od.event, .string od.thread, .bool od.priv, .bool od.on, .int .i64 od.span, .int .i64 od.state, .int .i64 od.tick, .int .i64 od.stamp], 23), (b5, #[.int .i64 od.kind, .string od.room, .string od.user, .string od.event, .string od.thread, .bool od.priv, .bool od.on, .int .i64 od.span, .int .i64 od.state, .int .i64 od.tick, .int .i64 od.stamp], 23), (b4, #[.int .i64 g.kind, .string g.room, .string g.user, .string g.event, .string g.thread, .bool g.priv, .bool g.on, .int .i64 g.span, .int .i64 g.state, .int .i64 g.tick, .int .i64 g.stamp], 23), (b2, #[.int .i64 r.kind, .string r.room, .string r.user, .string r.event, .string r.thread, .bool r.priv, .bool r.on, .int .i64 r.span, .int .i64 r.state, .int .i64 r.tick, .int .i64 r.stamp], 23), (w.heap.size, #[.int .i64 e.kind, .string e.room, .string e.user, .string e.event, .string e.thread, .bool e.priv, .bool e.on, .int .i64 e.span, .int .i64 e.state, .int .i64 e.tick, .int .i64 e.stamp], 23)] [] w') (by kernel_rfl) HK.out.drew (fun hHeld => ?_)
          generalize hwd : w3.drew = wd at hHeld ⊢
          clear HK hwd
          refine wpAnyH_take (i := 0) (oi := ⟨some 87, _, _, _, _, _⟩) (v := ?vbfu0) rfl (by kernel_rfl) (by kernel_rfl) (by kernel_rfl) (fun _ _ _ h => h) (Or.inl ⟨by rfl, ?ybfu0⟩) hHeld ?rbfu0
          case ybfu0 =>
            intro wx hSx
            go_simp
            try with_reducible rfl
          try simp only [Act.put, List.setIfInBounds_toArray, List.set_cons_zero, List.set_cons_succ]
          refine wpAnyH_take (i := 1) (oi := ⟨some 88, _, _, _, _, _⟩) (v := ?vbfu1) rfl (by kernel_rfl) (by kernel_rfl) (by kernel_rfl) (fun _ _ _ h => h) (Or.inl ⟨by rfl, ?ybfu1⟩) hHeld ?rbfu1
          case ybfu1 =>
            intro wx hSx
            go_simp
            try with_reducible rfl
          try simp only [Act.put, List.setIfInBounds_toArray, List.set_cons_zero, List.set_cons_succ]
          refine wpAnyH_take (i := 2) (oi := ⟨some 89, _, _, _, _, _⟩) (v := ?vbfu2) rfl (by kernel_rfl) (by kernel_rfl) (by kernel_rfl) (fun _ _ _ h => h) (Or.inl ⟨by rfl, ?ybfu2⟩) hHeld ?rbfu2
          case ybfu2 =>
            intro wx hSx
            go_simp
            try with_reducible rfl
          try simp only [Act.put, List.setIfInBounds_toArray, List.set_cons_zero, List.set_cons_succ]
          refine wpAnyH_take (i := 3) (oi := ⟨some 90, _, _, _, _, _⟩) (v := ?vbfu3) rfl (by kernel_rfl) (by kernel_rfl) (by kernel_rfl) (fun _ _ _ h => h) (Or.inl ⟨by rfl, ?ybfu3⟩) hHeld ?rbfu3
          case ybfu3 =>
            intro wx hSx
            have e0 : World.cell? _ ⟨b1, 11, none⟩ = some (.int .i64 g.kind) := cell_at (hSx.st 0 rfl) 11
            have e1 : World.cell? _ ⟨b1, 12, none⟩ = some (.string g.room) := cell_at (hSx.st 0 rfl) 12
            have e2 : World.cell? _ ⟨b1, 13, none⟩ = some (.string g.user) := cell_at (hSx.st 0 rfl) 13
            have e3 : World.cell? _ ⟨b1, 14, none⟩ = some (.string g.event) := cell_at (hSx.st 0 rfl) 14
            have e4 : World.cell? _ ⟨b1, 15, none⟩ = some (.string g.thread) := cell_at (hSx.st 0 rfl) 15
            have e5 : World.cell? _ ⟨b1, 16, none⟩ = some (.bool g.priv) := cell_at (hSx.st 0 rfl) 16
            have e6 : World.cell? _ ⟨b1, 17, none⟩ = some (.bool g.on) := cell_at (hSx.st 0 rfl) 17
            have e7 : World.cell? _ ⟨b1, 18, none⟩ = some (.int .i64 g.span) := cell_at (hSx.st 0 rfl) 18
            have e8 : World.cell? _ ⟨b1, 19, none⟩ = some (.int .i64 g.state) := cell_at (hSx.st 0 rfl) 19
            have e9 : World.cell? _ ⟨b1, 20, none⟩ = some (.int .i64 g.tick) := cell_at (hSx.st 0 rfl) 20
            have e10 : World.cell? _ ⟨b1, 21, none⟩ = some (.int .i64 g.stamp) := cell_at (hSx.st 0 rfl) 21
            go_simp
            try with_reducible rfl
          try simp only [Act.put, List.setIfInBounds_toArray, List.set_cons_zero, List.set_cons_succ]
          refine wpAnyH_take (i := 5) (oi := ⟨some 92, _, _, _, _, _⟩) (v := ?vbfu5) rfl (by kernel_rfl) (by kernel_rfl) (by kernel_rfl) (fun _ _ _ h => h) (Or.inl ⟨by rfl, ?ybfu5⟩) hHeld ?rbfu5
          case ybfu5 =>
            intro wx hSx
            go_simp
            try with_reducible rfl
          try simp only [Act.put, List.setIfInBounds_toArray, List.set_cons_zero, List.set_cons_succ]
          refine wpAnyH_ready (rs := [4]) (by kernel_rfl) (by simp) ?_
          refine AllReadyH.cons (o := ⟨some 91, _, _, _, _, _⟩) rfl (fun K hK => ?_) AllReadyH.nil
          go_simp
          refine (Hmg.out _).mono ?_
          rintro e wnbfu4 ⟨rfl, hbn⟩
          replace hHeld := hHeld.later hbn
          refine hK.out _ _ hHeld (fun _ => ?_)
          clear hK K hbn
          try simp only [Act.put, List.setIfInBounds_toArray, List.set_cons_zero, List.set_cons_succ]
          refine wpAnyH_take (i := 6) (oi := ⟨some 93, _, _, _, _, _⟩) (v := ?vbfu6) rfl (by kernel_rfl) (by kernel_rfl) (by kernel_rfl) (fun _ _ _ h => h) (Or.inl ⟨by rfl, ?ybfu6⟩) hHeld ?rbfu6
          case ybfu6 =>
            intro wx hSx
            go_simp
            try with_reducible rfl
          try simp only [Act.put, List.setIfInBounds_toArray, List.set_cons_zero, List.set_cons_succ]
          refine wpAnyH_take (i := 7) (oi := ⟨some 94, _, _, _, _, _⟩) (v := ?vbfu7) rfl (by kernel_rfl) (by kernel_rfl) (by kernel_rfl) (fun _ _ _ h => h) (Or.inl ⟨by rfl, ?ybfu7⟩) hHeld ?rbfu7
          case ybfu7 =>
            intro wx hSx
            go_simp
            try with_reducible rfl
          try simp only [Act.put, List.setIfInBounds_toArray, List.set_cons_zero, List.set_cons_succ]
          refine wpAnyH_take (i := 8) (oi := ⟨some 95, _, _, _, _, _⟩) (v := ?vbfu8) rfl (by kernel_rfl) (by kernel_rfl) (by kernel_rfl) (fun _ _ _ h => h) (Or.inl ⟨by rfl, ?ybfu8⟩) hHeld ?rbfu8
          case ybfu8 =>
            intro wx hSx
            go_simp
            try with_reducible rfl
          try simp only [Act.put, List.setIfInBounds_toArray, List.set_cons_zero, List.set_cons_succ]
          refine wpAnyH_take (i := 9) (oi := ⟨some 96, _, _, _, _, _⟩) (v := ?vbfu9) rfl (by kernel_rfl) (by kernel_rfl) (by kernel_rfl) (fun _ _ _ h => h) (Or.inl ⟨by rfl, ?ybfu9⟩) hHeld ?rbfu9
          case ybfu9 =>
            intro wx hSx
            go_simp
            try with_reducible rfl
          try simp only [Act.put, List.setIfInBounds_toArray, List.set_cons_zero, List.set_cons_succ]
          refine wpAnyH_take (i := 10) (oi := ⟨some 97, _, _, _, _, _⟩) (v := ?vbfu10) rfl (by kernel_rfl) (by kernel_rfl) (by kernel_rfl) (fun _ _ _ h => h) (Or.inl ⟨by rfl, ?ybfu10⟩) hHeld ?rbfu10
          case ybfu10 =>
            intro wx hSx
            go_simp
            try with_reducible rfl
          try simp only [Act.put, List.setIfInBounds_toArray, List.set_cons_zero, List.set_cons_succ]
          refine wpAnyH_take (i := 11) (oi := ⟨some 98, _, _, _, _, _⟩) (v := ?vbfu11) rfl (by kernel_rfl) (by kernel_rfl) (by kernel_rfl) (fun _ _ _ h => h) (Or.inl ⟨by rfl, ?ybfu11⟩) hHeld ?rbfu11
          case ybfu11 =>
            intro wx hSx
            have e0 : World.cell? _ ⟨b1, 11, none⟩ = some (.int .i64 g.kind) := cell_at (hSx.st 0 rfl) 11
            have e1 : World.cell? _ ⟨b1, 12, none⟩ = some (.string g.room) := cell_at (hSx.st 0 rfl) 12
            have e2 : World.cell? _ ⟨b1, 13, none⟩ = some (.string g.user) := cell_at (hSx.st 0 rfl) 13
            have e3 : World.cell? _ ⟨b1, 14, none⟩ = some (.string g.event) := cell_at (hSx.st 0 rfl) 14
            have e4 : World.cell? _ ⟨b1, 15, none⟩ = some (.string g.thread) := cell_at (hSx.st 0 rfl) 15
            have e5 : World.cell? _ ⟨b1, 16, none⟩ = some (.bool g.priv) := cell_at (hSx.st 0 rfl) 16
            have e6 : World.cell? _ ⟨b1, 17, none⟩ = some (.bool g.on) := cell_at (hSx.st 0 rfl) 17
            have e7 : World.cell? _ ⟨b1, 18, none⟩ = some (.int .i64 g.span) := cell_at (hSx.st 0 rfl) 18
            have e8 : World.cell? _ ⟨b1, 19, none⟩ = some (.int .i64 g.state) := cell_at (hSx.st 0 rfl) 19
            have e9 : World.cell? _ ⟨b1, 20, none⟩ = some (.int .i64 g.tick) := cell_at (hSx.st 0 rfl) 20
            have e10 : World.cell? _ ⟨b1, 21, none⟩ = some (.int .i64 g.stamp) := cell_at (hSx.st 0 rfl) 21
            go_simp
            try with_reducible rfl
          try simp only [Act.put, List.setIfInBounds_toArray, List.set_cons_zero, List.set_cons_succ]
          refine wpAnyH_take (i := 13) (oi := ⟨some 100, _, _, _, _, _⟩) (v := ?vbfu13) rfl (by kernel_rfl) (by kernel_rfl) (by kernel_rfl) (fun _ _ _ h => h) (Or.inl ⟨by rfl, ?ybfu13⟩) hHeld ?rbfu13
          case ybfu13 =>
            intro wx hSx
            go_simp
            try with_reducible rfl
          try simp only [Act.put, List.setIfInBounds_toArray, List.set_cons_zero, List.set_cons_succ]
          refine wpAnyH_take (i := 14) (oi := ⟨some 101, _, _, _, _, _⟩) (v := ?vbfu14) rfl (by kernel_rfl) (by kernel_rfl) (by kernel_rfl) (fun _ _ _ h => h) (Or.inl ⟨by rfl, ?ybfu14⟩) hHeld ?rbfu14
          case ybfu14 =>
            intro wx hSx
            go_simp
            try with_reducible rfl
          try simp only [Act.put, List.setIfInBounds_toArray, List.set_cons_zero, List.set_cons_succ]
          refine wpAnyH_take (i := 15) (oi := ⟨some 102, _, _, _, _, _⟩) (v := ?vbfu15) rfl (by kernel_rfl) (by kernel_rfl) (by kernel_rfl) (fun _ _ _ h => h) (Or.inl ⟨by rfl, ?ybfu15⟩) hHeld ?rbfu15
          case ybfu15 =>
            intro wx hSx
            go_simp
            try with_reducible rfl
          try simp only [Act.put, List.setIfInBounds_toArray, List.set_cons_zero, List.set_cons_succ]
          refine wpAnyH_take (i := 16) (oi := ⟨some 103, _, _, _, _, _⟩) (v := ?vbfu16) rfl (by kernel_rfl) (by kernel_rfl) (by kernel_rfl) (fun _ _ _ h => h) (Or.inl ⟨by rfl, ?ybfu16⟩) hHeld ?rbfu16
          case ybfu16 =>
            intro wx hSx
            have e0 : World.cell? _ ⟨b1, 11, none⟩ = some (.int .i64 g.kind) := cell_at (hSx.st 0 rfl) 11
            have e1 : World.cell? _ ⟨b1, 12, none⟩ = some (.string g.room) := cell_at (hSx.st 0 rfl) 12
            have e2 : World.cell? _ ⟨b1, 13, none⟩ = some (.string g.user) := cell_at (hSx.st 0 rfl) 13
            have e3 : World.cell? _ ⟨b1, 14, none⟩ = some (.string g.event) := cell_at (hSx.st 0 rfl) 14
            have e4 : World.cell? _ ⟨b1, 15, none⟩ = some (.string g.thread) := cell_at (hSx.st 0 rfl) 15
            have e5 : World.cell? _ ⟨b1, 16, none⟩ = some (.bool g.priv) := cell_at (hSx.st 0 rfl) 16
            have e6 : World.cell? _ ⟨b1, 17, none⟩ = some (.bool g.on) := cell_at (hSx.st 0 rfl) 17
            have e7 : World.cell? _ ⟨b1, 18, none⟩ = some (.int .i64 g.span) := cell_at (hSx.st 0 rfl) 18
            have e8 : World.cell? _ ⟨b1, 19, none⟩ = some (.int .i64 g.state) := cell_at (hSx.st 0 rfl) 19
            have e9 : World.cell? _ ⟨b1, 20, none⟩ = some (.int .i64 g.tick) := cell_at (hSx.st 0 rfl) 20
            have e10 : World.cell? _ ⟨b1, 21, none⟩ = some (.int .i64 g.stamp) := cell_at (hSx.st 0 rfl) 21
            go_simp
            try with_reducible rfl
          try simp only [Act.put, List.setIfInBounds_toArray, List.set_cons_zero, List.set_cons_succ]
          refine wpAnyH_ready (rs := [12]) (by kernel_rfl) (by simp) ?_
          refine AllReadyH.cons (o := ⟨some 99, _, _, _, _, _⟩) rfl (fun K hK => ?_) AllReadyH.nil
          go_simp
          refine (Hlg.out _).mono ?_
          rintro e wnbfu12 ⟨rfl, hbn⟩
          replace hHeld := hHeld.later hbn
          refine hK.out _ _ hHeld (fun _ => ?_)
          clear hK K hbn
          try simp only [Act.put, List.setIfInBounds_toArray, List.set_cons_zero, List.set_cons_succ]
          refine wpAnyH_ready (rs := [17]) (by kernel_rfl) (by simp) ?_
          refine AllReadyH.cons (o := ⟨some 104, _, _, _, _, _⟩) rfl (fun K hK => ?_) AllReadyH.nil
          go_simp
          refine (HLg.out _).mono ?_
          rintro e wnbfu17 ⟨rfl, hbn⟩
          replace hHeld := hHeld.later hbn
          refine hK.out _ _ hHeld (fun _ => ?_)
          clear hK K hbn
          try simp only [Act.put, List.setIfInBounds_toArray, List.set_cons_zero, List.set_cons_succ]
          refine wpAnyH_take (i := 18) (oi := ⟨some 105, _, _, _, _, _⟩) (v := ?vbfu18) rfl (by kernel_rfl) (by kernel_rfl) (by kernel_rfl) (fun _ _ _ h => h) (Or.inl ⟨by rfl, ?ybfu18⟩) hHeld ?rbfu18
          case ybfu18 =>
            intro wx hSx
            go_simp
            try with_reducible rfl
          try simp only [Act.put, List.setIfInBounds_toArray, List.set_cons_zero, List.set_cons_succ]
          refine wpAnyH_take (i := 19) (oi := ⟨some 106, _, _, _, _, _⟩) (v := ?vbfu19) rfl (by kernel_rfl) (by kernel_rfl) (by kernel_rfl) (fun _ _ _ h => h) (Or.inl ⟨by rfl, ?ybfu19⟩) hHeld ?rbfu19
          case ybfu19 =>
            intro wx hSx
            go_simp
            try with_reducible rfl
          try simp only [Act.put, List.setIfInBounds_toArray, List.set_cons_zero, List.set_cons_succ]
          refine wpAnyH_take (i := 20) (oi := ⟨some 107, _, _, _, _, _⟩) (v := ?vbfu20) rfl (by kernel_rfl) (by kernel_rfl) (by kernel_rfl) (fun _ _ _ h => h) (Or.inl ⟨by rfl, ?ybfu20⟩) hHeld ?rbfu20
          case ybfu20 =>
            intro wx hSx
            go_simp
            try with_reducible rfl
          try simp only [Act.put, List.setIfInBounds_toArray, List.set_cons_zero, List.set_cons_succ]
          refine wpAnyH_take (i := 21) (oi := ⟨some 108, _, _, _, _, _⟩) (v := ?vbfu21) rfl (by kernel_rfl) (by kernel_rfl) (by kernel_rfl) (fun _ _ _ h => h) (Or.inl ⟨by rfl, ?ybfu21⟩) hHeld ?rbfu21
          case ybfu21 =>
            intro wx hSx
            go_simp
            try with_reducible rfl
          try simp only [Act.put, List.setIfInBounds_toArray, List.set_cons_zero, List.set_cons_succ]
          refine wpAnyH_take (i := 22) (oi := ⟨some 109, _, _, _, _, _⟩) (v := ?vbfu22) rfl (by kernel_rfl) (by kernel_rfl) (by kernel_rfl) (fun _ _ _ h => h) (Or.inl ⟨by rfl, ?ybfu22⟩) hHeld ?rbfu22
          case ybfu22 =>
            intro wx hSx
            go_simp
            try with_reducible rfl
          try simp only [Act.put, List.setIfInBounds_toArray, List.set_cons_zero, List.set_cons_succ]
          refine wpAnyH_take (i := 23) (oi := ⟨some 110, _, _, _, _, _⟩) (v := ?vbfu23) rfl (by kernel_rfl) (by kernel_rfl) (by kernel_rfl) (fun _ _ _ h => h) (Or.inl ⟨by rfl, ?ybfu23⟩) hHeld ?rbfu23
          case ybfu23 =>
            intro wx hSx
            go_simp
            try with_reducible rfl
          try simp only [Act.put, List.setIfInBounds_toArray, List.set_cons_zero, List.set_cons_succ]
          refine wpAnyH_take (i := 24) (oi := ⟨some 111, _, _, _, _, _⟩) (v := ?vbfu24) rfl (by kernel_rfl) (by kernel_rfl) (by kernel_rfl) (fun _ _ _ h => h) (Or.inl ⟨by rfl, ?ybfu24⟩) hHeld ?rbfu24
          case ybfu24 =>
            intro wx hSx
            go_simp
            try with_reducible rfl
          try simp only [Act.put, List.setIfInBounds_toArray, List.set_cons_zero, List.set_cons_succ]
          refine wpAnyH_take (i := 25) (oi := ⟨some 112, _, _, _, _, _⟩) (v := ?vbfu25) rfl (by kernel_rfl) (by kernel_rfl) (by kernel_rfl) (fun _ _ _ h => h) (Or.inl ⟨by rfl, ?ybfu25⟩) hHeld ?rbfu25
          case ybfu25 =>
            intro wx hSx
            go_simp
            try with_reducible rfl
          try simp only [Act.put, List.setIfInBounds_toArray, List.set_cons_zero, List.set_cons_succ]
          refine wpAnyH_done (by kernel_rfl) ?_ _
          have HK := Lib.hid hHeld
          clear hHeld
          go_upto_region 31 with (fail)
          refine wp_region_held_drew (S := fun w' => Keep w [(b1, #[.int .i64 r.kind, .string r.room, .string r.user, .string r.event, .string r.thread, .bool r.priv, .bool r.on, .int .i64 r.span, .int .i64 r.state, .int .i64 r.tick, .int .i64 r.stamp, .int .i64 g.kind, .string g.room, .string g.user, .string g.event, .string g.thread, .bool g.priv, .bool g.on, .int .i64 g.span, .int .i64 g.state, .int .i64 g.tick, .int .i64 g.stamp, .int .i64 od.kind, .string od.room, .string od.user, .string od.event, .string od.thread, .bool od.priv, .bool od.on, .int .i64 od.span, .int .i64 od.state, .int .i64 od.tick, .int .i64 od.stamp], 23), (b5, #[.int .i64 od.kind, .string od.room, .string od.user, .string od.event, .string od.thread, .bool od.priv, .bool od.on, .int .i64 od.span, .int .i64 od.state, .int .i64 od.tick, .int .i64 od.stamp], 23), (b4, #[.int .i64 g.kind, .string g.room, .string g.user, .string g.event, .string g.thread, .bool g.priv, .bool g.on, .int .i64 g.span, .int .i64 g.state, .int .i64 g.tick, .int .i64 g.stamp], 23), (b2, #[.int .i64 r.kind, .string r.room, .string r.user, .string r.event, .string r.thread, .bool r.priv, .bool r.on, .int .i64 r.span, .int .i64 r.state, .int .i64 r.tick, .int .i64 r.stamp], 23), (w.heap.size, #[.int .i64 e.kind, .string e.room, .string e.user, .string e.event, .string e.thread, .bool e.priv, .bool e.on, .int .i64 e.span, .int .i64 e.state, .int .i64 e.tick, .int .i64 e.stamp], 23)] [] w') (by kernel_rfl) HK.out.drew (fun hHeld => ?_)
          generalize hwd : wnbfu17.drew = wd at hHeld ⊢
          clear HK hwd
          refine wpAnyH_take (i := 0) (oi := ⟨some 113, _, _, _, _, _⟩) (v := ?vbfv0) rfl (by kernel_rfl) (by kernel_rfl) (by kernel_rfl) (fun _ _ _ h => h) (Or.inl ⟨by rfl, ?ybfv0⟩) hHeld ?rbfv0
          case ybfv0 =>
            intro wx hSx
            go_simp
            try with_reducible rfl
          try simp only [Act.put, List.setIfInBounds_toArray, List.set_cons_zero, List.set_cons_succ]
          refine wpAnyH_take (i := 1) (oi := ⟨some 114, _, _, _, _, _⟩) (v := ?vbfv1) rfl (by kernel_rfl) (by kernel_rfl) (by kernel_rfl) (fun _ _ _ h => h) (Or.inl ⟨by rfl, ?ybfv1⟩) hHeld ?rbfv1
          case ybfv1 =>
            intro wx hSx
            go_simp
            try with_reducible rfl
          try simp only [Act.put, List.setIfInBounds_toArray, List.set_cons_zero, List.set_cons_succ]
          refine wpAnyH_take (i := 2) (oi := ⟨some 115, _, _, _, _, _⟩) (v := undef) rfl (by kernel_rfl) (by kernel_rfl) (by kernel_rfl) (fun _ _ _ h => h) (Or.inr ⟨by rfl, rfl⟩) hHeld ?rbfv2
          try simp only [Act.put, List.setIfInBounds_toArray, List.set_cons_zero, List.set_cons_succ]
          refine wpAnyH_take (i := 3) (oi := ⟨some 116, _, _, _, _, _⟩) (v := undef) rfl (by kernel_rfl) (by kernel_rfl) (by kernel_rfl) (fun _ _ _ h => h) (Or.inr ⟨by rfl, rfl⟩) hHeld ?rbfv3
          try simp only [Act.put, List.setIfInBounds_toArray, List.set_cons_zero, List.set_cons_succ]
          refine wpAnyH_take (i := 4) (oi := ⟨some 117, _, _, _, _, _⟩) (v := undef) rfl (by kernel_rfl) (by kernel_rfl) (by kernel_rfl) (fun _ _ _ h => h) (Or.inr ⟨by rfl, rfl⟩) hHeld ?rbfv4
          try simp only [Act.put, List.setIfInBounds_toArray, List.set_cons_zero, List.set_cons_succ]
          refine wpAnyH_take (i := 5) (oi := ⟨some 118, _, _, _, _, _⟩) (v := undef) rfl (by kernel_rfl) (by kernel_rfl) (by kernel_rfl) (fun _ _ _ h => h) (Or.inr ⟨by rfl, rfl⟩) hHeld ?rbfv5
          try simp only [Act.put, List.setIfInBounds_toArray, List.set_cons_zero, List.set_cons_succ]
          refine wpAnyH_take (i := 6) (oi := ⟨some 119, _, _, _, _, _⟩) (v := undef) rfl (by kernel_rfl) (by kernel_rfl) (by kernel_rfl) (fun _ _ _ h => h) (Or.inr ⟨by rfl, rfl⟩) hHeld ?rbfv6
          try simp only [Act.put, List.setIfInBounds_toArray, List.set_cons_zero, List.set_cons_succ]
          refine wpAnyH_take (i := 7) (oi := ⟨some 120, _, _, _, _, _⟩) (v := undef) rfl (by kernel_rfl) (by kernel_rfl) (by kernel_rfl) (fun _ _ _ h => h) (Or.inr ⟨by rfl, rfl⟩) hHeld ?rbfv7
          try simp only [Act.put, List.setIfInBounds_toArray, List.set_cons_zero, List.set_cons_succ]
          refine wpAnyH_take (i := 8) (oi := ⟨some 121, _, _, _, _, _⟩) (v := undef) rfl (by kernel_rfl) (by kernel_rfl) (by kernel_rfl) (fun _ _ _ h => h) (Or.inr ⟨by rfl, rfl⟩) hHeld ?rbfv8
          try simp only [Act.put, List.setIfInBounds_toArray, List.set_cons_zero, List.set_cons_succ]
          refine wpAnyH_take (i := 9) (oi := ⟨some 122, _, _, _, _, _⟩) (v := undef) rfl (by kernel_rfl) (by kernel_rfl) (by kernel_rfl) (fun _ _ _ h => h) (Or.inr ⟨by rfl, rfl⟩) hHeld ?rbfv9
          try simp only [Act.put, List.setIfInBounds_toArray, List.set_cons_zero, List.set_cons_succ]
          refine wpAnyH_take (i := 10) (oi := ⟨some 123, _, _, _, _, _⟩) (v := undef) rfl (by kernel_rfl) (by kernel_rfl) (by kernel_rfl) (fun _ _ _ h => h) (Or.inr ⟨by rfl, rfl⟩) hHeld ?rbfv10
          try simp only [Act.put, List.setIfInBounds_toArray, List.set_cons_zero, List.set_cons_succ]
          refine wpAnyH_take (i := 11) (oi := ⟨some 124, _, _, _, _, _⟩) (v := ?vbfv11) rfl (by kernel_rfl) (by kernel_rfl) (by kernel_rfl) (fun _ _ _ h => h) (Or.inl ⟨by rfl, ?ybfv11⟩) hHeld ?rbfv11
          case ybfv11 =>
            intro wx hSx
            go_simp
            try with_reducible rfl
          try simp only [Act.put, List.setIfInBounds_toArray, List.set_cons_zero, List.set_cons_succ]
          refine wpAnyH_done (by kernel_rfl) ?_ _
          have HK := Lib.hid hHeld
          clear hHeld
          go_wp2_with fail
          go_roundw
          case rel => exact ⟨2, by omega, by go_num, Lib.hid ⟨HK.out.1, HK.out.2.1, fun _ hp => (List.not_mem_nil hp).elim⟩⟩
          case measure => simp [intOf]
        · have e0_0 : World.cell? _ ⟨b1, 11, none⟩ = some (.int .i64 g.kind) := cell_at (HK.out.st 0 rfl) 11
          have e0_1 : World.cell? _ ⟨b1, 12, none⟩ = some (.string g.room) := cell_at (HK.out.st 0 rfl) 12
          have e0_2 : World.cell? _ ⟨b1, 13, none⟩ = some (.string g.user) := cell_at (HK.out.st 0 rfl) 13
          have e0_3 : World.cell? _ ⟨b1, 14, none⟩ = some (.string g.event) := cell_at (HK.out.st 0 rfl) 14
          have e0_4 : World.cell? _ ⟨b1, 15, none⟩ = some (.string g.thread) := cell_at (HK.out.st 0 rfl) 15
          have e0_5 : World.cell? _ ⟨b1, 16, none⟩ = some (.bool g.priv) := cell_at (HK.out.st 0 rfl) 16
          have e0_6 : World.cell? _ ⟨b1, 17, none⟩ = some (.bool g.on) := cell_at (HK.out.st 0 rfl) 17
          have e0_7 : World.cell? _ ⟨b1, 18, none⟩ = some (.int .i64 g.span) := cell_at (HK.out.st 0 rfl) 18
          have e0_8 : World.cell? _ ⟨b1, 19, none⟩ = some (.int .i64 g.state) := cell_at (HK.out.st 0 rfl) 19
          have e0_9 : World.cell? _ ⟨b1, 20, none⟩ = some (.int .i64 g.tick) := cell_at (HK.out.st 0 rfl) 20
          have e0_10 : World.cell? _ ⟨b1, 21, none⟩ = some (.int .i64 g.stamp) := cell_at (HK.out.st 0 rfl) 21
          go_wp2_with fail
          clear e0_0 e0_1 e0_2 e0_3 e0_4 e0_5 e0_6 e0_7 e0_8 e0_9 e0_10
          refine (HYg.out (by first | trivial | rfl) _).mono ?_
          rintro e w3 ⟨⟨g3, cap3, rfl, hg, ho⟩, hb⟩
          replace HK := Lib.hid (show Keep w [(b1, #[.int .i64 r.kind, .string r.room, .string r.user, .string r.event, .string r.thread, .bool r.priv, .bool r.on, .int .i64 r.span, .int .i64 r.state, .int .i64 r.tick, .int .i64 r.stamp, .int .i64 g.kind, .string g.room, .string g.user, .string g.event, .string g.thread, .bool g.priv, .bool g.on, .int .i64 g.span, .int .i64 g.state, .int .i64 g.tick, .int .i64 g.stamp, .int .i64 od.kind, .string od.room, .string od.user, .string od.event, .string od.thread, .bool od.priv, .bool od.on, .int .i64 od.span, .int .i64 od.state, .int .i64 od.tick, .int .i64 od.stamp], 23), (b5, #[.int .i64 od.kind, .string od.room, .string od.user, .string od.event, .string od.thread, .bool od.priv, .bool od.on, .int .i64 od.span, .int .i64 od.state, .int .i64 od.tick, .int .i64 od.stamp], 23), (b4, #[.int .i64 g.kind, .string g.room, .string g.user, .string g.event, .string g.thread, .bool g.priv, .bool g.on, .int .i64 g.span, .int .i64 g.state, .int .i64 g.tick, .int .i64 g.stamp], 23), (b2, #[.int .i64 r.kind, .string r.room, .string r.user, .string r.event, .string r.thread, .bool r.priv, .bool r.on, .int .i64 r.span, .int .i64 r.state, .int .i64 r.tick, .int .i64 r.stamp], 23), (w.heap.size, #[.int .i64 e.kind, .string e.room, .string e.user, .string e.event, .string e.thread, .bool e.priv, .bool e.on, .int .i64 e.span, .int .i64 e.state, .int .i64 e.tick, .int .i64 e.stamp], 23)] [(.slice (some ⟨g3, 0, none⟩) yg.length cap3, yg)] w3 from (HK.out.later hb).consR (ho.row (Nat.zero_le _)))
          clear hb ho hg
          go_upto_region 29 with (fail)
          refine wp_region_held_drew (S := fun w' => Keep w [(b1, #[.int .i64 r.kind, .string r.room, .string r.user, .string r.event, .string r.thread, .bool r.priv, .bool r.on, .int .i64 r.span, .int .i64 r.state, .int .i64 r.tick, .int .i64 r.stamp, .int .i64 g.kind, .string g.room, .string g.user, .string g.event, .string g.thread, .bool g.priv, .bool g.on, .int .i64 g.span, .int .i64 g.state, .int .i64 g.tick, .int .i64 g.stamp, .int .i64 od.kind, .string od.room, .string od.user, .string od.event, .string od.thread, .bool od.priv, .bool od.on, .int .i64 od.span, .int .i64 od.state, .int .i64 od.tick, .int .i64 od.stamp], 23), (b5, #[.int .i64 od.kind, .string od.room, .string od.user, .string od.event, .string od.thread, .bool od.priv, .bool od.on, .int .i64 od.span, .int .i64 od.state, .int .i64 od.tick, .int .i64 od.stamp], 23), (b4, #[.int .i64 g.kind, .string g.room, .string g.user, .string g.event, .string g.thread, .bool g.priv, .bool g.on, .int .i64 g.span, .int .i64 g.state, .int .i64 g.tick, .int .i64 g.stamp], 23), (b2, #[.int .i64 r.kind, .string r.room, .string r.user, .string r.event, .string r.thread, .bool r.priv, .bool r.on, .int .i64 r.span, .int .i64 r.state, .int .i64 r.tick, .int .i64 r.stamp], 23), (w.heap.size, #[.int .i64 e.kind, .string e.room, .string e.user, .string e.event, .string e.thread, .bool e.priv, .bool e.on, .int .i64 e.span, .int .i64 e.state, .int .i64 e.tick, .int .i64 e.stamp], 23)] [(.slice (some ⟨g3, 0, none⟩) yg.length cap3, yg)] w') (by kernel_rfl) HK.out.drew (fun hHeld => ?_)
          generalize hwd : w3.drew = wd at hHeld ⊢
          clear HK hwd
          refine wpAnyH_take (i := 0) (oi := ⟨some 87, _, _, _, _, _⟩) (v := ?vbtu0) rfl (by kernel_rfl) (by kernel_rfl) (by kernel_rfl) (fun _ _ _ h => h) (Or.inl ⟨by rfl, ?ybtu0⟩) hHeld ?rbtu0
          case ybtu0 =>
            intro wx hSx
            go_simp
            try with_reducible rfl
          try simp only [Act.put, List.setIfInBounds_toArray, List.set_cons_zero, List.set_cons_succ]
          refine wpAnyH_take (i := 1) (oi := ⟨some 88, _, _, _, _, _⟩) (v := ?vbtu1) rfl (by kernel_rfl) (by kernel_rfl) (by kernel_rfl) (fun _ _ _ h => h) (Or.inl ⟨by rfl, ?ybtu1⟩) hHeld ?rbtu1
          case ybtu1 =>
            intro wx hSx
            go_simp
            try with_reducible rfl
          try simp only [Act.put, List.setIfInBounds_toArray, List.set_cons_zero, List.set_cons_succ]
          refine wpAnyH_take (i := 2) (oi := ⟨some 89, _, _, _, _, _⟩) (v := ?vbtu2) rfl (by kernel_rfl) (by kernel_rfl) (by kernel_rfl) (fun _ _ _ h => h) (Or.inl ⟨by rfl, ?ybtu2⟩) hHeld ?rbtu2
          case ybtu2 =>
            intro wx hSx
            go_simp
            try with_reducible rfl
          try simp only [Act.put, List.setIfInBounds_toArray, List.set_cons_zero, List.set_cons_succ]
          refine wpAnyH_take (i := 3) (oi := ⟨some 90, _, _, _, _, _⟩) (v := ?vbtu3) rfl (by kernel_rfl) (by kernel_rfl) (by kernel_rfl) (fun _ _ _ h => h) (Or.inl ⟨by rfl, ?ybtu3⟩) hHeld ?rbtu3
          case ybtu3 =>
            intro wx hSx
            have e0 : World.cell? _ ⟨b1, 11, none⟩ = some (.int .i64 g.kind) := cell_at (hSx.st 0 rfl) 11
            have e1 : World.cell? _ ⟨b1, 12, none⟩ = some (.string g.room) := cell_at (hSx.st 0 rfl) 12
            have e2 : World.cell? _ ⟨b1, 13, none⟩ = some (.string g.user) := cell_at (hSx.st 0 rfl) 13
            have e3 : World.cell? _ ⟨b1, 14, none⟩ = some (.string g.event) := cell_at (hSx.st 0 rfl) 14
            have e4 : World.cell? _ ⟨b1, 15, none⟩ = some (.string g.thread) := cell_at (hSx.st 0 rfl) 15
            have e5 : World.cell? _ ⟨b1, 16, none⟩ = some (.bool g.priv) := cell_at (hSx.st 0 rfl) 16
            have e6 : World.cell? _ ⟨b1, 17, none⟩ = some (.bool g.on) := cell_at (hSx.st 0 rfl) 17
            have e7 : World.cell? _ ⟨b1, 18, none⟩ = some (.int .i64 g.span) := cell_at (hSx.st 0 rfl) 18
            have e8 : World.cell? _ ⟨b1, 19, none⟩ = some (.int .i64 g.state) := cell_at (hSx.st 0 rfl) 19
            have e9 : World.cell? _ ⟨b1, 20, none⟩ = some (.int .i64 g.tick) := cell_at (hSx.st 0 rfl) 20
            have e10 : World.cell? _ ⟨b1, 21, none⟩ = some (.int .i64 g.stamp) := cell_at (hSx.st 0 rfl) 21
            go_simp
            try with_reducible rfl
          try simp only [Act.put, List.setIfInBounds_toArray, List.set_cons_zero, List.set_cons_succ]
          refine wpAnyH_take (i := 5) (oi := ⟨some 92, _, _, _, _, _⟩) (v := ?vbtu5) rfl (by kernel_rfl) (by kernel_rfl) (by kernel_rfl) (fun _ _ _ h => h) (Or.inl ⟨by rfl, ?ybtu5⟩) hHeld ?rbtu5
          case ybtu5 =>
            intro wx hSx
            go_simp
            try with_reducible rfl
          try simp only [Act.put, List.setIfInBounds_toArray, List.set_cons_zero, List.set_cons_succ]
          refine wpAnyH_ready (rs := [4]) (by kernel_rfl) (by simp) ?_
          refine AllReadyH.cons (o := ⟨some 91, _, _, _, _, _⟩) rfl (fun K hK => ?_) AllReadyH.nil
          go_simp
          refine (Hmg.out _).mono ?_
          rintro e wnbtu4 ⟨rfl, hbn⟩
          replace hHeld := hHeld.later hbn
          refine hK.out _ _ hHeld (fun _ => ?_)
          clear hK K hbn
          try simp only [Act.put, List.setIfInBounds_toArray, List.set_cons_zero, List.set_cons_succ]
          refine wpAnyH_take (i := 6) (oi := ⟨some 93, _, _, _, _, _⟩) (v := ?vbtu6) rfl (by kernel_rfl) (by kernel_rfl) (by kernel_rfl) (fun _ _ _ h => h) (Or.inl ⟨by rfl, ?ybtu6⟩) hHeld ?rbtu6
          case ybtu6 =>
            intro wx hSx
            go_simp
            try with_reducible rfl
          try simp only [Act.put, List.setIfInBounds_toArray, List.set_cons_zero, List.set_cons_succ]
          refine wpAnyH_take (i := 7) (oi := ⟨some 94, _, _, _, _, _⟩) (v := ?vbtu7) rfl (by kernel_rfl) (by kernel_rfl) (by kernel_rfl) (fun _ _ _ h => h) (Or.inl ⟨by rfl, ?ybtu7⟩) hHeld ?rbtu7
          case ybtu7 =>
            intro wx hSx
            go_simp
            try with_reducible rfl
          try simp only [Act.put, List.setIfInBounds_toArray, List.set_cons_zero, List.set_cons_succ]
          refine wpAnyH_take (i := 8) (oi := ⟨some 95, _, _, _, _, _⟩) (v := ?vbtu8) rfl (by kernel_rfl) (by kernel_rfl) (by kernel_rfl) (fun _ _ _ h => h) (Or.inl ⟨by rfl, ?ybtu8⟩) hHeld ?rbtu8
          case ybtu8 =>
            intro wx hSx
            go_simp
            try with_reducible rfl
          try simp only [Act.put, List.setIfInBounds_toArray, List.set_cons_zero, List.set_cons_succ]
          refine wpAnyH_take (i := 9) (oi := ⟨some 96, _, _, _, _, _⟩) (v := ?vbtu9) rfl (by kernel_rfl) (by kernel_rfl) (by kernel_rfl) (fun _ _ _ h => h) (Or.inl ⟨by rfl, ?ybtu9⟩) hHeld ?rbtu9
          case ybtu9 =>
            intro wx hSx
            go_simp
            try with_reducible rfl
          try simp only [Act.put, List.setIfInBounds_toArray, List.set_cons_zero, List.set_cons_succ]
          refine wpAnyH_take (i := 10) (oi := ⟨some 97, _, _, _, _, _⟩) (v := ?vbtu10) rfl (by kernel_rfl) (by kernel_rfl) (by kernel_rfl) (fun _ _ _ h => h) (Or.inl ⟨by rfl, ?ybtu10⟩) hHeld ?rbtu10
          case ybtu10 =>
            intro wx hSx
            go_simp
            try with_reducible rfl
          try simp only [Act.put, List.setIfInBounds_toArray, List.set_cons_zero, List.set_cons_succ]
          refine wpAnyH_take (i := 11) (oi := ⟨some 98, _, _, _, _, _⟩) (v := ?vbtu11) rfl (by kernel_rfl) (by kernel_rfl) (by kernel_rfl) (fun _ _ _ h => h) (Or.inl ⟨by rfl, ?ybtu11⟩) hHeld ?rbtu11
          case ybtu11 =>
            intro wx hSx
            have e0 : World.cell? _ ⟨b1, 11, none⟩ = some (.int .i64 g.kind) := cell_at (hSx.st 0 rfl) 11
            have e1 : World.cell? _ ⟨b1, 12, none⟩ = some (.string g.room) := cell_at (hSx.st 0 rfl) 12
            have e2 : World.cell? _ ⟨b1, 13, none⟩ = some (.string g.user) := cell_at (hSx.st 0 rfl) 13
            have e3 : World.cell? _ ⟨b1, 14, none⟩ = some (.string g.event) := cell_at (hSx.st 0 rfl) 14
            have e4 : World.cell? _ ⟨b1, 15, none⟩ = some (.string g.thread) := cell_at (hSx.st 0 rfl) 15
            have e5 : World.cell? _ ⟨b1, 16, none⟩ = some (.bool g.priv) := cell_at (hSx.st 0 rfl) 16
            have e6 : World.cell? _ ⟨b1, 17, none⟩ = some (.bool g.on) := cell_at (hSx.st 0 rfl) 17
            have e7 : World.cell? _ ⟨b1, 18, none⟩ = some (.int .i64 g.span) := cell_at (hSx.st 0 rfl) 18
            have e8 : World.cell? _ ⟨b1, 19, none⟩ = some (.int .i64 g.state) := cell_at (hSx.st 0 rfl) 19
            have e9 : World.cell? _ ⟨b1, 20, none⟩ = some (.int .i64 g.tick) := cell_at (hSx.st 0 rfl) 20
            have e10 : World.cell? _ ⟨b1, 21, none⟩ = some (.int .i64 g.stamp) := cell_at (hSx.st 0 rfl) 21
            go_simp
            try with_reducible rfl
          try simp only [Act.put, List.setIfInBounds_toArray, List.set_cons_zero, List.set_cons_succ]
          refine wpAnyH_take (i := 13) (oi := ⟨some 100, _, _, _, _, _⟩) (v := ?vbtu13) rfl (by kernel_rfl) (by kernel_rfl) (by kernel_rfl) (fun _ _ _ h => h) (Or.inl ⟨by rfl, ?ybtu13⟩) hHeld ?rbtu13
          case ybtu13 =>
            intro wx hSx
            go_simp
            try with_reducible rfl
          try simp only [Act.put, List.setIfInBounds_toArray, List.set_cons_zero, List.set_cons_succ]
          refine wpAnyH_take (i := 14) (oi := ⟨some 101, _, _, _, _, _⟩) (v := ?vbtu14) rfl (by kernel_rfl) (by kernel_rfl) (by kernel_rfl) (fun _ _ _ h => h) (Or.inl ⟨by rfl, ?ybtu14⟩) hHeld ?rbtu14
          case ybtu14 =>
            intro wx hSx
            go_simp
            try with_reducible rfl
          try simp only [Act.put, List.setIfInBounds_toArray, List.set_cons_zero, List.set_cons_succ]
          refine wpAnyH_take (i := 15) (oi := ⟨some 102, _, _, _, _, _⟩) (v := ?vbtu15) rfl (by kernel_rfl) (by kernel_rfl) (by kernel_rfl) (fun _ _ _ h => h) (Or.inl ⟨by rfl, ?ybtu15⟩) hHeld ?rbtu15
          case ybtu15 =>
            intro wx hSx
            go_simp
            try with_reducible rfl
          try simp only [Act.put, List.setIfInBounds_toArray, List.set_cons_zero, List.set_cons_succ]
          refine wpAnyH_take (i := 16) (oi := ⟨some 103, _, _, _, _, _⟩) (v := ?vbtu16) rfl (by kernel_rfl) (by kernel_rfl) (by kernel_rfl) (fun _ _ _ h => h) (Or.inl ⟨by rfl, ?ybtu16⟩) hHeld ?rbtu16
          case ybtu16 =>
            intro wx hSx
            have e0 : World.cell? _ ⟨b1, 11, none⟩ = some (.int .i64 g.kind) := cell_at (hSx.st 0 rfl) 11
            have e1 : World.cell? _ ⟨b1, 12, none⟩ = some (.string g.room) := cell_at (hSx.st 0 rfl) 12
            have e2 : World.cell? _ ⟨b1, 13, none⟩ = some (.string g.user) := cell_at (hSx.st 0 rfl) 13
            have e3 : World.cell? _ ⟨b1, 14, none⟩ = some (.string g.event) := cell_at (hSx.st 0 rfl) 14
            have e4 : World.cell? _ ⟨b1, 15, none⟩ = some (.string g.thread) := cell_at (hSx.st 0 rfl) 15
            have e5 : World.cell? _ ⟨b1, 16, none⟩ = some (.bool g.priv) := cell_at (hSx.st 0 rfl) 16
            have e6 : World.cell? _ ⟨b1, 17, none⟩ = some (.bool g.on) := cell_at (hSx.st 0 rfl) 17
            have e7 : World.cell? _ ⟨b1, 18, none⟩ = some (.int .i64 g.span) := cell_at (hSx.st 0 rfl) 18
            have e8 : World.cell? _ ⟨b1, 19, none⟩ = some (.int .i64 g.state) := cell_at (hSx.st 0 rfl) 19
            have e9 : World.cell? _ ⟨b1, 20, none⟩ = some (.int .i64 g.tick) := cell_at (hSx.st 0 rfl) 20
            have e10 : World.cell? _ ⟨b1, 21, none⟩ = some (.int .i64 g.stamp) := cell_at (hSx.st 0 rfl) 21
            go_simp
            try with_reducible rfl
          try simp only [Act.put, List.setIfInBounds_toArray, List.set_cons_zero, List.set_cons_succ]
          refine wpAnyH_ready (rs := [12]) (by kernel_rfl) (by simp) ?_
          refine AllReadyH.cons (o := ⟨some 99, _, _, _, _, _⟩) rfl (fun K hK => ?_) AllReadyH.nil
          go_simp
          refine (Hlg.out _).mono ?_
          rintro e wnbtu12 ⟨rfl, hbn⟩
          replace hHeld := hHeld.later hbn
          refine hK.out _ _ hHeld (fun _ => ?_)
          clear hK K hbn
          try simp only [Act.put, List.setIfInBounds_toArray, List.set_cons_zero, List.set_cons_succ]
          refine wpAnyH_ready (rs := [17]) (by kernel_rfl) (by simp) ?_
          refine AllReadyH.cons (o := ⟨some 104, _, _, _, _, _⟩) rfl (fun K hK => ?_) AllReadyH.nil
          go_simp
          refine (HLg.out _).mono ?_
          rintro e wnbtu17 ⟨rfl, hbn⟩
          replace hHeld := hHeld.later hbn
          refine hK.out _ _ hHeld (fun _ => ?_)
          clear hK K hbn
          try simp only [Act.put, List.setIfInBounds_toArray, List.set_cons_zero, List.set_cons_succ]
          refine wpAnyH_take (i := 18) (oi := ⟨some 105, _, _, _, _, _⟩) (v := ?vbtu18) rfl (by kernel_rfl) (by kernel_rfl) (by kernel_rfl) (fun _ _ _ h => h) (Or.inl ⟨by rfl, ?ybtu18⟩) hHeld ?rbtu18
          case ybtu18 =>
            intro wx hSx
            go_simp
            try with_reducible rfl
          try simp only [Act.put, List.setIfInBounds_toArray, List.set_cons_zero, List.set_cons_succ]
          refine wpAnyH_take (i := 19) (oi := ⟨some 106, _, _, _, _, _⟩) (v := ?vbtu19) rfl (by kernel_rfl) (by kernel_rfl) (by kernel_rfl) (fun _ _ _ h => h) (Or.inl ⟨by rfl, ?ybtu19⟩) hHeld ?rbtu19
          case ybtu19 =>
            intro wx hSx
            go_simp
            try with_reducible rfl
          try simp only [Act.put, List.setIfInBounds_toArray, List.set_cons_zero, List.set_cons_succ]
          refine wpAnyH_take (i := 20) (oi := ⟨some 107, _, _, _, _, _⟩) (v := ?vbtu20) rfl (by kernel_rfl) (by kernel_rfl) (by kernel_rfl) (fun _ _ _ h => h) (Or.inl ⟨by rfl, ?ybtu20⟩) hHeld ?rbtu20
          case ybtu20 =>
            intro wx hSx
            go_simp
            try with_reducible rfl
          try simp only [Act.put, List.setIfInBounds_toArray, List.set_cons_zero, List.set_cons_succ]
          refine wpAnyH_take (i := 21) (oi := ⟨some 108, _, _, _, _, _⟩) (v := ?vbtu21) rfl (by kernel_rfl) (by kernel_rfl) (by kernel_rfl) (fun _ _ _ h => h) (Or.inl ⟨by rfl, ?ybtu21⟩) hHeld ?rbtu21
          case ybtu21 =>
            intro wx hSx
            go_simp
            try with_reducible rfl
          try simp only [Act.put, List.setIfInBounds_toArray, List.set_cons_zero, List.set_cons_succ]
          refine wpAnyH_take (i := 22) (oi := ⟨some 109, _, _, _, _, _⟩) (v := ?vbtu22) rfl (by kernel_rfl) (by kernel_rfl) (by kernel_rfl) (fun _ _ _ h => h) (Or.inl ⟨by rfl, ?ybtu22⟩) hHeld ?rbtu22
          case ybtu22 =>
            intro wx hSx
            go_simp
            try with_reducible rfl
          try simp only [Act.put, List.setIfInBounds_toArray, List.set_cons_zero, List.set_cons_succ]
          refine wpAnyH_take (i := 23) (oi := ⟨some 110, _, _, _, _, _⟩) (v := ?vbtu23) rfl (by kernel_rfl) (by kernel_rfl) (by kernel_rfl) (fun _ _ _ h => h) (Or.inl ⟨by rfl, ?ybtu23⟩) hHeld ?rbtu23
          case ybtu23 =>
            intro wx hSx
            go_simp
            try with_reducible rfl
          try simp only [Act.put, List.setIfInBounds_toArray, List.set_cons_zero, List.set_cons_succ]
          refine wpAnyH_take (i := 24) (oi := ⟨some 111, _, _, _, _, _⟩) (v := ?vbtu24) rfl (by kernel_rfl) (by kernel_rfl) (by kernel_rfl) (fun _ _ _ h => h) (Or.inl ⟨by rfl, ?ybtu24⟩) hHeld ?rbtu24
          case ybtu24 =>
            intro wx hSx
            go_simp
            try with_reducible rfl
          try simp only [Act.put, List.setIfInBounds_toArray, List.set_cons_zero, List.set_cons_succ]
          refine wpAnyH_take (i := 25) (oi := ⟨some 112, _, _, _, _, _⟩) (v := ?vbtu25) rfl (by kernel_rfl) (by kernel_rfl) (by kernel_rfl) (fun _ _ _ h => h) (Or.inl ⟨by rfl, ?ybtu25⟩) hHeld ?rbtu25
          case ybtu25 =>
            intro wx hSx
            go_simp
            try with_reducible rfl
          try simp only [Act.put, List.setIfInBounds_toArray, List.set_cons_zero, List.set_cons_succ]
          refine wpAnyH_done (by kernel_rfl) ?_ _
          have HK := Lib.hid hHeld
          clear hHeld
          go_upto_region 31 with (fail)
          refine wp_region_held_drew (S := fun w' => Keep w [(b1, #[.int .i64 r.kind, .string r.room, .string r.user, .string r.event, .string r.thread, .bool r.priv, .bool r.on, .int .i64 r.span, .int .i64 r.state, .int .i64 r.tick, .int .i64 r.stamp, .int .i64 g.kind, .string g.room, .string g.user, .string g.event, .string g.thread, .bool g.priv, .bool g.on, .int .i64 g.span, .int .i64 g.state, .int .i64 g.tick, .int .i64 g.stamp, .int .i64 od.kind, .string od.room, .string od.user, .string od.event, .string od.thread, .bool od.priv, .bool od.on, .int .i64 od.span, .int .i64 od.state, .int .i64 od.tick, .int .i64 od.stamp], 23), (b5, #[.int .i64 od.kind, .string od.room, .string od.user, .string od.event, .string od.thread, .bool od.priv, .bool od.on, .int .i64 od.span, .int .i64 od.state, .int .i64 od.tick, .int .i64 od.stamp], 23), (b4, #[.int .i64 g.kind, .string g.room, .string g.user, .string g.event, .string g.thread, .bool g.priv, .bool g.on, .int .i64 g.span, .int .i64 g.state, .int .i64 g.tick, .int .i64 g.stamp], 23), (b2, #[.int .i64 r.kind, .string r.room, .string r.user, .string r.event, .string r.thread, .bool r.priv, .bool r.on, .int .i64 r.span, .int .i64 r.state, .int .i64 r.tick, .int .i64 r.stamp], 23), (w.heap.size, #[.int .i64 e.kind, .string e.room, .string e.user, .string e.event, .string e.thread, .bool e.priv, .bool e.on, .int .i64 e.span, .int .i64 e.state, .int .i64 e.tick, .int .i64 e.stamp], 23)] [(.slice (some ⟨g3, 0, none⟩) yg.length cap3, yg)] w') (by kernel_rfl) HK.out.drew (fun hHeld => ?_)
          generalize hwd : wnbtu17.drew = wd at hHeld ⊢
          clear HK hwd
          refine wpAnyH_take (i := 0) (oi := ⟨some 113, _, _, _, _, _⟩) (v := ?vbtv0) rfl (by kernel_rfl) (by kernel_rfl) (by kernel_rfl) (fun _ _ _ h => h) (Or.inl ⟨by rfl, ?ybtv0⟩) hHeld ?rbtv0
          case ybtv0 =>
            intro wx hSx
            go_simp
            try with_reducible rfl
          try simp only [Act.put, List.setIfInBounds_toArray, List.set_cons_zero, List.set_cons_succ]
          refine wpAnyH_take (i := 1) (oi := ⟨some 114, _, _, _, _, _⟩) (v := ?vbtv1) rfl (by kernel_rfl) (by kernel_rfl) (by kernel_rfl) (fun _ _ _ h => h) (Or.inl ⟨by rfl, ?ybtv1⟩) hHeld ?rbtv1
          case ybtv1 =>
            intro wx hSx
            go_simp
            try with_reducible rfl
          try simp only [Act.put, List.setIfInBounds_toArray, List.set_cons_zero, List.set_cons_succ]
          refine wpAnyH_take (i := 2) (oi := ⟨some 115, _, _, _, _, _⟩) (v := ?vbtv2) rfl (by kernel_rfl) (by kernel_rfl) (by kernel_rfl) (fun _ _ _ h => h) (Or.inl ⟨by rfl, ?ybtv2⟩) hHeld ?rbtv2
          case ybtv2 =>
            intro wx hSx
            go_simp
            try with_reducible rfl
          try simp only [Act.put, List.setIfInBounds_toArray, List.set_cons_zero, List.set_cons_succ]
          refine wpAnyH_take (i := 3) (oi := ⟨some 116, _, _, _, _, _⟩) (v := ?vbtv3) rfl (by kernel_rfl) (by kernel_rfl) (by kernel_rfl) (fun _ _ _ h => h) (Or.inl ⟨by rfl, ?ybtv3⟩) hHeld ?rbtv3
          case ybtv3 =>
            intro wx hSx
            have cc := conv_row (hSx.row 0 rfl)
            go_simp
            first | done | rfl | (rw [cc]; rfl)
          try simp only [Act.put, List.setIfInBounds_toArray, List.set_cons_zero, List.set_cons_succ]
          refine wpAnyH_take (i := 4) (oi := ⟨some 117, _, _, _, _, _⟩) (v := ?vbtv4) rfl (by kernel_rfl) (by kernel_rfl) (by kernel_rfl) (fun _ _ _ h => h) (Or.inl ⟨by rfl, ?ybtv4⟩) hHeld ?rbtv4
          case ybtv4 =>
            intro wx hSx
            go_simp
            try with_reducible rfl
          try simp only [Act.put, List.setIfInBounds_toArray, List.set_cons_zero, List.set_cons_succ]
          refine wpAnyH_take (i := 5) (oi := ⟨some 118, _, _, _, _, _⟩) (v := ?vbtv5) rfl (by kernel_rfl) (by kernel_rfl) (by kernel_rfl) (fun _ _ _ h => h) (Or.inl ⟨by rfl, ?ybtv5⟩) hHeld ?rbtv5
          case ybtv5 =>
            intro wx hSx
            go_simp
            try with_reducible rfl
          try simp only [Act.put, List.setIfInBounds_toArray, List.set_cons_zero, List.set_cons_succ]
          refine wpAnyH_take (i := 6) (oi := ⟨some 119, _, _, _, _, _⟩) (v := ?vbtv6) rfl (by kernel_rfl) (by kernel_rfl) (by kernel_rfl) (fun _ _ _ h => h) (Or.inl ⟨by rfl, ?ybtv6⟩) hHeld ?rbtv6
          case ybtv6 =>
            intro wx hSx
            go_simp
            try with_reducible rfl
          try simp only [Act.put, List.setIfInBounds_toArray, List.set_cons_zero, List.set_cons_succ]
          refine wpAnyH_take (i := 7) (oi := ⟨some 120, _, _, _, _, _⟩) (v := ?vbtv7) rfl (by kernel_rfl) (by kernel_rfl) (by kernel_rfl) (fun _ _ _ h => h) (Or.inl ⟨by rfl, ?ybtv7⟩) hHeld ?rbtv7
          case ybtv7 =>
            intro wx hSx
            have e0 : World.cell? _ ⟨b1, 11, none⟩ = some (.int .i64 g.kind) := cell_at (hSx.st 0 rfl) 11
            have e1 : World.cell? _ ⟨b1, 12, none⟩ = some (.string g.room) := cell_at (hSx.st 0 rfl) 12
            have e2 : World.cell? _ ⟨b1, 13, none⟩ = some (.string g.user) := cell_at (hSx.st 0 rfl) 13
            have e3 : World.cell? _ ⟨b1, 14, none⟩ = some (.string g.event) := cell_at (hSx.st 0 rfl) 14
            have e4 : World.cell? _ ⟨b1, 15, none⟩ = some (.string g.thread) := cell_at (hSx.st 0 rfl) 15
            have e5 : World.cell? _ ⟨b1, 16, none⟩ = some (.bool g.priv) := cell_at (hSx.st 0 rfl) 16
            have e6 : World.cell? _ ⟨b1, 17, none⟩ = some (.bool g.on) := cell_at (hSx.st 0 rfl) 17
            have e7 : World.cell? _ ⟨b1, 18, none⟩ = some (.int .i64 g.span) := cell_at (hSx.st 0 rfl) 18
            have e8 : World.cell? _ ⟨b1, 19, none⟩ = some (.int .i64 g.state) := cell_at (hSx.st 0 rfl) 19
            have e9 : World.cell? _ ⟨b1, 20, none⟩ = some (.int .i64 g.tick) := cell_at (hSx.st 0 rfl) 20
            have e10 : World.cell? _ ⟨b1, 21, none⟩ = some (.int .i64 g.stamp) := cell_at (hSx.st 0 rfl) 21
            go_simp
            try with_reducible rfl
          try simp only [Act.put, List.setIfInBounds_toArray, List.set_cons_zero, List.set_cons_succ]
          refine wpAnyH_ready (rs := [8]) (by kernel_rfl) (by simp) ?_
          refine AllReadyH.cons (o := ⟨some 121, _, _, _, _, _⟩) rfl (fun K hK => ?_) AllReadyH.nil
          go_simp
          refine (HBg.out _).mono ?_
          rintro e wq ⟨⟨gq, capq, rfl, hgq, hoq⟩, hbq⟩
          replace hHeld := hHeld.later hbq
          refine hK.out _ _ hHeld (fun _ => ?_)
          clear hK K hbq hgq
          try simp only [Act.put, List.setIfInBounds_toArray, List.set_cons_zero, List.set_cons_succ]
          refine anyH_narrow (S' := fun w' => Keep w [(b1, #[.int .i64 r.kind, .string r.room, .string r.user, .string r.event, .string r.thread, .bool r.priv, .bool r.on, .int .i64 r.span, .int .i64 r.state, .int .i64 r.tick, .int .i64 r.stamp, .int .i64 g.kind, .string g.room, .string g.user, .string g.event, .string g.thread, .bool g.priv, .bool g.on, .int .i64 g.span, .int .i64 g.state, .int .i64 g.tick, .int .i64 g.stamp, .int .i64 od.kind, .string od.room, .string od.user, .string od.event, .string od.thread, .bool od.priv, .bool od.on, .int .i64 od.span, .int .i64 od.state, .int .i64 od.tick, .int .i64 od.stamp], 23), (b5, #[.int .i64 od.kind, .string od.room, .string od.user, .string od.event, .string od.thread, .bool od.priv, .bool od.on, .int .i64 od.span, .int .i64 od.state, .int .i64 od.tick, .int .i64 od.stamp], 23), (b4, #[.int .i64 g.kind, .string g.room, .string g.user, .string g.event, .string g.thread, .bool g.priv, .bool g.on, .int .i64 g.span, .int .i64 g.state, .int .i64 g.tick, .int .i64 g.stamp], 23), (b2, #[.int .i64 r.kind, .string r.room, .string r.user, .string r.event, .string r.thread, .bool r.priv, .bool r.on, .int .i64 r.span, .int .i64 r.state, .int .i64 r.tick, .int .i64 r.stamp], 23), (w.heap.size, #[.int .i64 e.kind, .string e.room, .string e.user, .string e.event, .string e.thread, .bool e.priv, .bool e.on, .int .i64 e.span, .int .i64 e.state, .int .i64 e.tick, .int .i64 e.stamp], 23)] [(.slice (some ⟨gq, 0, none⟩) yg.length capq, yg), (.slice (some ⟨g3, 0, none⟩) yg.length cap3, yg)] w') (fun _ h => ⟨h.1, h.2.1, fun p hp => h.2.2 p (List.mem_cons_of_mem _ hp)⟩) _ _ _ _ ?_
          replace hHeld := hHeld.consR (hoq.row (Nat.zero_le _))
          clear hoq
          refine wpAnyH_take (i := 9) (oi := ⟨some 122, _, _, _, _, _⟩) (v := ?vbtv9) rfl (by kernel_rfl) (by kernel_rfl) (by kernel_rfl) (fun _ _ _ h => h) (Or.inl ⟨by rfl, ?ybtv9⟩) hHeld ?rbtv9
          case ybtv9 =>
            intro wx hSx
            have cc := conv_row (hSx.row 0 rfl)
            go_simp
            first | done | rfl | (rw [cc]; rfl)
          try simp only [Act.put, List.setIfInBounds_toArray, List.set_cons_zero, List.set_cons_succ]
          refine wpAnyH_take (i := 10) (oi := ⟨some 123, _, _, _, _, _⟩) (v := ?vbtv10) rfl (by kernel_rfl) (by kernel_rfl) (by kernel_rfl) (fun _ _ _ h => h) (Or.inl ⟨by rfl, ?ybtv10⟩) hHeld ?rbtv10
          case ybtv10 =>
            intro wx hSx
            go_simp
            try with_reducible rfl
          try simp only [Act.put, List.setIfInBounds_toArray, List.set_cons_zero, List.set_cons_succ]
          refine wpAnyH_take (i := 11) (oi := ⟨some 124, _, _, _, _, _⟩) (v := ?vbtv11) rfl (by kernel_rfl) (by kernel_rfl) (by kernel_rfl) (fun _ _ _ h => h) (Or.inl ⟨by rfl, ?ybtv11⟩) hHeld ?rbtv11
          case ybtv11 =>
            intro wx hSx
            go_simp
            try with_reducible rfl
          try simp only [Act.put, List.setIfInBounds_toArray, List.set_cons_zero, List.set_cons_succ]
          refine wpAnyH_done (by kernel_rfl) ?_ _
          have HK := Lib.hid hHeld
          clear hHeld
          go_wp2_with fail
          go_roundw
          case rel => exact ⟨2, by omega, by go_num, Lib.hid ⟨HK.out.1, HK.out.2.1, fun _ hp => (List.not_mem_nil hp).elim⟩⟩
          case measure => simp [intOf]
      · have e0_0 : World.cell? _ ⟨b1, 22, none⟩ = some (.int .i64 od.kind) := cell_at (HK.out.st 0 rfl) 22
        have e0_1 : World.cell? _ ⟨b1, 23, none⟩ = some (.string od.room) := cell_at (HK.out.st 0 rfl) 23
        have e0_2 : World.cell? _ ⟨b1, 24, none⟩ = some (.string od.user) := cell_at (HK.out.st 0 rfl) 24
        have e0_3 : World.cell? _ ⟨b1, 25, none⟩ = some (.string od.event) := cell_at (HK.out.st 0 rfl) 25
        have e0_4 : World.cell? _ ⟨b1, 26, none⟩ = some (.string od.thread) := cell_at (HK.out.st 0 rfl) 26
        have e0_5 : World.cell? _ ⟨b1, 27, none⟩ = some (.bool od.priv) := cell_at (HK.out.st 0 rfl) 27
        have e0_6 : World.cell? _ ⟨b1, 28, none⟩ = some (.bool od.on) := cell_at (HK.out.st 0 rfl) 28
        have e0_7 : World.cell? _ ⟨b1, 29, none⟩ = some (.int .i64 od.span) := cell_at (HK.out.st 0 rfl) 29
        have e0_8 : World.cell? _ ⟨b1, 30, none⟩ = some (.int .i64 od.state) := cell_at (HK.out.st 0 rfl) 30
        have e0_9 : World.cell? _ ⟨b1, 31, none⟩ = some (.int .i64 od.tick) := cell_at (HK.out.st 0 rfl) 31
        have e0_10 : World.cell? _ ⟨b1, 32, none⟩ = some (.int .i64 od.stamp) := cell_at (HK.out.st 0 rfl) 32
        go_wp2_with fail
        clear e0_0 e0_1 e0_2 e0_3 e0_4 e0_5 e0_6 e0_7 e0_8 e0_9 e0_10
        refine (HMod.out _).mono ?_
        rintro e w2 ⟨rfl, hb⟩
        replace HK := Lib.hid (HK.out.later hb)
        clear hb
        cases mod
        · have e0_0 : World.cell? _ ⟨b1, 22, none⟩ = some (.int .i64 od.kind) := cell_at (HK.out.st 0 rfl) 22
          have e0_1 : World.cell? _ ⟨b1, 23, none⟩ = some (.string od.room) := cell_at (HK.out.st 0 rfl) 23
          have e0_2 : World.cell? _ ⟨b1, 24, none⟩ = some (.string od.user) := cell_at (HK.out.st 0 rfl) 24
          have e0_3 : World.cell? _ ⟨b1, 25, none⟩ = some (.string od.event) := cell_at (HK.out.st 0 rfl) 25
          have e0_4 : World.cell? _ ⟨b1, 26, none⟩ = some (.string od.thread) := cell_at (HK.out.st 0 rfl) 26
          have e0_5 : World.cell? _ ⟨b1, 27, none⟩ = some (.bool od.priv) := cell_at (HK.out.st 0 rfl) 27
          have e0_6 : World.cell? _ ⟨b1, 28, none⟩ = some (.bool od.on) := cell_at (HK.out.st 0 rfl) 28
          have e0_7 : World.cell? _ ⟨b1, 29, none⟩ = some (.int .i64 od.span) := cell_at (HK.out.st 0 rfl) 29
          have e0_8 : World.cell? _ ⟨b1, 30, none⟩ = some (.int .i64 od.state) := cell_at (HK.out.st 0 rfl) 30
          have e0_9 : World.cell? _ ⟨b1, 31, none⟩ = some (.int .i64 od.tick) := cell_at (HK.out.st 0 rfl) 31
          have e0_10 : World.cell? _ ⟨b1, 32, none⟩ = some (.int .i64 od.stamp) := cell_at (HK.out.st 0 rfl) 32
          go_wp2_with fail
          clear e0_0 e0_1 e0_2 e0_3 e0_4 e0_5 e0_6 e0_7 e0_8 e0_9 e0_10
          refine (HNod.out (by first | trivial | rfl) _).mono ?_
          rintro e w3 ⟨rfl, hb⟩
          replace HK := Lib.hid (HK.out.later hb)
          clear hb
          go_upto_region 29 with (fail)
          refine wp_region_held_drew (S := fun w' => Keep w [(b1, #[.int .i64 r.kind, .string r.room, .string r.user, .string r.event, .string r.thread, .bool r.priv, .bool r.on, .int .i64 r.span, .int .i64 r.state, .int .i64 r.tick, .int .i64 r.stamp, .int .i64 g.kind, .string g.room, .string g.user, .string g.event, .string g.thread, .bool g.priv, .bool g.on, .int .i64 g.span, .int .i64 g.state, .int .i64 g.tick, .int .i64 g.stamp, .int .i64 od.kind, .string od.room, .string od.user, .string od.event, .string od.thread, .bool od.priv, .bool od.on, .int .i64 od.span, .int .i64 od.state, .int .i64 od.tick, .int .i64 od.stamp], 23), (b5, #[.int .i64 od.kind, .string od.room, .string od.user, .string od.event, .string od.thread, .bool od.priv, .bool od.on, .int .i64 od.span, .int .i64 od.state, .int .i64 od.tick, .int .i64 od.stamp], 23), (b4, #[.int .i64 g.kind, .string g.room, .string g.user, .string g.event, .string g.thread, .bool g.priv, .bool g.on, .int .i64 g.span, .int .i64 g.state, .int .i64 g.tick, .int .i64 g.stamp], 23), (b2, #[.int .i64 r.kind, .string r.room, .string r.user, .string r.event, .string r.thread, .bool r.priv, .bool r.on, .int .i64 r.span, .int .i64 r.state, .int .i64 r.tick, .int .i64 r.stamp], 23), (w.heap.size, #[.int .i64 e.kind, .string e.room, .string e.user, .string e.event, .string e.thread, .bool e.priv, .bool e.on, .int .i64 e.span, .int .i64 e.state, .int .i64 e.tick, .int .i64 e.stamp], 23)] [] w') (by kernel_rfl) HK.out.drew (fun hHeld => ?_)
          generalize hwd : w3.drew = wd at hHeld ⊢
          clear HK hwd
          refine wpAnyH_take (i := 0) (oi := ⟨some 87, _, _, _, _, _⟩) (v := ?vcfu0) rfl (by kernel_rfl) (by kernel_rfl) (by kernel_rfl) (fun _ _ _ h => h) (Or.inl ⟨by rfl, ?ycfu0⟩) hHeld ?rcfu0
          case ycfu0 =>
            intro wx hSx
            go_simp
            try with_reducible rfl
          try simp only [Act.put, List.setIfInBounds_toArray, List.set_cons_zero, List.set_cons_succ]
          refine wpAnyH_take (i := 1) (oi := ⟨some 88, _, _, _, _, _⟩) (v := ?vcfu1) rfl (by kernel_rfl) (by kernel_rfl) (by kernel_rfl) (fun _ _ _ h => h) (Or.inl ⟨by rfl, ?ycfu1⟩) hHeld ?rcfu1
          case ycfu1 =>
            intro wx hSx
            go_simp
            try with_reducible rfl
          try simp only [Act.put, List.setIfInBounds_toArray, List.set_cons_zero, List.set_cons_succ]
          refine wpAnyH_take (i := 2) (oi := ⟨some 89, _, _, _, _, _⟩) (v := ?vcfu2) rfl (by kernel_rfl) (by kernel_rfl) (by kernel_rfl) (fun _ _ _ h => h) (Or.inl ⟨by rfl, ?ycfu2⟩) hHeld ?rcfu2
          case ycfu2 =>
            intro wx hSx
            go_simp
            try with_reducible rfl
          try simp only [Act.put, List.setIfInBounds_toArray, List.set_cons_zero, List.set_cons_succ]
          refine wpAnyH_take (i := 3) (oi := ⟨some 90, _, _, _, _, _⟩) (v := ?vcfu3) rfl (by kernel_rfl) (by kernel_rfl) (by kernel_rfl) (fun _ _ _ h => h) (Or.inl ⟨by rfl, ?ycfu3⟩) hHeld ?rcfu3
          case ycfu3 =>
            intro wx hSx
            have e0 : World.cell? _ ⟨b1, 22, none⟩ = some (.int .i64 od.kind) := cell_at (hSx.st 0 rfl) 22
            have e1 : World.cell? _ ⟨b1, 23, none⟩ = some (.string od.room) := cell_at (hSx.st 0 rfl) 23
            have e2 : World.cell? _ ⟨b1, 24, none⟩ = some (.string od.user) := cell_at (hSx.st 0 rfl) 24
            have e3 : World.cell? _ ⟨b1, 25, none⟩ = some (.string od.event) := cell_at (hSx.st 0 rfl) 25
            have e4 : World.cell? _ ⟨b1, 26, none⟩ = some (.string od.thread) := cell_at (hSx.st 0 rfl) 26
            have e5 : World.cell? _ ⟨b1, 27, none⟩ = some (.bool od.priv) := cell_at (hSx.st 0 rfl) 27
            have e6 : World.cell? _ ⟨b1, 28, none⟩ = some (.bool od.on) := cell_at (hSx.st 0 rfl) 28
            have e7 : World.cell? _ ⟨b1, 29, none⟩ = some (.int .i64 od.span) := cell_at (hSx.st 0 rfl) 29
            have e8 : World.cell? _ ⟨b1, 30, none⟩ = some (.int .i64 od.state) := cell_at (hSx.st 0 rfl) 30
            have e9 : World.cell? _ ⟨b1, 31, none⟩ = some (.int .i64 od.tick) := cell_at (hSx.st 0 rfl) 31
            have e10 : World.cell? _ ⟨b1, 32, none⟩ = some (.int .i64 od.stamp) := cell_at (hSx.st 0 rfl) 32
            go_simp
            try with_reducible rfl
          try simp only [Act.put, List.setIfInBounds_toArray, List.set_cons_zero, List.set_cons_succ]
          refine wpAnyH_take (i := 5) (oi := ⟨some 92, _, _, _, _, _⟩) (v := ?vcfu5) rfl (by kernel_rfl) (by kernel_rfl) (by kernel_rfl) (fun _ _ _ h => h) (Or.inl ⟨by rfl, ?ycfu5⟩) hHeld ?rcfu5
          case ycfu5 =>
            intro wx hSx
            go_simp
            try with_reducible rfl
          try simp only [Act.put, List.setIfInBounds_toArray, List.set_cons_zero, List.set_cons_succ]
          refine wpAnyH_ready (rs := [4]) (by kernel_rfl) (by simp) ?_
          refine AllReadyH.cons (o := ⟨some 91, _, _, _, _, _⟩) rfl (fun K hK => ?_) AllReadyH.nil
          go_simp
          refine (Hmod.out _).mono ?_
          rintro e wncfu4 ⟨rfl, hbn⟩
          replace hHeld := hHeld.later hbn
          refine hK.out _ _ hHeld (fun _ => ?_)
          clear hK K hbn
          try simp only [Act.put, List.setIfInBounds_toArray, List.set_cons_zero, List.set_cons_succ]
          refine wpAnyH_take (i := 6) (oi := ⟨some 93, _, _, _, _, _⟩) (v := ?vcfu6) rfl (by kernel_rfl) (by kernel_rfl) (by kernel_rfl) (fun _ _ _ h => h) (Or.inl ⟨by rfl, ?ycfu6⟩) hHeld ?rcfu6
          case ycfu6 =>
            intro wx hSx
            go_simp
            try with_reducible rfl
          try simp only [Act.put, List.setIfInBounds_toArray, List.set_cons_zero, List.set_cons_succ]
          refine wpAnyH_take (i := 7) (oi := ⟨some 94, _, _, _, _, _⟩) (v := ?vcfu7) rfl (by kernel_rfl) (by kernel_rfl) (by kernel_rfl) (fun _ _ _ h => h) (Or.inl ⟨by rfl, ?ycfu7⟩) hHeld ?rcfu7
          case ycfu7 =>
            intro wx hSx
            go_simp
            try with_reducible rfl
          try simp only [Act.put, List.setIfInBounds_toArray, List.set_cons_zero, List.set_cons_succ]
          refine wpAnyH_take (i := 8) (oi := ⟨some 95, _, _, _, _, _⟩) (v := ?vcfu8) rfl (by kernel_rfl) (by kernel_rfl) (by kernel_rfl) (fun _ _ _ h => h) (Or.inl ⟨by rfl, ?ycfu8⟩) hHeld ?rcfu8
          case ycfu8 =>
            intro wx hSx
            go_simp
            try with_reducible rfl
          try simp only [Act.put, List.setIfInBounds_toArray, List.set_cons_zero, List.set_cons_succ]
          refine wpAnyH_take (i := 9) (oi := ⟨some 96, _, _, _, _, _⟩) (v := ?vcfu9) rfl (by kernel_rfl) (by kernel_rfl) (by kernel_rfl) (fun _ _ _ h => h) (Or.inl ⟨by rfl, ?ycfu9⟩) hHeld ?rcfu9
          case ycfu9 =>
            intro wx hSx
            go_simp
            try with_reducible rfl
          try simp only [Act.put, List.setIfInBounds_toArray, List.set_cons_zero, List.set_cons_succ]
          refine wpAnyH_take (i := 10) (oi := ⟨some 97, _, _, _, _, _⟩) (v := ?vcfu10) rfl (by kernel_rfl) (by kernel_rfl) (by kernel_rfl) (fun _ _ _ h => h) (Or.inl ⟨by rfl, ?ycfu10⟩) hHeld ?rcfu10
          case ycfu10 =>
            intro wx hSx
            go_simp
            try with_reducible rfl
          try simp only [Act.put, List.setIfInBounds_toArray, List.set_cons_zero, List.set_cons_succ]
          refine wpAnyH_take (i := 11) (oi := ⟨some 98, _, _, _, _, _⟩) (v := ?vcfu11) rfl (by kernel_rfl) (by kernel_rfl) (by kernel_rfl) (fun _ _ _ h => h) (Or.inl ⟨by rfl, ?ycfu11⟩) hHeld ?rcfu11
          case ycfu11 =>
            intro wx hSx
            have e0 : World.cell? _ ⟨b1, 22, none⟩ = some (.int .i64 od.kind) := cell_at (hSx.st 0 rfl) 22
            have e1 : World.cell? _ ⟨b1, 23, none⟩ = some (.string od.room) := cell_at (hSx.st 0 rfl) 23
            have e2 : World.cell? _ ⟨b1, 24, none⟩ = some (.string od.user) := cell_at (hSx.st 0 rfl) 24
            have e3 : World.cell? _ ⟨b1, 25, none⟩ = some (.string od.event) := cell_at (hSx.st 0 rfl) 25
            have e4 : World.cell? _ ⟨b1, 26, none⟩ = some (.string od.thread) := cell_at (hSx.st 0 rfl) 26
            have e5 : World.cell? _ ⟨b1, 27, none⟩ = some (.bool od.priv) := cell_at (hSx.st 0 rfl) 27
            have e6 : World.cell? _ ⟨b1, 28, none⟩ = some (.bool od.on) := cell_at (hSx.st 0 rfl) 28
            have e7 : World.cell? _ ⟨b1, 29, none⟩ = some (.int .i64 od.span) := cell_at (hSx.st 0 rfl) 29
            have e8 : World.cell? _ ⟨b1, 30, none⟩ = some (.int .i64 od.state) := cell_at (hSx.st 0 rfl) 30
            have e9 : World.cell? _ ⟨b1, 31, none⟩ = some (.int .i64 od.tick) := cell_at (hSx.st 0 rfl) 31
            have e10 : World.cell? _ ⟨b1, 32, none⟩ = some (.int .i64 od.stamp) := cell_at (hSx.st 0 rfl) 32
            go_simp
            try with_reducible rfl
          try simp only [Act.put, List.setIfInBounds_toArray, List.set_cons_zero, List.set_cons_succ]
          refine wpAnyH_take (i := 13) (oi := ⟨some 100, _, _, _, _, _⟩) (v := ?vcfu13) rfl (by kernel_rfl) (by kernel_rfl) (by kernel_rfl) (fun _ _ _ h => h) (Or.inl ⟨by rfl, ?ycfu13⟩) hHeld ?rcfu13
          case ycfu13 =>
            intro wx hSx
            go_simp
            try with_reducible rfl
          try simp only [Act.put, List.setIfInBounds_toArray, List.set_cons_zero, List.set_cons_succ]
          refine wpAnyH_take (i := 14) (oi := ⟨some 101, _, _, _, _, _⟩) (v := ?vcfu14) rfl (by kernel_rfl) (by kernel_rfl) (by kernel_rfl) (fun _ _ _ h => h) (Or.inl ⟨by rfl, ?ycfu14⟩) hHeld ?rcfu14
          case ycfu14 =>
            intro wx hSx
            go_simp
            try with_reducible rfl
          try simp only [Act.put, List.setIfInBounds_toArray, List.set_cons_zero, List.set_cons_succ]
          refine wpAnyH_take (i := 15) (oi := ⟨some 102, _, _, _, _, _⟩) (v := ?vcfu15) rfl (by kernel_rfl) (by kernel_rfl) (by kernel_rfl) (fun _ _ _ h => h) (Or.inl ⟨by rfl, ?ycfu15⟩) hHeld ?rcfu15
          case ycfu15 =>
            intro wx hSx
            go_simp
            try with_reducible rfl
          try simp only [Act.put, List.setIfInBounds_toArray, List.set_cons_zero, List.set_cons_succ]
          refine wpAnyH_take (i := 16) (oi := ⟨some 103, _, _, _, _, _⟩) (v := ?vcfu16) rfl (by kernel_rfl) (by kernel_rfl) (by kernel_rfl) (fun _ _ _ h => h) (Or.inl ⟨by rfl, ?ycfu16⟩) hHeld ?rcfu16
          case ycfu16 =>
            intro wx hSx
            have e0 : World.cell? _ ⟨b1, 22, none⟩ = some (.int .i64 od.kind) := cell_at (hSx.st 0 rfl) 22
            have e1 : World.cell? _ ⟨b1, 23, none⟩ = some (.string od.room) := cell_at (hSx.st 0 rfl) 23
            have e2 : World.cell? _ ⟨b1, 24, none⟩ = some (.string od.user) := cell_at (hSx.st 0 rfl) 24
            have e3 : World.cell? _ ⟨b1, 25, none⟩ = some (.string od.event) := cell_at (hSx.st 0 rfl) 25
            have e4 : World.cell? _ ⟨b1, 26, none⟩ = some (.string od.thread) := cell_at (hSx.st 0 rfl) 26
            have e5 : World.cell? _ ⟨b1, 27, none⟩ = some (.bool od.priv) := cell_at (hSx.st 0 rfl) 27
            have e6 : World.cell? _ ⟨b1, 28, none⟩ = some (.bool od.on) := cell_at (hSx.st 0 rfl) 28
            have e7 : World.cell? _ ⟨b1, 29, none⟩ = some (.int .i64 od.span) := cell_at (hSx.st 0 rfl) 29
            have e8 : World.cell? _ ⟨b1, 30, none⟩ = some (.int .i64 od.state) := cell_at (hSx.st 0 rfl) 30
            have e9 : World.cell? _ ⟨b1, 31, none⟩ = some (.int .i64 od.tick) := cell_at (hSx.st 0 rfl) 31
            have e10 : World.cell? _ ⟨b1, 32, none⟩ = some (.int .i64 od.stamp) := cell_at (hSx.st 0 rfl) 32
            go_simp
            try with_reducible rfl
          try simp only [Act.put, List.setIfInBounds_toArray, List.set_cons_zero, List.set_cons_succ]
          refine wpAnyH_ready (rs := [12]) (by kernel_rfl) (by simp) ?_
          refine AllReadyH.cons (o := ⟨some 99, _, _, _, _, _⟩) rfl (fun K hK => ?_) AllReadyH.nil
          go_simp
          refine (Hlod.out _).mono ?_
          rintro e wncfu12 ⟨rfl, hbn⟩
          replace hHeld := hHeld.later hbn
          refine hK.out _ _ hHeld (fun _ => ?_)
          clear hK K hbn
          try simp only [Act.put, List.setIfInBounds_toArray, List.set_cons_zero, List.set_cons_succ]
          refine wpAnyH_ready (rs := [17]) (by kernel_rfl) (by simp) ?_
          refine AllReadyH.cons (o := ⟨some 104, _, _, _, _, _⟩) rfl (fun K hK => ?_) AllReadyH.nil
          go_simp
          refine (HLod.out _).mono ?_
          rintro e wncfu17 ⟨rfl, hbn⟩
          replace hHeld := hHeld.later hbn
          refine hK.out _ _ hHeld (fun _ => ?_)
          clear hK K hbn
          try simp only [Act.put, List.setIfInBounds_toArray, List.set_cons_zero, List.set_cons_succ]
          refine wpAnyH_take (i := 18) (oi := ⟨some 105, _, _, _, _, _⟩) (v := ?vcfu18) rfl (by kernel_rfl) (by kernel_rfl) (by kernel_rfl) (fun _ _ _ h => h) (Or.inl ⟨by rfl, ?ycfu18⟩) hHeld ?rcfu18
          case ycfu18 =>
            intro wx hSx
            go_simp
            try with_reducible rfl
          try simp only [Act.put, List.setIfInBounds_toArray, List.set_cons_zero, List.set_cons_succ]
          refine wpAnyH_take (i := 19) (oi := ⟨some 106, _, _, _, _, _⟩) (v := ?vcfu19) rfl (by kernel_rfl) (by kernel_rfl) (by kernel_rfl) (fun _ _ _ h => h) (Or.inl ⟨by rfl, ?ycfu19⟩) hHeld ?rcfu19
          case ycfu19 =>
            intro wx hSx
            go_simp
            try with_reducible rfl
          try simp only [Act.put, List.setIfInBounds_toArray, List.set_cons_zero, List.set_cons_succ]
          refine wpAnyH_take (i := 20) (oi := ⟨some 107, _, _, _, _, _⟩) (v := ?vcfu20) rfl (by kernel_rfl) (by kernel_rfl) (by kernel_rfl) (fun _ _ _ h => h) (Or.inl ⟨by rfl, ?ycfu20⟩) hHeld ?rcfu20
          case ycfu20 =>
            intro wx hSx
            go_simp
            try with_reducible rfl
          try simp only [Act.put, List.setIfInBounds_toArray, List.set_cons_zero, List.set_cons_succ]
          refine wpAnyH_take (i := 21) (oi := ⟨some 108, _, _, _, _, _⟩) (v := ?vcfu21) rfl (by kernel_rfl) (by kernel_rfl) (by kernel_rfl) (fun _ _ _ h => h) (Or.inl ⟨by rfl, ?ycfu21⟩) hHeld ?rcfu21
          case ycfu21 =>
            intro wx hSx
            go_simp
            try with_reducible rfl
          try simp only [Act.put, List.setIfInBounds_toArray, List.set_cons_zero, List.set_cons_succ]
          refine wpAnyH_take (i := 22) (oi := ⟨some 109, _, _, _, _, _⟩) (v := ?vcfu22) rfl (by kernel_rfl) (by kernel_rfl) (by kernel_rfl) (fun _ _ _ h => h) (Or.inl ⟨by rfl, ?ycfu22⟩) hHeld ?rcfu22
          case ycfu22 =>
            intro wx hSx
            go_simp
            try with_reducible rfl
          try simp only [Act.put, List.setIfInBounds_toArray, List.set_cons_zero, List.set_cons_succ]
          refine wpAnyH_take (i := 23) (oi := ⟨some 110, _, _, _, _, _⟩) (v := ?vcfu23) rfl (by kernel_rfl) (by kernel_rfl) (by kernel_rfl) (fun _ _ _ h => h) (Or.inl ⟨by rfl, ?ycfu23⟩) hHeld ?rcfu23
          case ycfu23 =>
            intro wx hSx
            go_simp
            try with_reducible rfl
          try simp only [Act.put, List.setIfInBounds_toArray, List.set_cons_zero, List.set_cons_succ]
          refine wpAnyH_take (i := 24) (oi := ⟨some 111, _, _, _, _, _⟩) (v := ?vcfu24) rfl (by kernel_rfl) (by kernel_rfl) (by kernel_rfl) (fun _ _ _ h => h) (Or.inl ⟨by rfl, ?ycfu24⟩) hHeld ?rcfu24
          case ycfu24 =>
            intro wx hSx
            go_simp
            try with_reducible rfl
          try simp only [Act.put, List.setIfInBounds_toArray, List.set_cons_zero, List.set_cons_succ]
          refine wpAnyH_take (i := 25) (oi := ⟨some 112, _, _, _, _, _⟩) (v := ?vcfu25) rfl (by kernel_rfl) (by kernel_rfl) (by kernel_rfl) (fun _ _ _ h => h) (Or.inl ⟨by rfl, ?ycfu25⟩) hHeld ?rcfu25
          case ycfu25 =>
            intro wx hSx
            go_simp
            try with_reducible rfl
          try simp only [Act.put, List.setIfInBounds_toArray, List.set_cons_zero, List.set_cons_succ]
          refine wpAnyH_done (by kernel_rfl) ?_ _
          have HK := Lib.hid hHeld
          clear hHeld
          go_upto_region 31 with (fail)
          refine wp_region_held_drew (S := fun w' => Keep w [(b1, #[.int .i64 r.kind, .string r.room, .string r.user, .string r.event, .string r.thread, .bool r.priv, .bool r.on, .int .i64 r.span, .int .i64 r.state, .int .i64 r.tick, .int .i64 r.stamp, .int .i64 g.kind, .string g.room, .string g.user, .string g.event, .string g.thread, .bool g.priv, .bool g.on, .int .i64 g.span, .int .i64 g.state, .int .i64 g.tick, .int .i64 g.stamp, .int .i64 od.kind, .string od.room, .string od.user, .string od.event, .string od.thread, .bool od.priv, .bool od.on, .int .i64 od.span, .int .i64 od.state, .int .i64 od.tick, .int .i64 od.stamp], 23), (b5, #[.int .i64 od.kind, .string od.room, .string od.user, .string od.event, .string od.thread, .bool od.priv, .bool od.on, .int .i64 od.span, .int .i64 od.state, .int .i64 od.tick, .int .i64 od.stamp], 23), (b4, #[.int .i64 g.kind, .string g.room, .string g.user, .string g.event, .string g.thread, .bool g.priv, .bool g.on, .int .i64 g.span, .int .i64 g.state, .int .i64 g.tick, .int .i64 g.stamp], 23), (b2, #[.int .i64 r.kind, .string r.room, .string r.user, .string r.event, .string r.thread, .bool r.priv, .bool r.on, .int .i64 r.span, .int .i64 r.state, .int .i64 r.tick, .int .i64 r.stamp], 23), (w.heap.size, #[.int .i64 e.kind, .string e.room, .string e.user, .string e.event, .string e.thread, .bool e.priv, .bool e.on, .int .i64 e.span, .int .i64 e.state, .int .i64 e.tick, .int .i64 e.stamp], 23)] [] w') (by kernel_rfl) HK.out.drew (fun hHeld => ?_)
          generalize hwd : wncfu17.drew = wd at hHeld ⊢
          clear HK hwd
          refine wpAnyH_take (i := 0) (oi := ⟨some 113, _, _, _, _, _⟩) (v := ?vcfv0) rfl (by kernel_rfl) (by kernel_rfl) (by kernel_rfl) (fun _ _ _ h => h) (Or.inl ⟨by rfl, ?ycfv0⟩) hHeld ?rcfv0
          case ycfv0 =>
            intro wx hSx
            go_simp
            try with_reducible rfl
          try simp only [Act.put, List.setIfInBounds_toArray, List.set_cons_zero, List.set_cons_succ]
          refine wpAnyH_take (i := 1) (oi := ⟨some 114, _, _, _, _, _⟩) (v := ?vcfv1) rfl (by kernel_rfl) (by kernel_rfl) (by kernel_rfl) (fun _ _ _ h => h) (Or.inl ⟨by rfl, ?ycfv1⟩) hHeld ?rcfv1
          case ycfv1 =>
            intro wx hSx
            go_simp
            try with_reducible rfl
          try simp only [Act.put, List.setIfInBounds_toArray, List.set_cons_zero, List.set_cons_succ]
          refine wpAnyH_take (i := 2) (oi := ⟨some 115, _, _, _, _, _⟩) (v := undef) rfl (by kernel_rfl) (by kernel_rfl) (by kernel_rfl) (fun _ _ _ h => h) (Or.inr ⟨by rfl, rfl⟩) hHeld ?rcfv2
          try simp only [Act.put, List.setIfInBounds_toArray, List.set_cons_zero, List.set_cons_succ]
          refine wpAnyH_take (i := 3) (oi := ⟨some 116, _, _, _, _, _⟩) (v := undef) rfl (by kernel_rfl) (by kernel_rfl) (by kernel_rfl) (fun _ _ _ h => h) (Or.inr ⟨by rfl, rfl⟩) hHeld ?rcfv3
          try simp only [Act.put, List.setIfInBounds_toArray, List.set_cons_zero, List.set_cons_succ]
          refine wpAnyH_take (i := 4) (oi := ⟨some 117, _, _, _, _, _⟩) (v := undef) rfl (by kernel_rfl) (by kernel_rfl) (by kernel_rfl) (fun _ _ _ h => h) (Or.inr ⟨by rfl, rfl⟩) hHeld ?rcfv4
          try simp only [Act.put, List.setIfInBounds_toArray, List.set_cons_zero, List.set_cons_succ]
          refine wpAnyH_take (i := 5) (oi := ⟨some 118, _, _, _, _, _⟩) (v := undef) rfl (by kernel_rfl) (by kernel_rfl) (by kernel_rfl) (fun _ _ _ h => h) (Or.inr ⟨by rfl, rfl⟩) hHeld ?rcfv5
          try simp only [Act.put, List.setIfInBounds_toArray, List.set_cons_zero, List.set_cons_succ]
          refine wpAnyH_take (i := 6) (oi := ⟨some 119, _, _, _, _, _⟩) (v := undef) rfl (by kernel_rfl) (by kernel_rfl) (by kernel_rfl) (fun _ _ _ h => h) (Or.inr ⟨by rfl, rfl⟩) hHeld ?rcfv6
          try simp only [Act.put, List.setIfInBounds_toArray, List.set_cons_zero, List.set_cons_succ]
          refine wpAnyH_take (i := 7) (oi := ⟨some 120, _, _, _, _, _⟩) (v := undef) rfl (by kernel_rfl) (by kernel_rfl) (by kernel_rfl) (fun _ _ _ h => h) (Or.inr ⟨by rfl, rfl⟩) hHeld ?rcfv7
          try simp only [Act.put, List.setIfInBounds_toArray, List.set_cons_zero, List.set_cons_succ]
          refine wpAnyH_take (i := 8) (oi := ⟨some 121, _, _, _, _, _⟩) (v := undef) rfl (by kernel_rfl) (by kernel_rfl) (by kernel_rfl) (fun _ _ _ h => h) (Or.inr ⟨by rfl, rfl⟩) hHeld ?rcfv8
          try simp only [Act.put, List.setIfInBounds_toArray, List.set_cons_zero, List.set_cons_succ]
          refine wpAnyH_take (i := 9) (oi := ⟨some 122, _, _, _, _, _⟩) (v := undef) rfl (by kernel_rfl) (by kernel_rfl) (by kernel_rfl) (fun _ _ _ h => h) (Or.inr ⟨by rfl, rfl⟩) hHeld ?rcfv9
          try simp only [Act.put, List.setIfInBounds_toArray, List.set_cons_zero, List.set_cons_succ]
          refine wpAnyH_take (i := 10) (oi := ⟨some 123, _, _, _, _, _⟩) (v := undef) rfl (by kernel_rfl) (by kernel_rfl) (by kernel_rfl) (fun _ _ _ h => h) (Or.inr ⟨by rfl, rfl⟩) hHeld ?rcfv10
          try simp only [Act.put, List.setIfInBounds_toArray, List.set_cons_zero, List.set_cons_succ]
          refine wpAnyH_take (i := 11) (oi := ⟨some 124, _, _, _, _, _⟩) (v := ?vcfv11) rfl (by kernel_rfl) (by kernel_rfl) (by kernel_rfl) (fun _ _ _ h => h) (Or.inl ⟨by rfl, ?ycfv11⟩) hHeld ?rcfv11
          case ycfv11 =>
            intro wx hSx
            go_simp
            try with_reducible rfl
          try simp only [Act.put, List.setIfInBounds_toArray, List.set_cons_zero, List.set_cons_succ]
          refine wpAnyH_done (by kernel_rfl) ?_ _
          have HK := Lib.hid hHeld
          clear hHeld
          go_wp2_with fail
          go_roundw
          case rel => exact ⟨3, by omega, by go_num, Lib.hid ⟨HK.out.1, HK.out.2.1, fun _ hp => (List.not_mem_nil hp).elim⟩⟩
          case measure => simp [intOf]
        · have e0_0 : World.cell? _ ⟨b1, 22, none⟩ = some (.int .i64 od.kind) := cell_at (HK.out.st 0 rfl) 22
          have e0_1 : World.cell? _ ⟨b1, 23, none⟩ = some (.string od.room) := cell_at (HK.out.st 0 rfl) 23
          have e0_2 : World.cell? _ ⟨b1, 24, none⟩ = some (.string od.user) := cell_at (HK.out.st 0 rfl) 24
          have e0_3 : World.cell? _ ⟨b1, 25, none⟩ = some (.string od.event) := cell_at (HK.out.st 0 rfl) 25
          have e0_4 : World.cell? _ ⟨b1, 26, none⟩ = some (.string od.thread) := cell_at (HK.out.st 0 rfl) 26
          have e0_5 : World.cell? _ ⟨b1, 27, none⟩ = some (.bool od.priv) := cell_at (HK.out.st 0 rfl) 27
          have e0_6 : World.cell? _ ⟨b1, 28, none⟩ = some (.bool od.on) := cell_at (HK.out.st 0 rfl) 28
          have e0_7 : World.cell? _ ⟨b1, 29, none⟩ = some (.int .i64 od.span) := cell_at (HK.out.st 0 rfl) 29
          have e0_8 : World.cell? _ ⟨b1, 30, none⟩ = some (.int .i64 od.state) := cell_at (HK.out.st 0 rfl) 30
          have e0_9 : World.cell? _ ⟨b1, 31, none⟩ = some (.int .i64 od.tick) := cell_at (HK.out.st 0 rfl) 31
          have e0_10 : World.cell? _ ⟨b1, 32, none⟩ = some (.int .i64 od.stamp) := cell_at (HK.out.st 0 rfl) 32
          go_wp2_with fail
          clear e0_0 e0_1 e0_2 e0_3 e0_4 e0_5 e0_6 e0_7 e0_8 e0_9 e0_10
          refine (HYod.out (by first | trivial | rfl) _).mono ?_
          rintro e w3 ⟨⟨g3, cap3, rfl, hg, ho⟩, hb⟩
          replace HK := Lib.hid (show Keep w [(b1, #[.int .i64 r.kind, .string r.room, .string r.user, .string r.event, .string r.thread, .bool r.priv, .bool r.on, .int .i64 r.span, .int .i64 r.state, .int .i64 r.tick, .int .i64 r.stamp, .int .i64 g.kind, .string g.room, .string g.user, .string g.event, .string g.thread, .bool g.priv, .bool g.on, .int .i64 g.span, .int .i64 g.state, .int .i64 g.tick, .int .i64 g.stamp, .int .i64 od.kind, .string od.room, .string od.user, .string od.event, .string od.thread, .bool od.priv, .bool od.on, .int .i64 od.span, .int .i64 od.state, .int .i64 od.tick, .int .i64 od.stamp], 23), (b5, #[.int .i64 od.kind, .string od.room, .string od.user, .string od.event, .string od.thread, .bool od.priv, .bool od.on, .int .i64 od.span, .int .i64 od.state, .int .i64 od.tick, .int .i64 od.stamp], 23), (b4, #[.int .i64 g.kind, .string g.room, .string g.user, .string g.event, .string g.thread, .bool g.priv, .bool g.on, .int .i64 g.span, .int .i64 g.state, .int .i64 g.tick, .int .i64 g.stamp], 23), (b2, #[.int .i64 r.kind, .string r.room, .string r.user, .string r.event, .string r.thread, .bool r.priv, .bool r.on, .int .i64 r.span, .int .i64 r.state, .int .i64 r.tick, .int .i64 r.stamp], 23), (w.heap.size, #[.int .i64 e.kind, .string e.room, .string e.user, .string e.event, .string e.thread, .bool e.priv, .bool e.on, .int .i64 e.span, .int .i64 e.state, .int .i64 e.tick, .int .i64 e.stamp], 23)] [(.slice (some ⟨g3, 0, none⟩) yod.length cap3, yod)] w3 from (HK.out.later hb).consR (ho.row (Nat.zero_le _)))
          clear hb ho hg
          go_upto_region 29 with (fail)
          refine wp_region_held_drew (S := fun w' => Keep w [(b1, #[.int .i64 r.kind, .string r.room, .string r.user, .string r.event, .string r.thread, .bool r.priv, .bool r.on, .int .i64 r.span, .int .i64 r.state, .int .i64 r.tick, .int .i64 r.stamp, .int .i64 g.kind, .string g.room, .string g.user, .string g.event, .string g.thread, .bool g.priv, .bool g.on, .int .i64 g.span, .int .i64 g.state, .int .i64 g.tick, .int .i64 g.stamp, .int .i64 od.kind, .string od.room, .string od.user, .string od.event, .string od.thread, .bool od.priv, .bool od.on, .int .i64 od.span, .int .i64 od.state, .int .i64 od.tick, .int .i64 od.stamp], 23), (b5, #[.int .i64 od.kind, .string od.room, .string od.user, .string od.event, .string od.thread, .bool od.priv, .bool od.on, .int .i64 od.span, .int .i64 od.state, .int .i64 od.tick, .int .i64 od.stamp], 23), (b4, #[.int .i64 g.kind, .string g.room, .string g.user, .string g.event, .string g.thread, .bool g.priv, .bool g.on, .int .i64 g.span, .int .i64 g.state, .int .i64 g.tick, .int .i64 g.stamp], 23), (b2, #[.int .i64 r.kind, .string r.room, .string r.user, .string r.event, .string r.thread, .bool r.priv, .bool r.on, .int .i64 r.span, .int .i64 r.state, .int .i64 r.tick, .int .i64 r.stamp], 23), (w.heap.size, #[.int .i64 e.kind, .string e.room, .string e.user, .string e.event, .string e.thread, .bool e.priv, .bool e.on, .int .i64 e.span, .int .i64 e.state, .int .i64 e.tick, .int .i64 e.stamp], 23)] [(.slice (some ⟨g3, 0, none⟩) yod.length cap3, yod)] w') (by kernel_rfl) HK.out.drew (fun hHeld => ?_)
          generalize hwd : w3.drew = wd at hHeld ⊢
          clear HK hwd
          refine wpAnyH_take (i := 0) (oi := ⟨some 87, _, _, _, _, _⟩) (v := ?vctu0) rfl (by kernel_rfl) (by kernel_rfl) (by kernel_rfl) (fun _ _ _ h => h) (Or.inl ⟨by rfl, ?yctu0⟩) hHeld ?rctu0
          case yctu0 =>
            intro wx hSx
            go_simp
            try with_reducible rfl
          try simp only [Act.put, List.setIfInBounds_toArray, List.set_cons_zero, List.set_cons_succ]
          refine wpAnyH_take (i := 1) (oi := ⟨some 88, _, _, _, _, _⟩) (v := ?vctu1) rfl (by kernel_rfl) (by kernel_rfl) (by kernel_rfl) (fun _ _ _ h => h) (Or.inl ⟨by rfl, ?yctu1⟩) hHeld ?rctu1
          case yctu1 =>
            intro wx hSx
            go_simp
            try with_reducible rfl
          try simp only [Act.put, List.setIfInBounds_toArray, List.set_cons_zero, List.set_cons_succ]
          refine wpAnyH_take (i := 2) (oi := ⟨some 89, _, _, _, _, _⟩) (v := ?vctu2) rfl (by kernel_rfl) (by kernel_rfl) (by kernel_rfl) (fun _ _ _ h => h) (Or.inl ⟨by rfl, ?yctu2⟩) hHeld ?rctu2
          case yctu2 =>
            intro wx hSx
            go_simp
            try with_reducible rfl
          try simp only [Act.put, List.setIfInBounds_toArray, List.set_cons_zero, List.set_cons_succ]
          refine wpAnyH_take (i := 3) (oi := ⟨some 90, _, _, _, _, _⟩) (v := ?vctu3) rfl (by kernel_rfl) (by kernel_rfl) (by kernel_rfl) (fun _ _ _ h => h) (Or.inl ⟨by rfl, ?yctu3⟩) hHeld ?rctu3
          case yctu3 =>
            intro wx hSx
            have e0 : World.cell? _ ⟨b1, 22, none⟩ = some (.int .i64 od.kind) := cell_at (hSx.st 0 rfl) 22
            have e1 : World.cell? _ ⟨b1, 23, none⟩ = some (.string od.room) := cell_at (hSx.st 0 rfl) 23
            have e2 : World.cell? _ ⟨b1, 24, none⟩ = some (.string od.user) := cell_at (hSx.st 0 rfl) 24
            have e3 : World.cell? _ ⟨b1, 25, none⟩ = some (.string od.event) := cell_at (hSx.st 0 rfl) 25
            have e4 : World.cell? _ ⟨b1, 26, none⟩ = some (.string od.thread) := cell_at (hSx.st 0 rfl) 26
            have e5 : World.cell? _ ⟨b1, 27, none⟩ = some (.bool od.priv) := cell_at (hSx.st 0 rfl) 27
            have e6 : World.cell? _ ⟨b1, 28, none⟩ = some (.bool od.on) := cell_at (hSx.st 0 rfl) 28
            have e7 : World.cell? _ ⟨b1, 29, none⟩ = some (.int .i64 od.span) := cell_at (hSx.st 0 rfl) 29
            have e8 : World.cell? _ ⟨b1, 30, none⟩ = some (.int .i64 od.state) := cell_at (hSx.st 0 rfl) 30
            have e9 : World.cell? _ ⟨b1, 31, none⟩ = some (.int .i64 od.tick) := cell_at (hSx.st 0 rfl) 31
            have e10 : World.cell? _ ⟨b1, 32, none⟩ = some (.int .i64 od.stamp) := cell_at (hSx.st 0 rfl) 32
            go_simp
            try with_reducible rfl
          try simp only [Act.put, List.setIfInBounds_toArray, List.set_cons_zero, List.set_cons_succ]
          refine wpAnyH_take (i := 5) (oi := ⟨some 92, _, _, _, _, _⟩) (v := ?vctu5) rfl (by kernel_rfl) (by kernel_rfl) (by kernel_rfl) (fun _ _ _ h => h) (Or.inl ⟨by rfl, ?yctu5⟩) hHeld ?rctu5
          case yctu5 =>
            intro wx hSx
            go_simp
            try with_reducible rfl
          try simp only [Act.put, List.setIfInBounds_toArray, List.set_cons_zero, List.set_cons_succ]
          refine wpAnyH_ready (rs := [4]) (by kernel_rfl) (by simp) ?_
          refine AllReadyH.cons (o := ⟨some 91, _, _, _, _, _⟩) rfl (fun K hK => ?_) AllReadyH.nil
          go_simp
          refine (Hmod.out _).mono ?_
          rintro e wnctu4 ⟨rfl, hbn⟩
          replace hHeld := hHeld.later hbn
          refine hK.out _ _ hHeld (fun _ => ?_)
          clear hK K hbn
          try simp only [Act.put, List.setIfInBounds_toArray, List.set_cons_zero, List.set_cons_succ]
          refine wpAnyH_take (i := 6) (oi := ⟨some 93, _, _, _, _, _⟩) (v := ?vctu6) rfl (by kernel_rfl) (by kernel_rfl) (by kernel_rfl) (fun _ _ _ h => h) (Or.inl ⟨by rfl, ?yctu6⟩) hHeld ?rctu6
          case yctu6 =>
            intro wx hSx
            go_simp
            try with_reducible rfl
          try simp only [Act.put, List.setIfInBounds_toArray, List.set_cons_zero, List.set_cons_succ]
          refine wpAnyH_take (i := 7) (oi := ⟨some 94, _, _, _, _, _⟩) (v := ?vctu7) rfl (by kernel_rfl) (by kernel_rfl) (by kernel_rfl) (fun _ _ _ h => h) (Or.inl ⟨by rfl, ?yctu7⟩) hHeld ?rctu7
          case yctu7 =>
            intro wx hSx
            go_simp
            try with_reducible rfl
          try simp only [Act.put, List.setIfInBounds_toArray, List.set_cons_zero, List.set_cons_succ]
          refine wpAnyH_take (i := 8) (oi := ⟨some 95, _, _, _, _, _⟩) (v := ?vctu8) rfl (by kernel_rfl) (by kernel_rfl) (by kernel_rfl) (fun _ _ _ h => h) (Or.inl ⟨by rfl, ?yctu8⟩) hHeld ?rctu8
          case yctu8 =>
            intro wx hSx
            go_simp
            try with_reducible rfl
          try simp only [Act.put, List.setIfInBounds_toArray, List.set_cons_zero, List.set_cons_succ]
          refine wpAnyH_take (i := 9) (oi := ⟨some 96, _, _, _, _, _⟩) (v := ?vctu9) rfl (by kernel_rfl) (by kernel_rfl) (by kernel_rfl) (fun _ _ _ h => h) (Or.inl ⟨by rfl, ?yctu9⟩) hHeld ?rctu9
          case yctu9 =>
            intro wx hSx
            go_simp
            try with_reducible rfl
          try simp only [Act.put, List.setIfInBounds_toArray, List.set_cons_zero, List.set_cons_succ]
          refine wpAnyH_take (i := 10) (oi := ⟨some 97, _, _, _, _, _⟩) (v := ?vctu10) rfl (by kernel_rfl) (by kernel_rfl) (by kernel_rfl) (fun _ _ _ h => h) (Or.inl ⟨by rfl, ?yctu10⟩) hHeld ?rctu10
          case yctu10 =>
            intro wx hSx
            go_simp
            try with_reducible rfl
          try simp only [Act.put, List.setIfInBounds_toArray, List.set_cons_zero, List.set_cons_succ]
          refine wpAnyH_take (i := 11) (oi := ⟨some 98, _, _, _, _, _⟩) (v := ?vctu11) rfl (by kernel_rfl) (by kernel_rfl) (by kernel_rfl) (fun _ _ _ h => h) (Or.inl ⟨by rfl, ?yctu11⟩) hHeld ?rctu11
          case yctu11 =>
            intro wx hSx
            have e0 : World.cell? _ ⟨b1, 22, none⟩ = some (.int .i64 od.kind) := cell_at (hSx.st 0 rfl) 22
            have e1 : World.cell? _ ⟨b1, 23, none⟩ = some (.string od.room) := cell_at (hSx.st 0 rfl) 23
            have e2 : World.cell? _ ⟨b1, 24, none⟩ = some (.string od.user) := cell_at (hSx.st 0 rfl) 24
            have e3 : World.cell? _ ⟨b1, 25, none⟩ = some (.string od.event) := cell_at (hSx.st 0 rfl) 25
            have e4 : World.cell? _ ⟨b1, 26, none⟩ = some (.string od.thread) := cell_at (hSx.st 0 rfl) 26
            have e5 : World.cell? _ ⟨b1, 27, none⟩ = some (.bool od.priv) := cell_at (hSx.st 0 rfl) 27
            have e6 : World.cell? _ ⟨b1, 28, none⟩ = some (.bool od.on) := cell_at (hSx.st 0 rfl) 28
            have e7 : World.cell? _ ⟨b1, 29, none⟩ = some (.int .i64 od.span) := cell_at (hSx.st 0 rfl) 29
            have e8 : World.cell? _ ⟨b1, 30, none⟩ = some (.int .i64 od.state) := cell_at (hSx.st 0 rfl) 30
            have e9 : World.cell? _ ⟨b1, 31, none⟩ = some (.int .i64 od.tick) := cell_at (hSx.st 0 rfl) 31
            have e10 : World.cell? _ ⟨b1, 32, none⟩ = some (.int .i64 od.stamp) := cell_at (hSx.st 0 rfl) 32
            go_simp
            try with_reducible rfl
          try simp only [Act.put, List.setIfInBounds_toArray, List.set_cons_zero, List.set_cons_succ]
          refine wpAnyH_take (i := 13) (oi := ⟨some 100, _, _, _, _, _⟩) (v := ?vctu13) rfl (by kernel_rfl) (by kernel_rfl) (by kernel_rfl) (fun _ _ _ h => h) (Or.inl ⟨by rfl, ?yctu13⟩) hHeld ?rctu13
          case yctu13 =>
            intro wx hSx
            go_simp
            try with_reducible rfl
          try simp only [Act.put, List.setIfInBounds_toArray, List.set_cons_zero, List.set_cons_succ]
          refine wpAnyH_take (i := 14) (oi := ⟨some 101, _, _, _, _, _⟩) (v := ?vctu14) rfl (by kernel_rfl) (by kernel_rfl) (by kernel_rfl) (fun _ _ _ h => h) (Or.inl ⟨by rfl, ?yctu14⟩) hHeld ?rctu14
          case yctu14 =>
            intro wx hSx
            go_simp
            try with_reducible rfl
          try simp only [Act.put, List.setIfInBounds_toArray, List.set_cons_zero, List.set_cons_succ]
          refine wpAnyH_take (i := 15) (oi := ⟨some 102, _, _, _, _, _⟩) (v := ?vctu15) rfl (by kernel_rfl) (by kernel_rfl) (by kernel_rfl) (fun _ _ _ h => h) (Or.inl ⟨by rfl, ?yctu15⟩) hHeld ?rctu15
          case yctu15 =>
            intro wx hSx
            go_simp
            try with_reducible rfl
          try simp only [Act.put, List.setIfInBounds_toArray, List.set_cons_zero, List.set_cons_succ]
          refine wpAnyH_take (i := 16) (oi := ⟨some 103, _, _, _, _, _⟩) (v := ?vctu16) rfl (by kernel_rfl) (by kernel_rfl) (by kernel_rfl) (fun _ _ _ h => h) (Or.inl ⟨by rfl, ?yctu16⟩) hHeld ?rctu16
          case yctu16 =>
            intro wx hSx
            have e0 : World.cell? _ ⟨b1, 22, none⟩ = some (.int .i64 od.kind) := cell_at (hSx.st 0 rfl) 22
            have e1 : World.cell? _ ⟨b1, 23, none⟩ = some (.string od.room) := cell_at (hSx.st 0 rfl) 23
            have e2 : World.cell? _ ⟨b1, 24, none⟩ = some (.string od.user) := cell_at (hSx.st 0 rfl) 24
            have e3 : World.cell? _ ⟨b1, 25, none⟩ = some (.string od.event) := cell_at (hSx.st 0 rfl) 25
            have e4 : World.cell? _ ⟨b1, 26, none⟩ = some (.string od.thread) := cell_at (hSx.st 0 rfl) 26
            have e5 : World.cell? _ ⟨b1, 27, none⟩ = some (.bool od.priv) := cell_at (hSx.st 0 rfl) 27
            have e6 : World.cell? _ ⟨b1, 28, none⟩ = some (.bool od.on) := cell_at (hSx.st 0 rfl) 28
            have e7 : World.cell? _ ⟨b1, 29, none⟩ = some (.int .i64 od.span) := cell_at (hSx.st 0 rfl) 29
            have e8 : World.cell? _ ⟨b1, 30, none⟩ = some (.int .i64 od.state) := cell_at (hSx.st 0 rfl) 30
            have e9 : World.cell? _ ⟨b1, 31, none⟩ = some (.int .i64 od.tick) := cell_at (hSx.st 0 rfl) 31
            have e10 : World.cell? _ ⟨b1, 32, none⟩ = some (.int .i64 od.stamp) := cell_at (hSx.st 0 rfl) 32
            go_simp
            try with_reducible rfl
          try simp only [Act.put, List.setIfInBounds_toArray, List.set_cons_zero, List.set_cons_succ]
          refine wpAnyH_ready (rs := [12]) (by kernel_rfl) (by simp) ?_
          refine AllReadyH.cons (o := ⟨some 99, _, _, _, _, _⟩) rfl (fun K hK => ?_) AllReadyH.nil
          go_simp
          refine (Hlod.out _).mono ?_
          rintro e wnctu12 ⟨rfl, hbn⟩
          replace hHeld := hHeld.later hbn
          refine hK.out _ _ hHeld (fun _ => ?_)
          clear hK K hbn
          try simp only [Act.put, List.setIfInBounds_toArray, List.set_cons_zero, List.set_cons_succ]
          refine wpAnyH_ready (rs := [17]) (by kernel_rfl) (by simp) ?_
          refine AllReadyH.cons (o := ⟨some 104, _, _, _, _, _⟩) rfl (fun K hK => ?_) AllReadyH.nil
          go_simp
          refine (HLod.out _).mono ?_
          rintro e wnctu17 ⟨rfl, hbn⟩
          replace hHeld := hHeld.later hbn
          refine hK.out _ _ hHeld (fun _ => ?_)
          clear hK K hbn
          try simp only [Act.put, List.setIfInBounds_toArray, List.set_cons_zero, List.set_cons_succ]
          refine wpAnyH_take (i := 18) (oi := ⟨some 105, _, _, _, _, _⟩) (v := ?vctu18) rfl (by kernel_rfl) (by kernel_rfl) (by kernel_rfl) (fun _ _ _ h => h) (Or.inl ⟨by rfl, ?yctu18⟩) hHeld ?rctu18
          case yctu18 =>
            intro wx hSx
            go_simp
            try with_reducible rfl
          try simp only [Act.put, List.setIfInBounds_toArray, List.set_cons_zero, List.set_cons_succ]
          refine wpAnyH_take (i := 19) (oi := ⟨some 106, _, _, _, _, _⟩) (v := ?vctu19) rfl (by kernel_rfl) (by kernel_rfl) (by kernel_rfl) (fun _ _ _ h => h) (Or.inl ⟨by rfl, ?yctu19⟩) hHeld ?rctu19
          case yctu19 =>
            intro wx hSx
            go_simp
            try with_reducible rfl
          try simp only [Act.put, List.setIfInBounds_toArray, List.set_cons_zero, List.set_cons_succ]
          refine wpAnyH_take (i := 20) (oi := ⟨some 107, _, _, _, _, _⟩) (v := ?vctu20) rfl (by kernel_rfl) (by kernel_rfl) (by kernel_rfl) (fun _ _ _ h => h) (Or.inl ⟨by rfl, ?yctu20⟩) hHeld ?rctu20
          case yctu20 =>
            intro wx hSx
            go_simp
            try with_reducible rfl
          try simp only [Act.put, List.setIfInBounds_toArray, List.set_cons_zero, List.set_cons_succ]
          refine wpAnyH_take (i := 21) (oi := ⟨some 108, _, _, _, _, _⟩) (v := ?vctu21) rfl (by kernel_rfl) (by kernel_rfl) (by kernel_rfl) (fun _ _ _ h => h) (Or.inl ⟨by rfl, ?yctu21⟩) hHeld ?rctu21
          case yctu21 =>
            intro wx hSx
            go_simp
            try with_reducible rfl
          try simp only [Act.put, List.setIfInBounds_toArray, List.set_cons_zero, List.set_cons_succ]
          refine wpAnyH_take (i := 22) (oi := ⟨some 109, _, _, _, _, _⟩) (v := ?vctu22) rfl (by kernel_rfl) (by kernel_rfl) (by kernel_rfl) (fun _ _ _ h => h) (Or.inl ⟨by rfl, ?yctu22⟩) hHeld ?rctu22
          case yctu22 =>
            intro wx hSx
            go_simp
            try with_reducible rfl
          try simp only [Act.put, List.setIfInBounds_toArray, List.set_cons_zero, List.set_cons_succ]
          refine wpAnyH_take (i := 23) (oi := ⟨some 110, _, _, _, _, _⟩) (v := ?vctu23) rfl (by kernel_rfl) (by kernel_rfl) (by kernel_rfl) (fun _ _ _ h => h) (Or.inl ⟨by rfl, ?yctu23⟩) hHeld ?rctu23
          case yctu23 =>
            intro wx hSx
            go_simp
            try with_reducible rfl
          try simp only [Act.put, List.setIfInBounds_toArray, List.set_cons_zero, List.set_cons_succ]
          refine wpAnyH_take (i := 24) (oi := ⟨some 111, _, _, _, _, _⟩) (v := ?vctu24) rfl (by kernel_rfl) (by kernel_rfl) (by kernel_rfl) (fun _ _ _ h => h) (Or.inl ⟨by rfl, ?yctu24⟩) hHeld ?rctu24
          case yctu24 =>
            intro wx hSx
            go_simp
            try with_reducible rfl
          try simp only [Act.put, List.setIfInBounds_toArray, List.set_cons_zero, List.set_cons_succ]
          refine wpAnyH_take (i := 25) (oi := ⟨some 112, _, _, _, _, _⟩) (v := ?vctu25) rfl (by kernel_rfl) (by kernel_rfl) (by kernel_rfl) (fun _ _ _ h => h) (Or.inl ⟨by rfl, ?yctu25⟩) hHeld ?rctu25
          case yctu25 =>
            intro wx hSx
            go_simp
            try with_reducible rfl
          try simp only [Act.put, List.setIfInBounds_toArray, List.set_cons_zero, List.set_cons_succ]
          refine wpAnyH_done (by kernel_rfl) ?_ _
          have HK := Lib.hid hHeld
          clear hHeld
          go_upto_region 31 with (fail)
          refine wp_region_held_drew (S := fun w' => Keep w [(b1, #[.int .i64 r.kind, .string r.room, .string r.user, .string r.event, .string r.thread, .bool r.priv, .bool r.on, .int .i64 r.span, .int .i64 r.state, .int .i64 r.tick, .int .i64 r.stamp, .int .i64 g.kind, .string g.room, .string g.user, .string g.event, .string g.thread, .bool g.priv, .bool g.on, .int .i64 g.span, .int .i64 g.state, .int .i64 g.tick, .int .i64 g.stamp, .int .i64 od.kind, .string od.room, .string od.user, .string od.event, .string od.thread, .bool od.priv, .bool od.on, .int .i64 od.span, .int .i64 od.state, .int .i64 od.tick, .int .i64 od.stamp], 23), (b5, #[.int .i64 od.kind, .string od.room, .string od.user, .string od.event, .string od.thread, .bool od.priv, .bool od.on, .int .i64 od.span, .int .i64 od.state, .int .i64 od.tick, .int .i64 od.stamp], 23), (b4, #[.int .i64 g.kind, .string g.room, .string g.user, .string g.event, .string g.thread, .bool g.priv, .bool g.on, .int .i64 g.span, .int .i64 g.state, .int .i64 g.tick, .int .i64 g.stamp], 23), (b2, #[.int .i64 r.kind, .string r.room, .string r.user, .string r.event, .string r.thread, .bool r.priv, .bool r.on, .int .i64 r.span, .int .i64 r.state, .int .i64 r.tick, .int .i64 r.stamp], 23), (w.heap.size, #[.int .i64 e.kind, .string e.room, .string e.user, .string e.event, .string e.thread, .bool e.priv, .bool e.on, .int .i64 e.span, .int .i64 e.state, .int .i64 e.tick, .int .i64 e.stamp], 23)] [(.slice (some ⟨g3, 0, none⟩) yod.length cap3, yod)] w') (by kernel_rfl) HK.out.drew (fun hHeld => ?_)
          generalize hwd : wnctu17.drew = wd at hHeld ⊢
          clear HK hwd
          refine wpAnyH_take (i := 0) (oi := ⟨some 113, _, _, _, _, _⟩) (v := ?vctv0) rfl (by kernel_rfl) (by kernel_rfl) (by kernel_rfl) (fun _ _ _ h => h) (Or.inl ⟨by rfl, ?yctv0⟩) hHeld ?rctv0
          case yctv0 =>
            intro wx hSx
            go_simp
            try with_reducible rfl
          try simp only [Act.put, List.setIfInBounds_toArray, List.set_cons_zero, List.set_cons_succ]
          refine wpAnyH_take (i := 1) (oi := ⟨some 114, _, _, _, _, _⟩) (v := ?vctv1) rfl (by kernel_rfl) (by kernel_rfl) (by kernel_rfl) (fun _ _ _ h => h) (Or.inl ⟨by rfl, ?yctv1⟩) hHeld ?rctv1
          case yctv1 =>
            intro wx hSx
            go_simp
            try with_reducible rfl
          try simp only [Act.put, List.setIfInBounds_toArray, List.set_cons_zero, List.set_cons_succ]
          refine wpAnyH_take (i := 2) (oi := ⟨some 115, _, _, _, _, _⟩) (v := ?vctv2) rfl (by kernel_rfl) (by kernel_rfl) (by kernel_rfl) (fun _ _ _ h => h) (Or.inl ⟨by rfl, ?yctv2⟩) hHeld ?rctv2
          case yctv2 =>
            intro wx hSx
            go_simp
            try with_reducible rfl
          try simp only [Act.put, List.setIfInBounds_toArray, List.set_cons_zero, List.set_cons_succ]
          refine wpAnyH_take (i := 3) (oi := ⟨some 116, _, _, _, _, _⟩) (v := ?vctv3) rfl (by kernel_rfl) (by kernel_rfl) (by kernel_rfl) (fun _ _ _ h => h) (Or.inl ⟨by rfl, ?yctv3⟩) hHeld ?rctv3
          case yctv3 =>
            intro wx hSx
            have cc := conv_row (hSx.row 0 rfl)
            go_simp
            first | done | rfl | (rw [cc]; rfl)
          try simp only [Act.put, List.setIfInBounds_toArray, List.set_cons_zero, List.set_cons_succ]
          refine wpAnyH_take (i := 4) (oi := ⟨some 117, _, _, _, _, _⟩) (v := ?vctv4) rfl (by kernel_rfl) (by kernel_rfl) (by kernel_rfl) (fun _ _ _ h => h) (Or.inl ⟨by rfl, ?yctv4⟩) hHeld ?rctv4
          case yctv4 =>
            intro wx hSx
            go_simp
            try with_reducible rfl
          try simp only [Act.put, List.setIfInBounds_toArray, List.set_cons_zero, List.set_cons_succ]
          refine wpAnyH_take (i := 5) (oi := ⟨some 118, _, _, _, _, _⟩) (v := ?vctv5) rfl (by kernel_rfl) (by kernel_rfl) (by kernel_rfl) (fun _ _ _ h => h) (Or.inl ⟨by rfl, ?yctv5⟩) hHeld ?rctv5
          case yctv5 =>
            intro wx hSx
            go_simp
            try with_reducible rfl
          try simp only [Act.put, List.setIfInBounds_toArray, List.set_cons_zero, List.set_cons_succ]
          refine wpAnyH_take (i := 6) (oi := ⟨some 119, _, _, _, _, _⟩) (v := ?vctv6) rfl (by kernel_rfl) (by kernel_rfl) (by kernel_rfl) (fun _ _ _ h => h) (Or.inl ⟨by rfl, ?yctv6⟩) hHeld ?rctv6
          case yctv6 =>
            intro wx hSx
            go_simp
            try with_reducible rfl
          try simp only [Act.put, List.setIfInBounds_toArray, List.set_cons_zero, List.set_cons_succ]
          refine wpAnyH_take (i := 7) (oi := ⟨some 120, _, _, _, _, _⟩) (v := ?vctv7) rfl (by kernel_rfl) (by kernel_rfl) (by kernel_rfl) (fun _ _ _ h => h) (Or.inl ⟨by rfl, ?yctv7⟩) hHeld ?rctv7
          case yctv7 =>
            intro wx hSx
            have e0 : World.cell? _ ⟨b1, 22, none⟩ = some (.int .i64 od.kind) := cell_at (hSx.st 0 rfl) 22
            have e1 : World.cell? _ ⟨b1, 23, none⟩ = some (.string od.room) := cell_at (hSx.st 0 rfl) 23
            have e2 : World.cell? _ ⟨b1, 24, none⟩ = some (.string od.user) := cell_at (hSx.st 0 rfl) 24
            have e3 : World.cell? _ ⟨b1, 25, none⟩ = some (.string od.event) := cell_at (hSx.st 0 rfl) 25
            have e4 : World.cell? _ ⟨b1, 26, none⟩ = some (.string od.thread) := cell_at (hSx.st 0 rfl) 26
            have e5 : World.cell? _ ⟨b1, 27, none⟩ = some (.bool od.priv) := cell_at (hSx.st 0 rfl) 27
            have e6 : World.cell? _ ⟨b1, 28, none⟩ = some (.bool od.on) := cell_at (hSx.st 0 rfl) 28
            have e7 : World.cell? _ ⟨b1, 29, none⟩ = some (.int .i64 od.span) := cell_at (hSx.st 0 rfl) 29
            have e8 : World.cell? _ ⟨b1, 30, none⟩ = some (.int .i64 od.state) := cell_at (hSx.st 0 rfl) 30
            have e9 : World.cell? _ ⟨b1, 31, none⟩ = some (.int .i64 od.tick) := cell_at (hSx.st 0 rfl) 31
            have e10 : World.cell? _ ⟨b1, 32, none⟩ = some (.int .i64 od.stamp) := cell_at (hSx.st 0 rfl) 32
            go_simp
            try with_reducible rfl
          try simp only [Act.put, List.setIfInBounds_toArray, List.set_cons_zero, List.set_cons_succ]
          refine wpAnyH_ready (rs := [8]) (by kernel_rfl) (by simp) ?_
          refine AllReadyH.cons (o := ⟨some 121, _, _, _, _, _⟩) rfl (fun K hK => ?_) AllReadyH.nil
          go_simp
          refine (HBod.out _).mono ?_
          rintro e wq ⟨⟨gq, capq, rfl, hgq, hoq⟩, hbq⟩
          replace hHeld := hHeld.later hbq
          refine hK.out _ _ hHeld (fun _ => ?_)
          clear hK K hbq hgq
          try simp only [Act.put, List.setIfInBounds_toArray, List.set_cons_zero, List.set_cons_succ]
          refine anyH_narrow (S' := fun w' => Keep w [(b1, #[.int .i64 r.kind, .string r.room, .string r.user, .string r.event, .string r.thread, .bool r.priv, .bool r.on, .int .i64 r.span, .int .i64 r.state, .int .i64 r.tick, .int .i64 r.stamp, .int .i64 g.kind, .string g.room, .string g.user, .string g.event, .string g.thread, .bool g.priv, .bool g.on, .int .i64 g.span, .int .i64 g.state, .int .i64 g.tick, .int .i64 g.stamp, .int .i64 od.kind, .string od.room, .string od.user, .string od.event, .string od.thread, .bool od.priv, .bool od.on, .int .i64 od.span, .int .i64 od.state, .int .i64 od.tick, .int .i64 od.stamp], 23), (b5, #[.int .i64 od.kind, .string od.room, .string od.user, .string od.event, .string od.thread, .bool od.priv, .bool od.on, .int .i64 od.span, .int .i64 od.state, .int .i64 od.tick, .int .i64 od.stamp], 23), (b4, #[.int .i64 g.kind, .string g.room, .string g.user, .string g.event, .string g.thread, .bool g.priv, .bool g.on, .int .i64 g.span, .int .i64 g.state, .int .i64 g.tick, .int .i64 g.stamp], 23), (b2, #[.int .i64 r.kind, .string r.room, .string r.user, .string r.event, .string r.thread, .bool r.priv, .bool r.on, .int .i64 r.span, .int .i64 r.state, .int .i64 r.tick, .int .i64 r.stamp], 23), (w.heap.size, #[.int .i64 e.kind, .string e.room, .string e.user, .string e.event, .string e.thread, .bool e.priv, .bool e.on, .int .i64 e.span, .int .i64 e.state, .int .i64 e.tick, .int .i64 e.stamp], 23)] [(.slice (some ⟨gq, 0, none⟩) yod.length capq, yod), (.slice (some ⟨g3, 0, none⟩) yod.length cap3, yod)] w') (fun _ h => ⟨h.1, h.2.1, fun p hp => h.2.2 p (List.mem_cons_of_mem _ hp)⟩) _ _ _ _ ?_
          replace hHeld := hHeld.consR (hoq.row (Nat.zero_le _))
          clear hoq
          refine wpAnyH_take (i := 9) (oi := ⟨some 122, _, _, _, _, _⟩) (v := ?vctv9) rfl (by kernel_rfl) (by kernel_rfl) (by kernel_rfl) (fun _ _ _ h => h) (Or.inl ⟨by rfl, ?yctv9⟩) hHeld ?rctv9
          case yctv9 =>
            intro wx hSx
            have cc := conv_row (hSx.row 0 rfl)
            go_simp
            first | done | rfl | (rw [cc]; rfl)
          try simp only [Act.put, List.setIfInBounds_toArray, List.set_cons_zero, List.set_cons_succ]
          refine wpAnyH_take (i := 10) (oi := ⟨some 123, _, _, _, _, _⟩) (v := ?vctv10) rfl (by kernel_rfl) (by kernel_rfl) (by kernel_rfl) (fun _ _ _ h => h) (Or.inl ⟨by rfl, ?yctv10⟩) hHeld ?rctv10
          case yctv10 =>
            intro wx hSx
            go_simp
            try with_reducible rfl
          try simp only [Act.put, List.setIfInBounds_toArray, List.set_cons_zero, List.set_cons_succ]
          refine wpAnyH_take (i := 11) (oi := ⟨some 124, _, _, _, _, _⟩) (v := ?vctv11) rfl (by kernel_rfl) (by kernel_rfl) (by kernel_rfl) (fun _ _ _ h => h) (Or.inl ⟨by rfl, ?yctv11⟩) hHeld ?rctv11
          case yctv11 =>
            intro wx hSx
            go_simp
            try with_reducible rfl
          try simp only [Act.put, List.setIfInBounds_toArray, List.set_cons_zero, List.set_cons_succ]
          refine wpAnyH_done (by kernel_rfl) ?_ _
          have HK := Lib.hid hHeld
          clear hHeld
          go_wp2_with fail
          go_roundw
          case rel => exact ⟨3, by omega, by go_num, Lib.hid ⟨HK.out.1, HK.out.2.1, fun _ hp => (List.not_mem_nil hp).elim⟩⟩
          case measure => simp [intOf]
      · go_wp2_with fail
        refine (lives_any _).mono ?_
        rintro e w2 ⟨rfl, hb⟩
        replace HK := Lib.hid (HK.out.later hb)
        clear hb
        go_wp2_with fail
        go_ret
        exact ⟨rfl, HK.out.1⟩
end Go.Proofs.Ytahgkhcmchbpbaa
