/-
  What EDUs on typing ask.
-/
import Derived.Test.YtahgkhcmchbpbaaAsks3
namespace Go.Proofs.Ytahgkhcmchbpbaa
open Go.RowKit
set_option linter.unusedVariables false
set_option linter.unusedSimpArgs false
set_option maxRecDepth 4000

theorem Three.setS {w w' : World} {box : Array Value} {r u v t : ByteArray} {p o : Bool} {k s0 z c m : Int} (h : Three w box #[.int .i64 k, .string r, .string u, .string v, .string t, .bool p, .bool o, .int .i64 s0, .int .i64 z, .int .i64 c, .int .i64 m] w') (s : Int) : Three w box #[.int .i64 k, .string r, .string u, .string v, .string t, .bool p, .bool o, .int .i64 s, .int .i64 z, .int .i64 c, .int .i64 m] (w'.setCell ⟨w.heap.size + 1 + 1, 7, none⟩ (.int .i64 s)) := by
  obtain ⟨h1, h2, ⟨X, hX, h3⟩, h4⟩ := h
  have e0 := Below.heap_setCell w' ⟨w.heap.size + 1 + 1, 7, none⟩ (.int .i64 s) w.heap.size (by simp; omega)
  have e1 := Below.heap_setCell w' ⟨w.heap.size + 1 + 1, 7, none⟩ (.int .i64 s) (w.heap.size + 1) (by simp)
  exact ⟨h1.setCell (by simp; omega) _, e0.trans h2, ⟨X, hX, e1.trans h3⟩, heap_set h4 7 _⟩

set_option maxHeartbeats 3200000 in
theorem asks2_any (k : Int) (r u v t : ByteArray) (p o : Bool) (s z c m : Int) (w : World) (hr : r.size ≤ maxLen) (hu : u.size ≤ maxLen) (hv : v.size ≤ maxLen) (ht : t.size ≤ maxLen) :
    Calls Try.prog 63 #[.agg #[.int .i64 k, .string r, .string u, .string v, .string t, .bool p, .bool o, .int .i64 s, .int .i64 z, .int .i64 c, .int .i64 m]] w fun e w' => e = .returned (.tuple #[.agg #[.int .i64 0, .string r, .string u, .string ⟨#[]⟩, .string ⟨#[]⟩, .bool false, .bool o, .int .i64 (if o then s else 0), .int .i64 0, .int .i64 0, .int .i64 0], .bool (namedB 33 r && namedB 64 u && (!o || decide (1 ≤ s ∧ s ≤ 60)))]) ∧ Below w.heap.size w w' := by
  have hd : namedB 33 r = false ∨ (namedB 33 r = true ∧ namedB 64 u = false) ∨ (namedB 33 r = true ∧ namedB 64 u = true) := by cases namedB 33 r <;> cases namedB 64 u <;> simp
  rcases hd with h1 | ⟨h1, h2⟩ | ⟨h1, h2⟩
  · cases o
    · go_enter Try.func63, Try.ntmps63
      go_wp2_with fail
      generalize hW : (((w.alloc (.cells #[.int .i64 k, .string r, .string u, .string v, .string t, .bool p, .bool false, .int .i64 s, .int .i64 z, .int .i64 c, .int .i64 m] 23)).alloc (.cells #[.int .i64 0, .string ⟨#[]⟩, .string ⟨#[]⟩, .string ⟨#[]⟩, .string ⟨#[]⟩, .bool false, .bool false, .int .i64 0, .int .i64 0, .int .i64 0, .int .i64 0] 23)).alloc (.cells #[.int .i64 0, .string r, .string u, .string ⟨#[]⟩, .string ⟨#[]⟩, .bool false, .bool false, .int .i64 0, .int .i64 0, .int .i64 0, .int .i64 0] 23)) = W
      have hT := three_new hW rfl
      clear hW
      refine (room_any r _ hr).mono ?_
      rintro e w1 ⟨rfl, hb1⟩
      rw [h1]
      replace hT := hT.later hb1
      clear hb1
      obtain ⟨d0, d1, d2, d3, d4, d5, d6, d7, d8, d9, d10⟩ := cells11 hT.2.1
      obtain ⟨f0, f1, f2, f3, f4, f5, f6, f7, f8, f9, f10⟩ := cells11 hT.2.2.2
      have HT := Lib.hid hT
      clear hT
      obtain ⟨X, hX, hx3⟩ := HT.out.2.2.1
      have Hset := Lib.hid (setRow_heap _ _ _ #[.int .i64 0, .string r, .string u, .string ⟨#[]⟩, .string ⟨#[]⟩, .bool false, .bool false, .int .i64 0, .int .i64 0, .int .i64 0, .int .i64 0] _ _ hx3)
      have HB := Lib.hid (HT.out.set (new := #[.int .i64 0, .string r, .string u, .string ⟨#[]⟩, .string ⟨#[]⟩, .bool false, .bool false, .int .i64 0, .int .i64 0, .int .i64 0, .int .i64 0]) rfl).1
      replace hx3 := Lib.hid hx3
      go_wp2_with (refine wpList_store_row rfl 23 (.tmp 2) (.tmp 32) rfl (w.heap.size + 1) #[.int .i64 0, .string r, .string u, .string ⟨#[]⟩, .string ⟨#[]⟩, .bool false, .bool false, .int .i64 0, .int .i64 0, .int .i64 0, .int .i64 0] rfl rfl 23 X hx3.out edu_info (hX.trans rfl) (one11 _ _ _ _ _ _ _ _ _ _ _) ?_)
      generalize hW2 : World.setRow _ _ _ = W2 at Hset HB ⊢
      clear hW2 f0 f1 f2 f3 f4 f5 f6 f7 f8 f9 f10
      obtain ⟨g0, g1, g2, g3, g4, g5, g6, g7, g8, g9, g10⟩ := cells11 Hset.out
      go_wp2_with fail
      refine bodyPost_ret (v := .tuple #[.agg #[.int .i64 0, .string r, .string u, .string ⟨#[]⟩, .string ⟨#[]⟩, .bool false, .bool false, .int .i64 0, .int .i64 0, .int .i64 0, .int .i64 0], .bool false]) ?_ rfl ⟨?_, HB.out⟩
      · simp [results, Try.results63, go_sem, g0, g1, g2, g3, g4, g5, g6, g7, g8, g9, g10]
      · simp [h1]
    · go_enter Try.func63, Try.ntmps63
      go_wp2_with fail
      generalize hW : (((w.alloc (.cells #[.int .i64 k, .string r, .string u, .string v, .string t, .bool p, .bool true, .int .i64 s, .int .i64 z, .int .i64 c, .int .i64 m] 23)).alloc (.cells #[.int .i64 0, .string ⟨#[]⟩, .string ⟨#[]⟩, .string ⟨#[]⟩, .string ⟨#[]⟩, .bool false, .bool false, .int .i64 0, .int .i64 0, .int .i64 0, .int .i64 0] 23)).alloc (.cells #[.int .i64 0, .string r, .string u, .string ⟨#[]⟩, .string ⟨#[]⟩, .bool false, .bool true, .int .i64 0, .int .i64 0, .int .i64 0, .int .i64 0] 23)) = W
      have hT := three_new hW rfl
      clear hW
      refine (room_any r _ hr).mono ?_
      rintro e w1 ⟨rfl, hb1⟩
      rw [h1]
      replace hT := hT.later hb1
      clear hb1
      obtain ⟨d0, d1, d2, d3, d4, d5, d6, d7, d8, d9, d10⟩ := cells11 hT.2.1
      obtain ⟨f0, f1, f2, f3, f4, f5, f6, f7, f8, f9, f10⟩ := cells11 hT.2.2.2
      have HT := Lib.hid hT
      clear hT
      have hfr := free_at HT.out.2.2.2 7
      go_upto_region 6 with (fail)
      have hG := HT.out.setS s
      generalize hW7 : w1.setCell ⟨w.heap.size + 1 + 1, 7, none⟩ (.int .i64 s) = w7 at hG ⊢
      clear hW7 hfr
      clear d0 d1 d2 d3 d4 d5 d6 d7 d8 d9 d10 f0 f1 f2 f3 f4 f5 f6 f7 f8 f9 f10
      replace HT := Lib.hid hG
      clear hG
      obtain ⟨f0, f1, f2, f3, f4, f5, f6, f7, f8, f9, f10⟩ := cells11 HT.out.2.2.2
      obtain ⟨X, hX, hx3⟩ := HT.out.2.2.1
      have Hset := Lib.hid (setRow_heap _ _ _ #[.int .i64 0, .string r, .string u, .string ⟨#[]⟩, .string ⟨#[]⟩, .bool false, .bool true, .int .i64 s, .int .i64 0, .int .i64 0, .int .i64 0] _ _ hx3)
      have HB := Lib.hid (HT.out.set (new := #[.int .i64 0, .string r, .string u, .string ⟨#[]⟩, .string ⟨#[]⟩, .bool false, .bool true, .int .i64 s, .int .i64 0, .int .i64 0, .int .i64 0]) rfl).1
      replace hx3 := Lib.hid hx3
      go_wp2_with (refine wpList_store_row rfl 23 (.tmp 2) (.tmp 32) rfl (w.heap.size + 1) #[.int .i64 0, .string r, .string u, .string ⟨#[]⟩, .string ⟨#[]⟩, .bool false, .bool true, .int .i64 s, .int .i64 0, .int .i64 0, .int .i64 0] rfl rfl 23 X hx3.out edu_info (hX.trans rfl) (one11 _ _ _ _ _ _ _ _ _ _ _) ?_)
      generalize hW2 : World.setRow _ _ _ = W2 at Hset HB ⊢
      clear hW2 f0 f1 f2 f3 f4 f5 f6 f7 f8 f9 f10
      obtain ⟨g0, g1, g2, g3, g4, g5, g6, g7, g8, g9, g10⟩ := cells11 Hset.out
      go_wp2_with fail
      refine bodyPost_ret (v := .tuple #[.agg #[.int .i64 0, .string r, .string u, .string ⟨#[]⟩, .string ⟨#[]⟩, .bool false, .bool true, .int .i64 s, .int .i64 0, .int .i64 0, .int .i64 0], .bool false]) ?_ rfl ⟨?_, HB.out⟩
      · simp [results, Try.results63, go_sem, g0, g1, g2, g3, g4, g5, g6, g7, g8, g9, g10]
      · simp [h1]
  · cases o
    · go_enter Try.func63, Try.ntmps63
      go_wp2_with fail
      generalize hW : (((w.alloc (.cells #[.int .i64 k, .string r, .string u, .string v, .string t, .bool p, .bool false, .int .i64 s, .int .i64 z, .int .i64 c, .int .i64 m] 23)).alloc (.cells #[.int .i64 0, .string ⟨#[]⟩, .string ⟨#[]⟩, .string ⟨#[]⟩, .string ⟨#[]⟩, .bool false, .bool false, .int .i64 0, .int .i64 0, .int .i64 0, .int .i64 0] 23)).alloc (.cells #[.int .i64 0, .string r, .string u, .string ⟨#[]⟩, .string ⟨#[]⟩, .bool false, .bool false, .int .i64 0, .int .i64 0, .int .i64 0, .int .i64 0] 23)) = W
      have hT := three_new hW rfl
      clear hW
      refine (room_any r _ hr).mono ?_
      rintro e w1 ⟨rfl, hb1⟩
      rw [h1]
      replace hT := hT.later hb1
      clear hb1
      obtain ⟨d0, d1, d2, d3, d4, d5, d6, d7, d8, d9, d10⟩ := cells11 hT.2.1
      obtain ⟨f0, f1, f2, f3, f4, f5, f6, f7, f8, f9, f10⟩ := cells11 hT.2.2.2
      have HT := Lib.hid hT
      clear hT
      go_wp2_with fail
      clear d0 d1 d2 d3 d4 d5 d6 d7 d8 d9 d10 f0 f1 f2 f3 f4 f5 f6 f7 f8 f9 f10
      refine (user_any u _ hu).mono ?_
      rintro e w2 ⟨rfl, hb2⟩
      rw [h2]
      replace HT := Lib.hid (HT.out.later hb2)
      clear hb2
      obtain ⟨d0, d1, d2, d3, d4, d5, d6, d7, d8, d9, d10⟩ := cells11 HT.out.2.1
      obtain ⟨f0, f1, f2, f3, f4, f5, f6, f7, f8, f9, f10⟩ := cells11 HT.out.2.2.2
      obtain ⟨X, hX, hx3⟩ := HT.out.2.2.1
      have Hset := Lib.hid (setRow_heap _ _ _ #[.int .i64 0, .string r, .string u, .string ⟨#[]⟩, .string ⟨#[]⟩, .bool false, .bool false, .int .i64 0, .int .i64 0, .int .i64 0, .int .i64 0] _ _ hx3)
      have HB := Lib.hid (HT.out.set (new := #[.int .i64 0, .string r, .string u, .string ⟨#[]⟩, .string ⟨#[]⟩, .bool false, .bool false, .int .i64 0, .int .i64 0, .int .i64 0, .int .i64 0]) rfl).1
      replace hx3 := Lib.hid hx3
      go_wp2_with (refine wpList_store_row rfl 23 (.tmp 2) (.tmp 32) rfl (w.heap.size + 1) #[.int .i64 0, .string r, .string u, .string ⟨#[]⟩, .string ⟨#[]⟩, .bool false, .bool false, .int .i64 0, .int .i64 0, .int .i64 0, .int .i64 0] rfl rfl 23 X hx3.out edu_info (hX.trans rfl) (one11 _ _ _ _ _ _ _ _ _ _ _) ?_)
      generalize hW2 : World.setRow _ _ _ = W2 at Hset HB ⊢
      clear hW2 f0 f1 f2 f3 f4 f5 f6 f7 f8 f9 f10
      obtain ⟨g0, g1, g2, g3, g4, g5, g6, g7, g8, g9, g10⟩ := cells11 Hset.out
      go_wp2_with fail
      refine bodyPost_ret (v := .tuple #[.agg #[.int .i64 0, .string r, .string u, .string ⟨#[]⟩, .string ⟨#[]⟩, .bool false, .bool false, .int .i64 0, .int .i64 0, .int .i64 0, .int .i64 0], .bool false]) ?_ rfl ⟨?_, HB.out⟩
      · simp [results, Try.results63, go_sem, g0, g1, g2, g3, g4, g5, g6, g7, g8, g9, g10]
      · simp [h1, h2]
    · go_enter Try.func63, Try.ntmps63
      go_wp2_with fail
      generalize hW : (((w.alloc (.cells #[.int .i64 k, .string r, .string u, .string v, .string t, .bool p, .bool true, .int .i64 s, .int .i64 z, .int .i64 c, .int .i64 m] 23)).alloc (.cells #[.int .i64 0, .string ⟨#[]⟩, .string ⟨#[]⟩, .string ⟨#[]⟩, .string ⟨#[]⟩, .bool false, .bool false, .int .i64 0, .int .i64 0, .int .i64 0, .int .i64 0] 23)).alloc (.cells #[.int .i64 0, .string r, .string u, .string ⟨#[]⟩, .string ⟨#[]⟩, .bool false, .bool true, .int .i64 0, .int .i64 0, .int .i64 0, .int .i64 0] 23)) = W
      have hT := three_new hW rfl
      clear hW
      refine (room_any r _ hr).mono ?_
      rintro e w1 ⟨rfl, hb1⟩
      rw [h1]
      replace hT := hT.later hb1
      clear hb1
      obtain ⟨d0, d1, d2, d3, d4, d5, d6, d7, d8, d9, d10⟩ := cells11 hT.2.1
      obtain ⟨f0, f1, f2, f3, f4, f5, f6, f7, f8, f9, f10⟩ := cells11 hT.2.2.2
      have HT := Lib.hid hT
      clear hT
      go_wp2_with fail
      clear d0 d1 d2 d3 d4 d5 d6 d7 d8 d9 d10 f0 f1 f2 f3 f4 f5 f6 f7 f8 f9 f10
      refine (user_any u _ hu).mono ?_
      rintro e w2 ⟨rfl, hb2⟩
      rw [h2]
      replace HT := Lib.hid (HT.out.later hb2)
      clear hb2
      obtain ⟨d0, d1, d2, d3, d4, d5, d6, d7, d8, d9, d10⟩ := cells11 HT.out.2.1
      obtain ⟨f0, f1, f2, f3, f4, f5, f6, f7, f8, f9, f10⟩ := cells11 HT.out.2.2.2
      have hfr := free_at HT.out.2.2.2 7
      go_upto_region 6 with (fail)
      have hG := HT.out.setS s
      generalize hW7 : w2.setCell ⟨w.heap.size + 1 + 1, 7, none⟩ (.int .i64 s) = w7 at hG ⊢
      clear hW7 hfr
      clear d0 d1 d2 d3 d4 d5 d6 d7 d8 d9 d10 f0 f1 f2 f3 f4 f5 f6 f7 f8 f9 f10
      replace HT := Lib.hid hG
      clear hG
      obtain ⟨f0, f1, f2, f3, f4, f5, f6, f7, f8, f9, f10⟩ := cells11 HT.out.2.2.2
      obtain ⟨X, hX, hx3⟩ := HT.out.2.2.1
      have Hset := Lib.hid (setRow_heap _ _ _ #[.int .i64 0, .string r, .string u, .string ⟨#[]⟩, .string ⟨#[]⟩, .bool false, .bool true, .int .i64 s, .int .i64 0, .int .i64 0, .int .i64 0] _ _ hx3)
      have HB := Lib.hid (HT.out.set (new := #[.int .i64 0, .string r, .string u, .string ⟨#[]⟩, .string ⟨#[]⟩, .bool false, .bool true, .int .i64 s, .int .i64 0, .int .i64 0, .int .i64 0]) rfl).1
      replace hx3 := Lib.hid hx3
      go_wp2_with (refine wpList_store_row rfl 23 (.tmp 2) (.tmp 32) rfl (w.heap.size + 1) #[.int .i64 0, .string r, .string u, .string ⟨#[]⟩, .string ⟨#[]⟩, .bool false, .bool true, .int .i64 s, .int .i64 0, .int .i64 0, .int .i64 0] rfl rfl 23 X hx3.out edu_info (hX.trans rfl) (one11 _ _ _ _ _ _ _ _ _ _ _) ?_)
      generalize hW2 : World.setRow _ _ _ = W2 at Hset HB ⊢
      clear hW2 f0 f1 f2 f3 f4 f5 f6 f7 f8 f9 f10
      obtain ⟨g0, g1, g2, g3, g4, g5, g6, g7, g8, g9, g10⟩ := cells11 Hset.out
      go_wp2_with fail
      refine bodyPost_ret (v := .tuple #[.agg #[.int .i64 0, .string r, .string u, .string ⟨#[]⟩, .string ⟨#[]⟩, .bool false, .bool true, .int .i64 s, .int .i64 0, .int .i64 0, .int .i64 0], .bool false]) ?_ rfl ⟨?_, HB.out⟩
      · simp [results, Try.results63, go_sem, g0, g1, g2, g3, g4, g5, g6, g7, g8, g9, g10]
      · simp [h1, h2]
  · cases o
    · go_enter Try.func63, Try.ntmps63
      go_wp2_with fail
      generalize hW : (((w.alloc (.cells #[.int .i64 k, .string r, .string u, .string v, .string t, .bool p, .bool false, .int .i64 s, .int .i64 z, .int .i64 c, .int .i64 m] 23)).alloc (.cells #[.int .i64 0, .string ⟨#[]⟩, .string ⟨#[]⟩, .string ⟨#[]⟩, .string ⟨#[]⟩, .bool false, .bool false, .int .i64 0, .int .i64 0, .int .i64 0, .int .i64 0] 23)).alloc (.cells #[.int .i64 0, .string r, .string u, .string ⟨#[]⟩, .string ⟨#[]⟩, .bool false, .bool false, .int .i64 0, .int .i64 0, .int .i64 0, .int .i64 0] 23)) = W
      have hT := three_new hW rfl
      clear hW
      refine (room_any r _ hr).mono ?_
      rintro e w1 ⟨rfl, hb1⟩
      rw [h1]
      replace hT := hT.later hb1
      clear hb1
      obtain ⟨d0, d1, d2, d3, d4, d5, d6, d7, d8, d9, d10⟩ := cells11 hT.2.1
      obtain ⟨f0, f1, f2, f3, f4, f5, f6, f7, f8, f9, f10⟩ := cells11 hT.2.2.2
      have HT := Lib.hid hT
      clear hT
      go_wp2_with fail
      clear d0 d1 d2 d3 d4 d5 d6 d7 d8 d9 d10 f0 f1 f2 f3 f4 f5 f6 f7 f8 f9 f10
      refine (user_any u _ hu).mono ?_
      rintro e w2 ⟨rfl, hb2⟩
      rw [h2]
      replace HT := Lib.hid (HT.out.later hb2)
      clear hb2
      obtain ⟨d0, d1, d2, d3, d4, d5, d6, d7, d8, d9, d10⟩ := cells11 HT.out.2.1
      obtain ⟨f0, f1, f2, f3, f4, f5, f6, f7, f8, f9, f10⟩ := cells11 HT.out.2.2.2
      obtain ⟨X, hX, hx3⟩ := HT.out.2.2.1
      have Hset := Lib.hid (setRow_heap _ _ _ #[.int .i64 0, .string r, .string u, .string ⟨#[]⟩, .string ⟨#[]⟩, .bool false, .bool false, .int .i64 0, .int .i64 0, .int .i64 0, .int .i64 0] _ _ hx3)
      have HB := Lib.hid (HT.out.set (new := #[.int .i64 0, .string r, .string u, .string ⟨#[]⟩, .string ⟨#[]⟩, .bool false, .bool false, .int .i64 0, .int .i64 0, .int .i64 0, .int .i64 0]) rfl).1
      replace hx3 := Lib.hid hx3
      go_wp2_with (refine wpList_store_row rfl 23 (.tmp 2) (.tmp 32) rfl (w.heap.size + 1) #[.int .i64 0, .string r, .string u, .string ⟨#[]⟩, .string ⟨#[]⟩, .bool false, .bool false, .int .i64 0, .int .i64 0, .int .i64 0, .int .i64 0] rfl rfl 23 X hx3.out edu_info (hX.trans rfl) (one11 _ _ _ _ _ _ _ _ _ _ _) ?_)
      generalize hW2 : World.setRow _ _ _ = W2 at Hset HB ⊢
      clear hW2 f0 f1 f2 f3 f4 f5 f6 f7 f8 f9 f10
      obtain ⟨g0, g1, g2, g3, g4, g5, g6, g7, g8, g9, g10⟩ := cells11 Hset.out
      go_wp2_with fail
      refine bodyPost_ret (v := .tuple #[.agg #[.int .i64 0, .string r, .string u, .string ⟨#[]⟩, .string ⟨#[]⟩, .bool false, .bool false, .int .i64 0, .int .i64 0, .int .i64 0, .int .i64 0], .bool true]) ?_ rfl ⟨?_, HB.out⟩
      · simp [results, Try.results63, go_sem, g0, g1, g2, g3, g4, g5, g6, g7, g8, g9, g10]
      · simp [h1, h2]
    · go_enter Try.func63, Try.ntmps63
      go_wp2_with fail
      generalize hW : (((w.alloc (.cells #[.int .i64 k, .string r, .string u, .string v, .string t, .bool p, .bool true, .int .i64 s, .int .i64 z, .int .i64 c, .int .i64 m] 23)).alloc (.cells #[.int .i64 0, .string ⟨#[]⟩, .string ⟨#[]⟩, .string ⟨#[]⟩, .string ⟨#[]⟩, .bool false, .bool false, .int .i64 0, .int .i64 0, .int .i64 0, .int .i64 0] 23)).alloc (.cells #[.int .i64 0, .string r, .string u, .string ⟨#[]⟩, .string ⟨#[]⟩, .bool false, .bool true, .int .i64 0, .int .i64 0, .int .i64 0, .int .i64 0] 23)) = W
      have hT := three_new hW rfl
      clear hW
      refine (room_any r _ hr).mono ?_
      rintro e w1 ⟨rfl, hb1⟩
      rw [h1]
      replace hT := hT.later hb1
      clear hb1
      obtain ⟨d0, d1, d2, d3, d4, d5, d6, d7, d8, d9, d10⟩ := cells11 hT.2.1
      obtain ⟨f0, f1, f2, f3, f4, f5, f6, f7, f8, f9, f10⟩ := cells11 hT.2.2.2
      have HT := Lib.hid hT
      clear hT
      go_wp2_with fail
      clear d0 d1 d2 d3 d4 d5 d6 d7 d8 d9 d10 f0 f1 f2 f3 f4 f5 f6 f7 f8 f9 f10
      refine (user_any u _ hu).mono ?_
      rintro e w2 ⟨rfl, hb2⟩
      rw [h2]
      replace HT := Lib.hid (HT.out.later hb2)
      clear hb2
      obtain ⟨d0, d1, d2, d3, d4, d5, d6, d7, d8, d9, d10⟩ := cells11 HT.out.2.1
      obtain ⟨f0, f1, f2, f3, f4, f5, f6, f7, f8, f9, f10⟩ := cells11 HT.out.2.2.2
      have hfr := free_at HT.out.2.2.2 7
      go_wp2_with fail
      refine (within_any s 1 60 _).mono ?_
      rintro e wz ⟨rfl, rfl⟩
      go_upto_region 6 with (fail)
      have hG := HT.out.setS s
      generalize hW7 : w2.setCell ⟨w.heap.size + 1 + 1, 7, none⟩ (.int .i64 s) = w7 at hG ⊢
      clear hW7 hfr
      clear d0 d1 d2 d3 d4 d5 d6 d7 d8 d9 d10 f0 f1 f2 f3 f4 f5 f6 f7 f8 f9 f10
      replace HT := Lib.hid hG
      clear hG
      obtain ⟨f0, f1, f2, f3, f4, f5, f6, f7, f8, f9, f10⟩ := cells11 HT.out.2.2.2
      obtain ⟨X, hX, hx3⟩ := HT.out.2.2.1
      have Hset := Lib.hid (setRow_heap _ _ _ #[.int .i64 0, .string r, .string u, .string ⟨#[]⟩, .string ⟨#[]⟩, .bool false, .bool true, .int .i64 s, .int .i64 0, .int .i64 0, .int .i64 0] _ _ hx3)
      have HB := Lib.hid (HT.out.set (new := #[.int .i64 0, .string r, .string u, .string ⟨#[]⟩, .string ⟨#[]⟩, .bool false, .bool true, .int .i64 s, .int .i64 0, .int .i64 0, .int .i64 0]) rfl).1
      replace hx3 := Lib.hid hx3
      go_wp2_with (refine wpList_store_row rfl 23 (.tmp 2) (.tmp 32) rfl (w.heap.size + 1) #[.int .i64 0, .string r, .string u, .string ⟨#[]⟩, .string ⟨#[]⟩, .bool false, .bool true, .int .i64 s, .int .i64 0, .int .i64 0, .int .i64 0] rfl rfl 23 X hx3.out edu_info (hX.trans rfl) (one11 _ _ _ _ _ _ _ _ _ _ _) ?_)
      generalize hW2 : World.setRow _ _ _ = W2 at Hset HB ⊢
      clear hW2 f0 f1 f2 f3 f4 f5 f6 f7 f8 f9 f10
      obtain ⟨g0, g1, g2, g3, g4, g5, g6, g7, g8, g9, g10⟩ := cells11 Hset.out
      go_wp2_with fail
      refine bodyPost_ret (v := .tuple #[.agg #[.int .i64 0, .string r, .string u, .string ⟨#[]⟩, .string ⟨#[]⟩, .bool false, .bool true, .int .i64 s, .int .i64 0, .int .i64 0, .int .i64 0], .bool (decide (1 ≤ s ∧ s ≤ 60))]) ?_ rfl ⟨?_, HB.out⟩
      · simp [results, Try.results63, go_sem, g0, g1, g2, g3, g4, g5, g6, g7, g8, g9, g10]
      · simp [h1, h2]
end Go.Proofs.Ytahgkhcmchbpbaa
