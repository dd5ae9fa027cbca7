/-
  What an EDU is of is told as the document says: the statement EduKeys, walked.
-/
import Derived.Test.YtahgkhcmchbpbaaLawKit
namespace Go.Proofs.Ytahgkhcmchbpbaa
open Go.RowKit
set_option linter.unusedVariables false
set_option linter.unusedSimpArgs false
set_option maxRecDepth 4000

theorem few_short (e : Edu) : (fewE e).short := ⟨fewS_size _ 40, fewS_size _ 40, fewS_size _ 40, fewS_size _ 40⟩

set_option maxHeartbeats 12800000 in
theorem eduKeys_walk (a b : Edu) (w : World) (af : a.fits) (a1 : a.room.size ≤ maxLen) (a2 : a.user.size ≤ maxLen) (a3 : a.event.size ≤ maxLen) (a4 : a.thread.size ≤ maxLen) (bf : b.fits) (b1 : b.room.size ≤ maxLen) (b2 : b.user.size ≤ maxLen) (b3 : b.event.size ≤ maxLen) (b4 : b.thread.size ≤ maxLen) :
    Calls Try.prog 6 #[a.val, b.val] w fun x w' => x = .returned (.bool true) ∧ Below w.heap.size w w' := by
  have HFa := Lib.hid (fun w => refFew_any a w a1 a2 a3 a4)
  have HFb := Lib.hid (fun w => refFew_any b w b1 b2 b3 b4)
  have HGa := Lib.hid (fun w => good_any a w af a3 a4)
  have HGb := Lib.hid (fun w => good_any b w bf b3 b4)
  have sfa := few_short a
  have sfb := few_short b
  have sga := local_short (good_local a)
  have sgb := local_short (good_local b)
  clear af a1 a2 a3 a4 bf b1 b2 b3 b4
  generalize fewE a = fa at *
  generalize fewE b = fb at *
  generalize goodE a = ga at *
  generalize goodE b = gb at *
  have HOfa := Lib.hid (fun w => of_any fa.kind fa.room fa.user fa.event fa.thread fa.priv fa.on fa.span fa.state fa.tick fa.stamp w (by have := sfa.1; omega) (by have := sfa.2.1; omega) (by have := sfa.2.2.2; omega))
  have HOfb := Lib.hid (fun w => of_any fb.kind fb.room fb.user fb.event fb.thread fb.priv fb.on fb.span fb.state fb.tick fb.stamp w (by have := sfb.1; omega) (by have := sfb.2.1; omega) (by have := sfb.2.2.2; omega))
  have HOga := Lib.hid (fun w => of_any ga.kind ga.room ga.user ga.event ga.thread ga.priv ga.on ga.span ga.state ga.tick ga.stamp w (by have := sga.1; omega) (by have := sga.2.1; omega) (by have := sga.2.2.2; omega))
  have HOgb := Lib.hid (fun w => of_any gb.kind gb.room gb.user gb.event gb.thread gb.priv gb.on gb.span gb.state gb.tick gb.stamp w (by have := sgb.1; omega) (by have := sgb.2.1; omega) (by have := sgb.2.2.2; omega))
  have HSfafb := Lib.hid (fun w => refSame_any fa fb w)
  have HEfafb := Lib.hid (eql_key fa fb)
  rw [key_same] at HEfafb
  generalize sameE fa fb = sfafb at *
  have HSgagb := Lib.hid (fun w => refSame_any ga gb w)
  have HEgagb := Lib.hid (eql_key ga gb)
  rw [key_same] at HEgagb
  generalize sameE ga gb = sgagb at *
  have HSfagb := Lib.hid (fun w => refSame_any fa gb w)
  have HEfagb := Lib.hid (eql_key fa gb)
  rw [key_same] at HEfagb
  generalize sameE fa gb = sfagb at *
  clear sfa sfb sga sgb
  simp only [Edu.val] at *
  go_enter Try.func6, Try.ntmps6
  go_upto_region 1 with (fail)
  have HK : Keep w _ _ ((w.alloc (.cells #[.int .i64 a.kind, .string a.room, .string a.user, .string a.event, .string a.thread, .bool a.priv, .bool a.on, .int .i64 a.span, .int .i64 a.state, .int .i64 a.tick, .int .i64 a.stamp] 23)).alloc (.cells #[.int .i64 b.kind, .string b.room, .string b.user, .string b.event, .string b.thread, .bool b.priv, .bool b.on, .int .i64 b.span, .int .i64 b.state, .int .i64 b.tick, .int .i64 b.stamp] 23)) := (((Keep.refl w).new #[.int .i64 a.kind, .string a.room, .string a.user, .string a.event, .string a.thread, .bool a.priv, .bool a.on, .int .i64 a.span, .int .i64 a.state, .int .i64 a.tick, .int .i64 a.stamp] 23).new #[.int .i64 b.kind, .string b.room, .string b.user, .string b.event, .string b.thread, .bool b.priv, .bool b.on, .int .i64 b.span, .int .i64 b.state, .int .i64 b.tick, .int .i64 b.stamp] 23)
  try simp only [size_alloc1] at HK
  replace HK := Lib.hid (show Keep w [(w.heap.size + 1, #[.int .i64 b.kind, .string b.room, .string b.user, .string b.event, .string b.thread, .bool b.priv, .bool b.on, .int .i64 b.span, .int .i64 b.state, .int .i64 b.tick, .int .i64 b.stamp], 23), (w.heap.size, #[.int .i64 a.kind, .string a.room, .string a.user, .string a.event, .string a.thread, .bool a.priv, .bool a.on, .int .i64 a.span, .int .i64 a.state, .int .i64 a.tick, .int .i64 a.stamp], 23)] [] ((w.alloc (.cells #[.int .i64 a.kind, .string a.room, .string a.user, .string a.event, .string a.thread, .bool a.priv, .bool a.on, .int .i64 a.span, .int .i64 a.state, .int .i64 a.tick, .int .i64 a.stamp] 23)).alloc (.cells #[.int .i64 b.kind, .string b.room, .string b.user, .string b.event, .string b.thread, .bool b.priv, .bool b.on, .int .i64 b.span, .int .i64 b.state, .int .i64 b.tick, .int .i64 b.stamp] 23)) from HK)
  generalize hW : ((w.alloc (.cells #[.int .i64 a.kind, .string a.room, .string a.user, .string a.event, .string a.thread, .bool a.priv, .bool a.on, .int .i64 a.span, .int .i64 a.state, .int .i64 a.tick, .int .i64 a.stamp] 23)).alloc (.cells #[.int .i64 b.kind, .string b.room, .string b.user, .string b.event, .string b.thread, .bool b.priv, .bool b.on, .int .i64 b.span, .int .i64 b.state, .int .i64 b.tick, .int .i64 b.stamp] 23)) = W0 at HK ⊢
  clear hW
  refine wp_region_held_drew (S := fun w' => Keep w [(w.heap.size + 1, #[.int .i64 b.kind, .string b.room, .string b.user, .string b.event, .string b.thread, .bool b.priv, .bool b.on, .int .i64 b.span, .int .i64 b.state, .int .i64 b.tick, .int .i64 b.stamp], 23), (w.heap.size, #[.int .i64 a.kind, .string a.room, .string a.user, .string a.event, .string a.thread, .bool a.priv, .bool a.on, .int .i64 a.span, .int .i64 a.state, .int .i64 a.tick, .int .i64 a.stamp], 23)] [] w') (by kernel_rfl) HK.out.drew (fun hHeld => ?_)
  generalize hwd : W0.drew = wd at hHeld ⊢
  clear HK hwd
  refine wpAnyH_take (i := 0) (oi := ⟨some 9, _, _, _, _, _⟩) (v := ?vx0) rfl (by kernel_rfl) (by kernel_rfl) (by kernel_rfl) (fun _ _ _ h => h) (Or.inl ⟨by rfl, ?yx0⟩) hHeld ?rx0
  case yx0 =>
    intro wx hSx
    obtain ⟨c1_0, c1_1, c1_2, c1_3, c1_4, c1_5, c1_6, c1_7, c1_8, c1_9, c1_10⟩ := cells11 (hSx.st 1 rfl)
    go_simp
    try with_reducible rfl
  try simp only [Act.put, List.setIfInBounds_toArray, List.set_cons_zero, List.set_cons_succ]
  refine wpAnyH_take (i := 2) (oi := ⟨some 11, _, _, _, _, _⟩) (v := ?vx2) rfl (by kernel_rfl) (by kernel_rfl) (by kernel_rfl) (fun _ _ _ h => h) (Or.inl ⟨by rfl, ?yx2⟩) hHeld ?rx2
  case yx2 =>
    intro wx hSx
    obtain ⟨c1_0, c1_1, c1_2, c1_3, c1_4, c1_5, c1_6, c1_7, c1_8, c1_9, c1_10⟩ := cells11 (hSx.st 1 rfl)
    go_simp
    try with_reducible rfl
  try simp only [Act.put, List.setIfInBounds_toArray, List.set_cons_zero, List.set_cons_succ]
  refine wpAnyH_take (i := 4) (oi := ⟨some 13, _, _, _, _, _⟩) (v := ?vx4) rfl (by kernel_rfl) (by kernel_rfl) (by kernel_rfl) (fun _ _ _ h => h) (Or.inl ⟨by rfl, ?yx4⟩) hHeld ?rx4
  case yx4 =>
    intro wx hSx
    obtain ⟨c1_0, c1_1, c1_2, c1_3, c1_4, c1_5, c1_6, c1_7, c1_8, c1_9, c1_10⟩ := cells11 (hSx.st 1 rfl)
    go_simp
    try with_reducible rfl
  try simp only [Act.put, List.setIfInBounds_toArray, List.set_cons_zero, List.set_cons_succ]
  refine wpAnyH_ready (rs := [1]) (by kernel_rfl) (by simp) ?_
  refine AllReadyH.cons (o := ⟨some 10, _, _, _, _, _⟩) rfl (fun K hK => ?_) AllReadyH.nil
  go_simp
  refine (HFa.out _).mono ?_
  rintro e wnx1 ⟨rfl, hbn⟩
  replace hHeld := hHeld.later hbn
  refine hK.out _ _ hHeld (fun _ => ?_)
  clear hK K hbn
  try simp only [Act.put, List.setIfInBounds_toArray, List.set_cons_zero, List.set_cons_succ]
  refine wpAnyH_ready (rs := [3]) (by kernel_rfl) (by simp) ?_
  refine AllReadyH.cons (o := ⟨some 12, _, _, _, _, _⟩) rfl (fun K hK => ?_) AllReadyH.nil
  go_simp
  refine (HGa.out _).mono ?_
  rintro e wnx3 ⟨rfl, hbn⟩
  replace hHeld := hHeld.later hbn
  refine hK.out _ _ hHeld (fun _ => ?_)
  clear hK K hbn
  try simp only [Act.put, List.setIfInBounds_toArray, List.set_cons_zero, List.set_cons_succ]
  refine wpAnyH_ready (rs := [5]) (by kernel_rfl) (by simp) ?_
  refine AllReadyH.cons (o := ⟨some 14, _, _, _, _, _⟩) rfl (fun K hK => ?_) AllReadyH.nil
  go_simp
  refine (HFa.out _).mono ?_
  rintro e wnx5 ⟨rfl, hbn⟩
  replace hHeld := hHeld.later hbn
  refine hK.out _ _ hHeld (fun _ => ?_)
  clear hK K hbn
  try simp only [Act.put, List.setIfInBounds_toArray, List.set_cons_zero, List.set_cons_succ]
  refine wpAnyH_ready (rs := [6]) (by kernel_rfl) (by simp) ?_
  refine AllReadyH.cons (o := ⟨some 15, _, _, _, _, _⟩) rfl (fun K hK => ?_) AllReadyH.nil
  go_simp
  have HK := Lib.hid (hHeld.new #[.int .i64 fa.kind, .string fa.room, .string fa.user, .string fa.event, .string fa.thread, .bool fa.priv, .bool fa.on, .int .i64 fa.span, .int .i64 fa.state, .int .i64 fa.tick, .int .i64 fa.stamp, .int .i64 ga.kind, .string ga.room, .string ga.user, .string ga.event, .string ga.thread, .bool ga.priv, .bool ga.on, .int .i64 ga.span, .int .i64 ga.state, .int .i64 ga.tick, .int .i64 ga.stamp, .int .i64 fa.kind, .string fa.room, .string fa.user, .string fa.event, .string fa.thread, .bool fa.priv, .bool fa.on, .int .i64 fa.span, .int .i64 fa.state, .int .i64 fa.tick, .int .i64 fa.stamp] 23)
  refine hK.out _ _ (hHeld.later (below_new wnx5 _)) (fun hHeld => ?_)
  clear hK K
  try simp only [Act.put, List.setIfInBounds_toArray, List.set_cons_zero, List.set_cons_succ]
  generalize hW : (wnx5.alloc (.cells #[.int .i64 fa.kind, .string fa.room, .string fa.user, .string fa.event, .string fa.thread, .bool fa.priv, .bool fa.on, .int .i64 fa.span, .int .i64 fa.state, .int .i64 fa.tick, .int .i64 fa.stamp, .int .i64 ga.kind, .string ga.room, .string ga.user, .string ga.event, .string ga.thread, .bool ga.priv, .bool ga.on, .int .i64 ga.span, .int .i64 ga.state, .int .i64 ga.tick, .int .i64 ga.stamp, .int .i64 fa.kind, .string fa.room, .string fa.user, .string fa.event, .string fa.thread, .bool fa.priv, .bool fa.on, .int .i64 fa.span, .int .i64 fa.state, .int .i64 fa.tick, .int .i64 fa.stamp] 23)) = wlx at HK hHeld ⊢
  generalize hg : wnx5.heap.size = Lx at HK ⊢
  clear hW hg
  refine wpAnyH_take (i := 7) (oi := ⟨some 5, _, _, _, _, _⟩) (v := ?vx7) rfl (by kernel_rfl) (by kernel_rfl) (by kernel_rfl) (fun _ _ _ h => h) (Or.inl ⟨by rfl, ?yx7⟩) hHeld ?rx7
  case yx7 =>
    intro wx hSx
    go_simp
    try with_reducible rfl
  try simp only [Act.put, List.setIfInBounds_toArray, List.set_cons_zero, List.set_cons_succ]
  refine wpAnyH_done (by kernel_rfl) ?_ _
  clear hHeld
  go_upto_region 2 with (fail)
  refine wp_region_held_drew (S := fun w' => Keep w [(Lx, #[.int .i64 fa.kind, .string fa.room, .string fa.user, .string fa.event, .string fa.thread, .bool fa.priv, .bool fa.on, .int .i64 fa.span, .int .i64 fa.state, .int .i64 fa.tick, .int .i64 fa.stamp, .int .i64 ga.kind, .string ga.room, .string ga.user, .string ga.event, .string ga.thread, .bool ga.priv, .bool ga.on, .int .i64 ga.span, .int .i64 ga.state, .int .i64 ga.tick, .int .i64 ga.stamp, .int .i64 fa.kind, .string fa.room, .string fa.user, .string fa.event, .string fa.thread, .bool fa.priv, .bool fa.on, .int .i64 fa.span, .int .i64 fa.state, .int .i64 fa.tick, .int .i64 fa.stamp], 23), (w.heap.size + 1, #[.int .i64 b.kind, .string b.room, .string b.user, .string b.event, .string b.thread, .bool b.priv, .bool b.on, .int .i64 b.span, .int .i64 b.state, .int .i64 b.tick, .int .i64 b.stamp], 23), (w.heap.size, #[.int .i64 a.kind, .string a.room, .string a.user, .string a.event, .string a.thread, .bool a.priv, .bool a.on, .int .i64 a.span, .int .i64 a.state, .int .i64 a.tick, .int .i64 a.stamp], 23)] [] w') (by kernel_rfl) HK.out.drew (fun hHeld => ?_)
  generalize hwd : wlx.drew = wd at hHeld ⊢
  clear HK hwd
  refine wpAnyH_take (i := 0) (oi := ⟨some 16, _, _, _, _, _⟩) (v := ?vy0) rfl (by kernel_rfl) (by kernel_rfl) (by kernel_rfl) (fun _ _ _ h => h) (Or.inl ⟨by rfl, ?yy0⟩) hHeld ?ry0
  case yy0 =>
    intro wx hSx
    obtain ⟨c1_0, c1_1, c1_2, c1_3, c1_4, c1_5, c1_6, c1_7, c1_8, c1_9, c1_10⟩ := cells11 (hSx.st 1 rfl)
    go_simp
    try with_reducible rfl
  try simp only [Act.put, List.setIfInBounds_toArray, List.set_cons_zero, List.set_cons_succ]
  refine wpAnyH_take (i := 2) (oi := ⟨some 18, _, _, _, _, _⟩) (v := ?vy2) rfl (by kernel_rfl) (by kernel_rfl) (by kernel_rfl) (fun _ _ _ h => h) (Or.inl ⟨by rfl, ?yy2⟩) hHeld ?ry2
  case yy2 =>
    intro wx hSx
    obtain ⟨c1_0, c1_1, c1_2, c1_3, c1_4, c1_5, c1_6, c1_7, c1_8, c1_9, c1_10⟩ := cells11 (hSx.st 1 rfl)
    go_simp
    try with_reducible rfl
  try simp only [Act.put, List.setIfInBounds_toArray, List.set_cons_zero, List.set_cons_succ]
  refine wpAnyH_take (i := 4) (oi := ⟨some 20, _, _, _, _, _⟩) (v := ?vy4) rfl (by kernel_rfl) (by kernel_rfl) (by kernel_rfl) (fun _ _ _ h => h) (Or.inl ⟨by rfl, ?yy4⟩) hHeld ?ry4
  case yy4 =>
    intro wx hSx
    obtain ⟨c1_0, c1_1, c1_2, c1_3, c1_4, c1_5, c1_6, c1_7, c1_8, c1_9, c1_10⟩ := cells11 (hSx.st 1 rfl)
    go_simp
    try with_reducible rfl
  try simp only [Act.put, List.setIfInBounds_toArray, List.set_cons_zero, List.set_cons_succ]
  refine wpAnyH_ready (rs := [1]) (by kernel_rfl) (by simp) ?_
  refine AllReadyH.cons (o := ⟨some 17, _, _, _, _, _⟩) rfl (fun K hK => ?_) AllReadyH.nil
  go_simp
  refine (HFb.out _).mono ?_
  rintro e wny1 ⟨rfl, hbn⟩
  replace hHeld := hHeld.later hbn
  refine hK.out _ _ hHeld (fun _ => ?_)
  clear hK K hbn
  try simp only [Act.put, List.setIfInBounds_toArray, List.set_cons_zero, List.set_cons_succ]
  refine wpAnyH_ready (rs := [3]) (by kernel_rfl) (by simp) ?_
  refine AllReadyH.cons (o := ⟨some 19, _, _, _, _, _⟩) rfl (fun K hK => ?_) AllReadyH.nil
  go_simp
  refine (HGb.out _).mono ?_
  rintro e wny3 ⟨rfl, hbn⟩
  replace hHeld := hHeld.later hbn
  refine hK.out _ _ hHeld (fun _ => ?_)
  clear hK K hbn
  try simp only [Act.put, List.setIfInBounds_toArray, List.set_cons_zero, List.set_cons_succ]
  refine wpAnyH_ready (rs := [5]) (by kernel_rfl) (by simp) ?_
  refine AllReadyH.cons (o := ⟨some 21, _, _, _, _, _⟩) rfl (fun K hK => ?_) AllReadyH.nil
  go_simp
  refine (HGb.out _).mono ?_
  rintro e wny5 ⟨rfl, hbn⟩
  replace hHeld := hHeld.later hbn
  refine hK.out _ _ hHeld (fun _ => ?_)
  clear hK K hbn
  try simp only [Act.put, List.setIfInBounds_toArray, List.set_cons_zero, List.set_cons_succ]
  refine wpAnyH_ready (rs := [6]) (by kernel_rfl) (by simp) ?_
  refine AllReadyH.cons (o := ⟨some 22, _, _, _, _, _⟩) rfl (fun K hK => ?_) AllReadyH.nil
  go_simp
  have HK := Lib.hid (hHeld.new #[.int .i64 fb.kind, .string fb.room, .string fb.user, .string fb.event, .string fb.thread, .bool fb.priv, .bool fb.on, .int .i64 fb.span, .int .i64 fb.state, .int .i64 fb.tick, .int .i64 fb.stamp, .int .i64 gb.kind, .string gb.room, .string gb.user, .string gb.event, .string gb.thread, .bool gb.priv, .bool gb.on, .int .i64 gb.span, .int .i64 gb.state, .int .i64 gb.tick, .int .i64 gb.stamp, .int .i64 gb.kind, .string gb.room, .string gb.user, .string gb.event, .string gb.thread, .bool gb.priv, .bool gb.on, .int .i64 gb.span, .int .i64 gb.state, .int .i64 gb.tick, .int .i64 gb.stamp] 23)
  refine hK.out _ _ (hHeld.later (below_new wny5 _)) (fun hHeld => ?_)
  clear hK K
  try simp only [Act.put, List.setIfInBounds_toArray, List.set_cons_zero, List.set_cons_succ]
  generalize hW : (wny5.alloc (.cells #[.int .i64 fb.kind, .string fb.room, .string fb.user, .string fb.event, .string fb.thread, .bool fb.priv, .bool fb.on, .int .i64 fb.span, .int .i64 fb.state, .int .i64 fb.tick, .int .i64 fb.stamp, .int .i64 gb.kind, .string gb.room, .string gb.user, .string gb.event, .string gb.thread, .bool gb.priv, .bool gb.on, .int .i64 gb.span, .int .i64 gb.state, .int .i64 gb.tick, .int .i64 gb.stamp, .int .i64 gb.kind, .string gb.room, .string gb.user, .string gb.event, .string gb.thread, .bool gb.priv, .bool gb.on, .int .i64 gb.span, .int .i64 gb.state, .int .i64 gb.tick, .int .i64 gb.stamp] 23)) = wly at HK hHeld ⊢
  generalize hg : wny5.heap.size = Ly at HK ⊢
  clear hW hg
  refine wpAnyH_take (i := 7) (oi := ⟨some 6, _, _, _, _, _⟩) (v := ?vy7) rfl (by kernel_rfl) (by kernel_rfl) (by kernel_rfl) (fun _ _ _ h => h) (Or.inl ⟨by rfl, ?yy7⟩) hHeld ?ry7
  case yy7 =>
    intro wx hSx
    go_simp
    try with_reducible rfl
  try simp only [Act.put, List.setIfInBounds_toArray, List.set_cons_zero, List.set_cons_succ]
  refine wpAnyH_done (by kernel_rfl) ?_ _
  clear hHeld
  go_wp2_with fail
  go_loopw [7] (fun i wr => ∃ j : Nat, j ≤ 3 ∧ i = .int .i64 (j : Int) ∧ Hid (Keep w [(Ly, #[.int .i64 fb.kind, .string fb.room, .string fb.user, .string fb.event, .string fb.thread, .bool fb.priv, .bool fb.on, .int .i64 fb.span, .int .i64 fb.state, .int .i64 fb.tick, .int .i64 fb.stamp, .int .i64 gb.kind, .string gb.room, .string gb.user, .string gb.event, .string gb.thread, .bool gb.priv, .bool gb.on, .int .i64 gb.span, .int .i64 gb.state, .int .i64 gb.tick, .int .i64 gb.stamp, .int .i64 gb.kind, .string gb.room, .string gb.user, .string gb.event, .string gb.thread, .bool gb.priv, .bool gb.on, .int .i64 gb.span, .int .i64 gb.state, .int .i64 gb.tick, .int .i64 gb.stamp], 23), (Lx, #[.int .i64 fa.kind, .string fa.room, .string fa.user, .string fa.event, .string fa.thread, .bool fa.priv, .bool fa.on, .int .i64 fa.span, .int .i64 fa.state, .int .i64 fa.tick, .int .i64 fa.stamp, .int .i64 ga.kind, .string ga.room, .string ga.user, .string ga.event, .string ga.thread, .bool ga.priv, .bool ga.on, .int .i64 ga.span, .int .i64 ga.state, .int .i64 ga.tick, .int .i64 ga.stamp, .int .i64 fa.kind, .string fa.room, .string fa.user, .string fa.event, .string fa.thread, .bool fa.priv, .bool fa.on, .int .i64 fa.span, .int .i64 fa.state, .int .i64 fa.tick, .int .i64 fa.stamp], 23), (w.heap.size + 1, #[.int .i64 b.kind, .string b.room, .string b.user, .string b.event, .string b.thread, .bool b.priv, .bool b.on, .int .i64 b.span, .int .i64 b.state, .int .i64 b.tick, .int .i64 b.stamp], 23), (w.heap.size, #[.int .i64 a.kind, .string a.room, .string a.user, .string a.event, .string a.thread, .bool a.priv, .bool a.on, .int .i64 a.span, .int .i64 a.state, .int .i64 a.tick, .int .i64 a.stamp], 23)] [] wr)) (fun i _ => 3 - (intOf i).toNat)
  case atStart => exact ⟨0, by omega, rfl, HK⟩
  case round =>
    obtain ⟨j, hj, rfl, HK⟩ := hrel
    rcases (show j = 0 ∨ j = 1 ∨ j = 2 ∨ j = 3 by omega) with rfl | rfl | rfl | rfl
    · have e1_0 : World.cell? _ ⟨Lx, 0, none⟩ = some (.int .i64 fa.kind) := cell_at (HK.out.st 1 rfl) 0
      have e1_1 : World.cell? _ ⟨Lx, 1, none⟩ = some (.string fa.room) := cell_at (HK.out.st 1 rfl) 1
      have e1_2 : World.cell? _ ⟨Lx, 2, none⟩ = some (.string fa.user) := cell_at (HK.out.st 1 rfl) 2
      have e1_3 : World.cell? _ ⟨Lx, 3, none⟩ = some (.string fa.event) := cell_at (HK.out.st 1 rfl) 3
      have e1_4 : World.cell? _ ⟨Lx, 4, none⟩ = some (.string fa.thread) := cell_at (HK.out.st 1 rfl) 4
      have e1_5 : World.cell? _ ⟨Lx, 5, none⟩ = some (.bool fa.priv) := cell_at (HK.out.st 1 rfl) 5
      have e1_6 : World.cell? _ ⟨Lx, 6, none⟩ = some (.bool fa.on) := cell_at (HK.out.st 1 rfl) 6
      have e1_7 : World.cell? _ ⟨Lx, 7, none⟩ = some (.int .i64 fa.span) := cell_at (HK.out.st 1 rfl) 7
      have e1_8 : World.cell? _ ⟨Lx, 8, none⟩ = some (.int .i64 fa.state) := cell_at (HK.out.st 1 rfl) 8
      have e1_9 : World.cell? _ ⟨Lx, 9, none⟩ = some (.int .i64 fa.tick) := cell_at (HK.out.st 1 rfl) 9
      have e1_10 : World.cell? _ ⟨Lx, 10, none⟩ = some (.int .i64 fa.stamp) := cell_at (HK.out.st 1 rfl) 10
      go_wp2_with fail
      clear e1_0 e1_1 e1_2 e1_3 e1_4 e1_5 e1_6 e1_7 e1_8 e1_9 e1_10
      refine (HOfa.out _).mono ?_
      rintro e w1 ⟨rfl, hb⟩
      replace HK := Lib.hid (HK.out.later hb)
      clear hb
      go_upto_region 7 with (fail)
      replace HK := Lib.hid (HK.out.new #[.int .i64 fa.kind, .string fa.room, .string fa.user, .string fa.thread, .bool fa.priv] 41)
      generalize hW : (w1.alloc (.cells #[.int .i64 fa.kind, .string fa.room, .string fa.user, .string fa.thread, .bool fa.priv] 41)) = w2 at HK ⊢
      generalize hg : w1.heap.size = b2 at HK ⊢
      clear hW hg
      refine wp_region_held_drew (S := fun w' => Keep w [(b2, #[.int .i64 fa.kind, .string fa.room, .string fa.user, .string fa.thread, .bool fa.priv], 41), (Ly, #[.int .i64 fb.kind, .string fb.room, .string fb.user, .string fb.event, .string fb.thread, .bool fb.priv, .bool fb.on, .int .i64 fb.span, .int .i64 fb.state, .int .i64 fb.tick, .int .i64 fb.stamp, .int .i64 gb.kind, .string gb.room, .string gb.user, .string gb.event, .string gb.thread, .bool gb.priv, .bool gb.on, .int .i64 gb.span, .int .i64 gb.state, .int .i64 gb.tick, .int .i64 gb.stamp, .int .i64 gb.kind, .string gb.room, .string gb.user, .string gb.event, .string gb.thread, .bool gb.priv, .bool gb.on, .int .i64 gb.span, .int .i64 gb.state, .int .i64 gb.tick, .int .i64 gb.stamp], 23), (Lx, #[.int .i64 fa.kind, .string fa.room, .string fa.user, .string fa.event, .string fa.thread, .bool fa.priv, .bool fa.on, .int .i64 fa.span, .int .i64 fa.state, .int .i64 fa.tick, .int .i64 fa.stamp, .int .i64 ga.kind, .string ga.room, .string ga.user, .string ga.event, .string ga.thread, .bool ga.priv, .bool ga.on, .int .i64 ga.span, .int .i64 ga.state, .int .i64 ga.tick, .int .i64 ga.stamp, .int .i64 fa.kind, .string fa.room, .string fa.user, .string fa.event, .string fa.thread, .bool fa.priv, .bool fa.on, .int .i64 fa.span, .int .i64 fa.state, .int .i64 fa.tick, .int .i64 fa.stamp], 23), (w.heap.size + 1, #[.int .i64 b.kind, .string b.room, .string b.user, .string b.event, .string b.thread, .bool b.priv, .bool b.on, .int .i64 b.span, .int .i64 b.state, .int .i64 b.tick, .int .i64 b.stamp], 23), (w.heap.size, #[.int .i64 a.kind, .string a.room, .string a.user, .string a.event, .string a.thread, .bool a.priv, .bool a.on, .int .i64 a.span, .int .i64 a.state, .int .i64 a.tick, .int .i64 a.stamp], 23)] [] w') (by kernel_rfl) HK.out.drew (fun hHeld => ?_)
      generalize hwd : w2.drew = wd at hHeld ⊢
      clear HK hwd
      refine wpAnyH_take (i := 0) (oi := ⟨some 32, _, _, _, _, _⟩) (v := ?va0) rfl (by kernel_rfl) (by kernel_rfl) (by kernel_rfl) (fun _ _ _ h => h) (Or.inl ⟨by rfl, ?ya0⟩) hHeld ?ra0
      case ya0 =>
        intro wx hSx
        go_simp
        try with_reducible rfl
      try simp only [Act.put, List.setIfInBounds_toArray, List.set_cons_zero, List.set_cons_succ]
      refine wpAnyH_take (i := 1) (oi := ⟨some 33, _, _, _, _, _⟩) (v := ?va1) rfl (by kernel_rfl) (by kernel_rfl) (by kernel_rfl) (fun _ _ _ h => h) (Or.inl ⟨by rfl, ?ya1⟩) hHeld ?ra1
      case ya1 =>
        intro wx hSx
        obtain ⟨k0, k1, k2, k3, k4⟩ := cells5 (hSx.st 0 rfl)
        go_simp
        try with_reducible rfl
      try simp only [Act.put, List.setIfInBounds_toArray, List.set_cons_zero, List.set_cons_succ]
      refine wpAnyH_take (i := 2) (oi := ⟨some 34, _, _, _, _, _⟩) (v := ?va2) rfl (by kernel_rfl) (by kernel_rfl) (by kernel_rfl) (fun _ _ _ h => h) (Or.inl ⟨by rfl, ?ya2⟩) hHeld ?ra2
      case ya2 =>
        intro wx hSx
        go_simp
        try with_reducible rfl
      try simp only [Act.put, List.setIfInBounds_toArray, List.set_cons_zero, List.set_cons_succ]
      refine wpAnyH_take (i := 3) (oi := ⟨some 35, _, _, _, _, _⟩) (v := ?va3) rfl (by kernel_rfl) (by kernel_rfl) (by kernel_rfl) (fun _ _ _ h => h) (Or.inl ⟨by rfl, ?ya3⟩) hHeld ?ra3
      case ya3 =>
        intro wx hSx
        go_simp
        try with_reducible rfl
      try simp only [Act.put, List.setIfInBounds_toArray, List.set_cons_zero, List.set_cons_succ]
      refine wpAnyH_take (i := 4) (oi := ⟨some 36, _, _, _, _, _⟩) (v := ?va4) rfl (by kernel_rfl) (by kernel_rfl) (by kernel_rfl) (fun _ _ _ h => h) (Or.inl ⟨by rfl, ?ya4⟩) hHeld ?ra4
      case ya4 =>
        intro wx hSx
        go_simp
        try with_reducible rfl
      try simp only [Act.put, List.setIfInBounds_toArray, List.set_cons_zero, List.set_cons_succ]
      refine wpAnyH_take (i := 5) (oi := ⟨some 37, _, _, _, _, _⟩) (v := ?va5) rfl (by kernel_rfl) (by kernel_rfl) (by kernel_rfl) (fun _ _ _ h => h) (Or.inl ⟨by rfl, ?ya5⟩) hHeld ?ra5
      case ya5 =>
        intro wx hSx
        go_simp
        try with_reducible rfl
      try simp only [Act.put, List.setIfInBounds_toArray, List.set_cons_zero, List.set_cons_succ]
      refine wpAnyH_take (i := 6) (oi := ⟨some 38, _, _, _, _, _⟩) (v := ?va6) rfl (by kernel_rfl) (by kernel_rfl) (by kernel_rfl) (fun _ _ _ h => h) (Or.inl ⟨by rfl, ?ya6⟩) hHeld ?ra6
      case ya6 =>
        intro wx hSx
        have e2_0 : World.cell? _ ⟨Lx, 0, none⟩ = some (.int .i64 fa.kind) := cell_at (hSx.st 2 rfl) 0
        go_simp
        try with_reducible rfl
      try simp only [Act.put, List.setIfInBounds_toArray, List.set_cons_zero, List.set_cons_succ]
      refine wpAnyH_take (i := 7) (oi := ⟨some 39, _, _, _, _, _⟩) (v := ?va7) rfl (by kernel_rfl) (by kernel_rfl) (by kernel_rfl) (fun _ _ _ h => h) (Or.inl ⟨by rfl, ?ya7⟩) hHeld ?ra7
      case ya7 =>
        intro wx hSx
        go_simp
        try with_reducible rfl
      try simp only [Act.put, List.setIfInBounds_toArray, List.set_cons_zero, List.set_cons_succ]
      refine wpAnyH_take (i := 8) (oi := ⟨some 40, _, _, _, _, _⟩) (v := ?va8) rfl (by kernel_rfl) (by kernel_rfl) (by kernel_rfl) (fun _ _ _ h => h) (Or.inl ⟨by rfl, ?ya8⟩) hHeld ?ra8
      case ya8 =>
        intro wx hSx
        go_simp
        try with_reducible rfl
      try simp only [Act.put, List.setIfInBounds_toArray, List.set_cons_zero, List.set_cons_succ]
      refine wpAnyH_take (i := 9) (oi := ⟨some 41, _, _, _, _, _⟩) (v := ?va9) rfl (by kernel_rfl) (by kernel_rfl) (by kernel_rfl) (fun _ _ _ h => h) (Or.inl ⟨by rfl, ?ya9⟩) hHeld ?ra9
      case ya9 =>
        intro wx hSx
        go_simp
        try with_reducible rfl
      try simp only [Act.put, List.setIfInBounds_toArray, List.set_cons_zero, List.set_cons_succ]
      refine wpAnyH_take (i := 10) (oi := ⟨some 42, _, _, _, _, _⟩) (v := ?va10) rfl (by kernel_rfl) (by kernel_rfl) (by kernel_rfl) (fun _ _ _ h => h) (Or.inl ⟨by rfl, ?ya10⟩) hHeld ?ra10
      case ya10 =>
        intro wx hSx
        obtain ⟨k0, k1, k2, k3, k4⟩ := cells5 (hSx.st 0 rfl)
        go_simp
        try with_reducible rfl
      try simp only [Act.put, List.setIfInBounds_toArray, List.set_cons_zero, List.set_cons_succ]
      refine wpAnyH_take (i := 11) (oi := ⟨some 43, _, _, _, _, _⟩) (v := ?va11) rfl (by kernel_rfl) (by kernel_rfl) (by kernel_rfl) (fun _ _ _ h => h) (Or.inl ⟨by rfl, ?ya11⟩) hHeld ?ra11
      case ya11 =>
        intro wx hSx
        go_simp
        try with_reducible rfl
      try simp only [Act.put, List.setIfInBounds_toArray, List.set_cons_zero, List.set_cons_succ]
      refine wpAnyH_take (i := 12) (oi := ⟨some 44, _, _, _, _, _⟩) (v := ?va12) rfl (by kernel_rfl) (by kernel_rfl) (by kernel_rfl) (fun _ _ _ h => h) (Or.inl ⟨by rfl, ?ya12⟩) hHeld ?ra12
      case ya12 =>
        intro wx hSx
        go_simp
        try with_reducible rfl
      try simp only [Act.put, List.setIfInBounds_toArray, List.set_cons_zero, List.set_cons_succ]
      refine wpAnyH_take (i := 13) (oi := ⟨some 45, _, _, _, _, _⟩) (v := ?va13) rfl (by kernel_rfl) (by kernel_rfl) (by kernel_rfl) (fun _ _ _ h => h) (Or.inl ⟨by rfl, ?ya13⟩) hHeld ?ra13
      case ya13 =>
        intro wx hSx
        go_simp
        try with_reducible rfl
      try simp only [Act.put, List.setIfInBounds_toArray, List.set_cons_zero, List.set_cons_succ]
      refine wpAnyH_take (i := 14) (oi := ⟨some 46, _, _, _, _, _⟩) (v := ?va14) rfl (by kernel_rfl) (by kernel_rfl) (by kernel_rfl) (fun _ _ _ h => h) (Or.inl ⟨by rfl, ?ya14⟩) hHeld ?ra14
      case ya14 =>
        intro wx hSx
        go_simp
        try with_reducible rfl
      try simp only [Act.put, List.setIfInBounds_toArray, List.set_cons_zero, List.set_cons_succ]
      refine wpAnyH_take (i := 15) (oi := ⟨some 47, _, _, _, _, _⟩) (v := ?va15) rfl (by kernel_rfl) (by kernel_rfl) (by kernel_rfl) (fun _ _ _ h => h) (Or.inl ⟨by rfl, ?ya15⟩) hHeld ?ra15
      case ya15 =>
        intro wx hSx
        have e2_1 : World.cell? _ ⟨Lx, 1, none⟩ = some (.string fa.room) := cell_at (hSx.st 2 rfl) 1
        go_simp
        try with_reducible rfl
      try simp only [Act.put, List.setIfInBounds_toArray, List.set_cons_zero, List.set_cons_succ]
      refine wpAnyH_take (i := 16) (oi := ⟨some 48, _, _, _, _, _⟩) (v := ?va16) rfl (by kernel_rfl) (by kernel_rfl) (by kernel_rfl) (fun _ _ _ h => h) (Or.inl ⟨by rfl, ?ya16⟩) hHeld ?ra16
      case ya16 =>
        intro wx hSx
        go_simp
        try with_reducible rfl
      try simp only [Act.put, List.setIfInBounds_toArray, List.set_cons_zero, List.set_cons_succ]
      refine wpAnyH_take (i := 17) (oi := ⟨some 49, _, _, _, _, _⟩) (v := ?va17) rfl (by kernel_rfl) (by kernel_rfl) (by kernel_rfl) (fun _ _ _ h => h) (Or.inl ⟨by rfl, ?ya17⟩) hHeld ?ra17
      case ya17 =>
        intro wx hSx
        go_simp
        try with_reducible rfl
      try simp only [Act.put, List.setIfInBounds_toArray, List.set_cons_zero, List.set_cons_succ]
      refine wpAnyH_take (i := 18) (oi := ⟨some 50, _, _, _, _, _⟩) (v := ?va18) rfl (by kernel_rfl) (by kernel_rfl) (by kernel_rfl) (fun _ _ _ h => h) (Or.inl ⟨by rfl, ?ya18⟩) hHeld ?ra18
      case ya18 =>
        intro wx hSx
        go_simp
        try with_reducible rfl
      try simp only [Act.put, List.setIfInBounds_toArray, List.set_cons_zero, List.set_cons_succ]
      refine wpAnyH_take (i := 19) (oi := ⟨some 51, _, _, _, _, _⟩) (v := ?va19) rfl (by kernel_rfl) (by kernel_rfl) (by kernel_rfl) (fun _ _ _ h => h) (Or.inl ⟨by rfl, ?ya19⟩) hHeld ?ra19
      case ya19 =>
        intro wx hSx
        go_simp
        try with_reducible rfl
      try simp only [Act.put, List.setIfInBounds_toArray, List.set_cons_zero, List.set_cons_succ]
      refine wpAnyH_take (i := 20) (oi := ⟨some 52, _, _, _, _, _⟩) (v := ?va20) rfl (by kernel_rfl) (by kernel_rfl) (by kernel_rfl) (fun _ _ _ h => h) (Or.inl ⟨by rfl, ?ya20⟩) hHeld ?ra20
      case ya20 =>
        intro wx hSx
        obtain ⟨k0, k1, k2, k3, k4⟩ := cells5 (hSx.st 0 rfl)
        go_simp
        try with_reducible rfl
      try simp only [Act.put, List.setIfInBounds_toArray, List.set_cons_zero, List.set_cons_succ]
      refine wpAnyH_take (i := 21) (oi := ⟨some 53, _, _, _, _, _⟩) (v := ?va21) rfl (by kernel_rfl) (by kernel_rfl) (by kernel_rfl) (fun _ _ _ h => h) (Or.inl ⟨by rfl, ?ya21⟩) hHeld ?ra21
      case ya21 =>
        intro wx hSx
        go_simp
        try with_reducible rfl
      try simp only [Act.put, List.setIfInBounds_toArray, List.set_cons_zero, List.set_cons_succ]
      refine wpAnyH_take (i := 22) (oi := ⟨some 54, _, _, _, _, _⟩) (v := ?va22) rfl (by kernel_rfl) (by kernel_rfl) (by kernel_rfl) (fun _ _ _ h => h) (Or.inl ⟨by rfl, ?ya22⟩) hHeld ?ra22
      case ya22 =>
        intro wx hSx
        go_simp
        try with_reducible rfl
      try simp only [Act.put, List.setIfInBounds_toArray, List.set_cons_zero, List.set_cons_succ]
      refine wpAnyH_take (i := 23) (oi := ⟨some 55, _, _, _, _, _⟩) (v := ?va23) rfl (by kernel_rfl) (by kernel_rfl) (by kernel_rfl) (fun _ _ _ h => h) (Or.inl ⟨by rfl, ?ya23⟩) hHeld ?ra23
      case ya23 =>
        intro wx hSx
        go_simp
        try with_reducible rfl
      try simp only [Act.put, List.setIfInBounds_toArray, List.set_cons_zero, List.set_cons_succ]
      refine wpAnyH_take (i := 24) (oi := ⟨some 56, _, _, _, _, _⟩) (v := ?va24) rfl (by kernel_rfl) (by kernel_rfl) (by kernel_rfl) (fun _ _ _ h => h) (Or.inl ⟨by rfl, ?ya24⟩) hHeld ?ra24
      case ya24 =>
        intro wx hSx
        go_simp
        try with_reducible rfl
      try simp only [Act.put, List.setIfInBounds_toArray, List.set_cons_zero, List.set_cons_succ]
      refine wpAnyH_take (i := 25) (oi := ⟨some 57, _, _, _, _, _⟩) (v := ?va25) rfl (by kernel_rfl) (by kernel_rfl) (by kernel_rfl) (fun _ _ _ h => h) (Or.inl ⟨by rfl, ?ya25⟩) hHeld ?ra25
      case ya25 =>
        intro wx hSx
        have e2_2 : World.cell? _ ⟨Lx, 2, none⟩ = some (.string fa.user) := cell_at (hSx.st 2 rfl) 2
        go_simp
        try with_reducible rfl
      try simp only [Act.put, List.setIfInBounds_toArray, List.set_cons_zero, List.set_cons_succ]
      refine wpAnyH_take (i := 26) (oi := ⟨some 58, _, _, _, _, _⟩) (v := ?va26) rfl (by kernel_rfl) (by kernel_rfl) (by kernel_rfl) (fun _ _ _ h => h) (Or.inl ⟨by rfl, ?ya26⟩) hHeld ?ra26
      case ya26 =>
        intro wx hSx
        go_simp
        try with_reducible rfl
      try simp only [Act.put, List.setIfInBounds_toArray, List.set_cons_zero, List.set_cons_succ]
      refine wpAnyH_take (i := 27) (oi := ⟨some 59, _, _, _, _, _⟩) (v := ?va27) rfl (by kernel_rfl) (by kernel_rfl) (by kernel_rfl) (fun _ _ _ h => h) (Or.inl ⟨by rfl, ?ya27⟩) hHeld ?ra27
      case ya27 =>
        intro wx hSx
        go_simp
        try with_reducible rfl
      try simp only [Act.put, List.setIfInBounds_toArray, List.set_cons_zero, List.set_cons_succ]
      refine wpAnyH_take (i := 28) (oi := ⟨some 60, _, _, _, _, _⟩) (v := ?va28) rfl (by kernel_rfl) (by kernel_rfl) (by kernel_rfl) (fun _ _ _ h => h) (Or.inl ⟨by rfl, ?ya28⟩) hHeld ?ra28
      case ya28 =>
        intro wx hSx
        go_simp
        try with_reducible rfl
      try simp only [Act.put, List.setIfInBounds_toArray, List.set_cons_zero, List.set_cons_succ]
      refine wpAnyH_take (i := 29) (oi := ⟨some 61, _, _, _, _, _⟩) (v := ?va29) rfl (by kernel_rfl) (by kernel_rfl) (by kernel_rfl) (fun _ _ _ h => h) (Or.inl ⟨by rfl, ?ya29⟩) hHeld ?ra29
      case ya29 =>
        intro wx hSx
        go_simp
        try with_reducible rfl
      try simp only [Act.put, List.setIfInBounds_toArray, List.set_cons_zero, List.set_cons_succ]
      refine wpAnyH_take (i := 30) (oi := ⟨some 62, _, _, _, _, _⟩) (v := ?va30) rfl (by kernel_rfl) (by kernel_rfl) (by kernel_rfl) (fun _ _ _ h => h) (Or.inl ⟨by rfl, ?ya30⟩) hHeld ?ra30
      case ya30 =>
        intro wx hSx
        obtain ⟨k0, k1, k2, k3, k4⟩ := cells5 (hSx.st 0 rfl)
        go_simp
        try with_reducible rfl
      try simp only [Act.put, List.setIfInBounds_toArray, List.set_cons_zero, List.set_cons_succ]
      refine wpAnyH_take (i := 31) (oi := ⟨some 63, _, _, _, _, _⟩) (v := ?va31) rfl (by kernel_rfl) (by kernel_rfl) (by kernel_rfl) (fun _ _ _ h => h) (Or.inl ⟨by rfl, ?ya31⟩) hHeld ?ra31
      case ya31 =>
        intro wx hSx
        go_simp
        try with_reducible rfl
      try simp only [Act.put, List.setIfInBounds_toArray, List.set_cons_zero, List.set_cons_succ]
      refine wpAnyH_take (i := 32) (oi := ⟨some 64, _, _, _, _, _⟩) (v := ?va32) rfl (by kernel_rfl) (by kernel_rfl) (by kernel_rfl) (fun _ _ _ h => h) (Or.inl ⟨by rfl, ?ya32⟩) hHeld ?ra32
      case ya32 =>
        intro wx hSx
        go_simp
        try with_reducible rfl
      try simp only [Act.put, List.setIfInBounds_toArray, List.set_cons_zero, List.set_cons_succ]
      refine wpAnyH_take (i := 33) (oi := ⟨some 65, _, _, _, _, _⟩) (v := ?va33) rfl (by kernel_rfl) (by kernel_rfl) (by kernel_rfl) (fun _ _ _ h => h) (Or.inl ⟨by rfl, ?ya33⟩) hHeld ?ra33
      case ya33 =>
        intro wx hSx
        go_simp
        try with_reducible rfl
      try simp only [Act.put, List.setIfInBounds_toArray, List.set_cons_zero, List.set_cons_succ]
      refine wpAnyH_take (i := 34) (oi := ⟨some 66, _, _, _, _, _⟩) (v := ?va34) rfl (by kernel_rfl) (by kernel_rfl) (by kernel_rfl) (fun _ _ _ h => h) (Or.inl ⟨by rfl, ?ya34⟩) hHeld ?ra34
      case ya34 =>
        intro wx hSx
        go_simp
        try with_reducible rfl
      try simp only [Act.put, List.setIfInBounds_toArray, List.set_cons_zero, List.set_cons_succ]
      refine wpAnyH_take (i := 35) (oi := ⟨some 67, _, _, _, _, _⟩) (v := ?va35) rfl (by kernel_rfl) (by kernel_rfl) (by kernel_rfl) (fun _ _ _ h => h) (Or.inl ⟨by rfl, ?ya35⟩) hHeld ?ra35
      case ya35 =>
        intro wx hSx
        have e2_4 : World.cell? _ ⟨Lx, 4, none⟩ = some (.string fa.thread) := cell_at (hSx.st 2 rfl) 4
        go_simp
        try with_reducible rfl
      try simp only [Act.put, List.setIfInBounds_toArray, List.set_cons_zero, List.set_cons_succ]
      refine wpAnyH_take (i := 36) (oi := ⟨some 68, _, _, _, _, _⟩) (v := ?va36) rfl (by kernel_rfl) (by kernel_rfl) (by kernel_rfl) (fun _ _ _ h => h) (Or.inl ⟨by rfl, ?ya36⟩) hHeld ?ra36
      case ya36 =>
        intro wx hSx
        go_simp
        try with_reducible rfl
      try simp only [Act.put, List.setIfInBounds_toArray, List.set_cons_zero, List.set_cons_succ]
      refine wpAnyH_take (i := 37) (oi := ⟨some 69, _, _, _, _, _⟩) (v := ?va37) rfl (by kernel_rfl) (by kernel_rfl) (by kernel_rfl) (fun _ _ _ h => h) (Or.inl ⟨by rfl, ?ya37⟩) hHeld ?ra37
      case ya37 =>
        intro wx hSx
        go_simp
        try with_reducible rfl
      try simp only [Act.put, List.setIfInBounds_toArray, List.set_cons_zero, List.set_cons_succ]
      refine wpAnyH_take (i := 38) (oi := ⟨some 70, _, _, _, _, _⟩) (v := ?va38) rfl (by kernel_rfl) (by kernel_rfl) (by kernel_rfl) (fun _ _ _ h => h) (Or.inl ⟨by rfl, ?ya38⟩) hHeld ?ra38
      case ya38 =>
        intro wx hSx
        go_simp
        try with_reducible rfl
      try simp only [Act.put, List.setIfInBounds_toArray, List.set_cons_zero, List.set_cons_succ]
      refine wpAnyH_take (i := 39) (oi := ⟨some 71, _, _, _, _, _⟩) (v := ?va39) rfl (by kernel_rfl) (by kernel_rfl) (by kernel_rfl) (fun _ _ _ h => h) (Or.inl ⟨by rfl, ?ya39⟩) hHeld ?ra39
      case ya39 =>
        intro wx hSx
        go_simp
        try with_reducible rfl
      try simp only [Act.put, List.setIfInBounds_toArray, List.set_cons_zero, List.set_cons_succ]
      refine wpAnyH_take (i := 40) (oi := ⟨some 72, _, _, _, _, _⟩) (v := ?va40) rfl (by kernel_rfl) (by kernel_rfl) (by kernel_rfl) (fun _ _ _ h => h) (Or.inl ⟨by rfl, ?ya40⟩) hHeld ?ra40
      case ya40 =>
        intro wx hSx
        obtain ⟨k0, k1, k2, k3, k4⟩ := cells5 (hSx.st 0 rfl)
        go_simp
        try with_reducible rfl
      try simp only [Act.put, List.setIfInBounds_toArray, List.set_cons_zero, List.set_cons_succ]
      refine wpAnyH_take (i := 41) (oi := ⟨some 73, _, _, _, _, _⟩) (v := ?va41) rfl (by kernel_rfl) (by kernel_rfl) (by kernel_rfl) (fun _ _ _ h => h) (Or.inl ⟨by rfl, ?ya41⟩) hHeld ?ra41
      case ya41 =>
        intro wx hSx
        go_simp
        try with_reducible rfl
      try simp only [Act.put, List.setIfInBounds_toArray, List.set_cons_zero, List.set_cons_succ]
      refine wpAnyH_take (i := 42) (oi := ⟨some 74, _, _, _, _, _⟩) (v := ?va42) rfl (by kernel_rfl) (by kernel_rfl) (by kernel_rfl) (fun _ _ _ h => h) (Or.inl ⟨by rfl, ?ya42⟩) hHeld ?ra42
      case ya42 =>
        intro wx hSx
        go_simp
        try with_reducible rfl
      try simp only [Act.put, List.setIfInBounds_toArray, List.set_cons_zero, List.set_cons_succ]
      refine wpAnyH_take (i := 43) (oi := ⟨some 75, _, _, _, _, _⟩) (v := ?va43) rfl (by kernel_rfl) (by kernel_rfl) (by kernel_rfl) (fun _ _ _ h => h) (Or.inl ⟨by rfl, ?ya43⟩) hHeld ?ra43
      case ya43 =>
        intro wx hSx
        go_simp
        try with_reducible rfl
      try simp only [Act.put, List.setIfInBounds_toArray, List.set_cons_zero, List.set_cons_succ]
      refine wpAnyH_take (i := 44) (oi := ⟨some 76, _, _, _, _, _⟩) (v := ?va44) rfl (by kernel_rfl) (by kernel_rfl) (by kernel_rfl) (fun _ _ _ h => h) (Or.inl ⟨by rfl, ?ya44⟩) hHeld ?ra44
      case ya44 =>
        intro wx hSx
        go_simp
        try with_reducible rfl
      try simp only [Act.put, List.setIfInBounds_toArray, List.set_cons_zero, List.set_cons_succ]
      refine wpAnyH_take (i := 45) (oi := ⟨some 77, _, _, _, _, _⟩) (v := ?va45) rfl (by kernel_rfl) (by kernel_rfl) (by kernel_rfl) (fun _ _ _ h => h) (Or.inl ⟨by rfl, ?ya45⟩) hHeld ?ra45
      case ya45 =>
        intro wx hSx
        have e2_5 : World.cell? _ ⟨Lx, 5, none⟩ = some (.bool fa.priv) := cell_at (hSx.st 2 rfl) 5
        go_simp
        try with_reducible rfl
      try simp only [Act.put, List.setIfInBounds_toArray, List.set_cons_zero, List.set_cons_succ]
      refine wpAnyH_take (i := 46) (oi := ⟨some 78, _, _, _, _, _⟩) (v := ?va46) rfl (by kernel_rfl) (by kernel_rfl) (by kernel_rfl) (fun _ _ _ h => h) (Or.inl ⟨by rfl, ?ya46⟩) hHeld ?ra46
      case ya46 =>
        intro wx hSx
        go_simp
        try with_reducible rfl
      try simp only [Act.put, List.setIfInBounds_toArray, List.set_cons_zero, List.set_cons_succ]
      refine wpAnyH_take (i := 47) (oi := ⟨some 79, _, _, _, _, _⟩) (v := ?va47) rfl (by kernel_rfl) (by kernel_rfl) (by kernel_rfl) (fun _ _ _ h => h) (Or.inl ⟨by rfl, ?ya47⟩) hHeld ?ra47
      case ya47 =>
        intro wx hSx
        go_simp
        try with_reducible rfl
      try simp only [Act.put, List.setIfInBounds_toArray, List.set_cons_zero, List.set_cons_succ]
      refine wpAnyH_take (i := 48) (oi := ⟨some 80, _, _, _, _, _⟩) (v := ?va48) rfl (by kernel_rfl) (by kernel_rfl) (by kernel_rfl) (fun _ _ _ h => h) (Or.inl ⟨by rfl, ?ya48⟩) hHeld ?ra48
      case ya48 =>
        intro wx hSx
        go_simp
        try with_reducible rfl
      try simp only [Act.put, List.setIfInBounds_toArray, List.set_cons_zero, List.set_cons_succ]
      refine wpAnyH_take (i := 49) (oi := ⟨some 81, _, _, _, _, _⟩) (v := ?va49) rfl (by kernel_rfl) (by kernel_rfl) (by kernel_rfl) (fun _ _ _ h => h) (Or.inl ⟨by rfl, ?ya49⟩) hHeld ?ra49
      case ya49 =>
        intro wx hSx
        obtain ⟨k0, k1, k2, k3, k4⟩ := cells5 (hSx.st 0 rfl)
        go_simp
        try with_reducible rfl
      try simp only [Act.put, List.setIfInBounds_toArray, List.set_cons_zero, List.set_cons_succ]
      refine wpAnyH_take (i := 50) (oi := ⟨some 82, _, _, _, _, _⟩) (v := ?va50) rfl (by kernel_rfl) (by kernel_rfl) (by kernel_rfl) (fun _ _ _ h => h) (Or.inl ⟨by rfl, ?ya50⟩) hHeld ?ra50
      case ya50 =>
        intro wx hSx
        go_simp
        try with_reducible rfl
      try simp only [Act.put, List.setIfInBounds_toArray, List.set_cons_zero, List.set_cons_succ]
      refine wpAnyH_take (i := 51) (oi := ⟨some 83, _, _, _, _, _⟩) (v := ?va51) rfl (by kernel_rfl) (by kernel_rfl) (by kernel_rfl) (fun _ _ _ h => h) (Or.inl ⟨by rfl, ?ya51⟩) hHeld ?ra51
      case ya51 =>
        intro wx hSx
        go_simp
        try with_reducible rfl
      try simp only [Act.put, List.setIfInBounds_toArray, List.set_cons_zero, List.set_cons_succ]
      refine wpAnyH_take (i := 52) (oi := ⟨some 84, _, _, _, _, _⟩) (v := ?va52) rfl (by kernel_rfl) (by kernel_rfl) (by kernel_rfl) (fun _ _ _ h => h) (Or.inl ⟨by rfl, ?ya52⟩) hHeld ?ra52
      case ya52 =>
        intro wx hSx
        go_simp
        try with_reducible rfl
      try simp only [Act.put, List.setIfInBounds_toArray, List.set_cons_zero, List.set_cons_succ]
      refine wpAnyH_take (i := 53) (oi := ⟨some 85, _, _, _, _, _⟩) (v := ?va53) rfl (by kernel_rfl) (by kernel_rfl) (by kernel_rfl) (fun _ _ _ h => h) (Or.inl ⟨by rfl, ?ya53⟩) hHeld ?ra53
      case ya53 =>
        intro wx hSx
        have e1_0 : World.cell? _ ⟨Ly, 0, none⟩ = some (.int .i64 fb.kind) := cell_at (hSx.st 1 rfl) 0
        have e1_1 : World.cell? _ ⟨Ly, 1, none⟩ = some (.string fb.room) := cell_at (hSx.st 1 rfl) 1
        have e1_2 : World.cell? _ ⟨Ly, 2, none⟩ = some (.string fb.user) := cell_at (hSx.st 1 rfl) 2
        have e1_3 : World.cell? _ ⟨Ly, 3, none⟩ = some (.string fb.event) := cell_at (hSx.st 1 rfl) 3
        have e1_4 : World.cell? _ ⟨Ly, 4, none⟩ = some (.string fb.thread) := cell_at (hSx.st 1 rfl) 4
        have e1_5 : World.cell? _ ⟨Ly, 5, none⟩ = some (.bool fb.priv) := cell_at (hSx.st 1 rfl) 5
        have e1_6 : World.cell? _ ⟨Ly, 6, none⟩ = some (.bool fb.on) := cell_at (hSx.st 1 rfl) 6
        have e1_7 : World.cell? _ ⟨Ly, 7, none⟩ = some (.int .i64 fb.span) := cell_at (hSx.st 1 rfl) 7
        have e1_8 : World.cell? _ ⟨Ly, 8, none⟩ = some (.int .i64 fb.state) := cell_at (hSx.st 1 rfl) 8
        have e1_9 : World.cell? _ ⟨Ly, 9, none⟩ = some (.int .i64 fb.tick) := cell_at (hSx.st 1 rfl) 9
        have e1_10 : World.cell? _ ⟨Ly, 10, none⟩ = some (.int .i64 fb.stamp) := cell_at (hSx.st 1 rfl) 10
        go_simp
        try with_reducible rfl
      try simp only [Act.put, List.setIfInBounds_toArray, List.set_cons_zero, List.set_cons_succ]
      refine wpAnyH_take (i := 56) (oi := ⟨some 88, _, _, _, _, _⟩) (v := ?va56) rfl (by kernel_rfl) (by kernel_rfl) (by kernel_rfl) (fun _ _ _ h => h) (Or.inl ⟨by rfl, ?ya56⟩) hHeld ?ra56
      case ya56 =>
        intro wx hSx
        go_simp
        try with_reducible rfl
      try simp only [Act.put, List.setIfInBounds_toArray, List.set_cons_zero, List.set_cons_succ]
      refine wpAnyH_take (i := 57) (oi := ⟨some 89, _, _, _, _, _⟩) (v := ?va57) rfl (by kernel_rfl) (by kernel_rfl) (by kernel_rfl) (fun _ _ _ h => h) (Or.inl ⟨by rfl, ?ya57⟩) hHeld ?ra57
      case ya57 =>
        intro wx hSx
        go_simp
        try with_reducible rfl
      try simp only [Act.put, List.setIfInBounds_toArray, List.set_cons_zero, List.set_cons_succ]
      refine wpAnyH_take (i := 58) (oi := ⟨some 90, _, _, _, _, _⟩) (v := ?va58) rfl (by kernel_rfl) (by kernel_rfl) (by kernel_rfl) (fun _ _ _ h => h) (Or.inl ⟨by rfl, ?ya58⟩) hHeld ?ra58
      case ya58 =>
        intro wx hSx
        go_simp
        try with_reducible rfl
      try simp only [Act.put, List.setIfInBounds_toArray, List.set_cons_zero, List.set_cons_succ]
      refine wpAnyH_take (i := 59) (oi := ⟨some 91, _, _, _, _, _⟩) (v := ?va59) rfl (by kernel_rfl) (by kernel_rfl) (by kernel_rfl) (fun _ _ _ h => h) (Or.inl ⟨by rfl, ?ya59⟩) hHeld ?ra59
      case ya59 =>
        intro wx hSx
        have e2_0 : World.cell? _ ⟨Lx, 0, none⟩ = some (.int .i64 fa.kind) := cell_at (hSx.st 2 rfl) 0
        have e2_1 : World.cell? _ ⟨Lx, 1, none⟩ = some (.string fa.room) := cell_at (hSx.st 2 rfl) 1
        have e2_2 : World.cell? _ ⟨Lx, 2, none⟩ = some (.string fa.user) := cell_at (hSx.st 2 rfl) 2
        have e2_3 : World.cell? _ ⟨Lx, 3, none⟩ = some (.string fa.event) := cell_at (hSx.st 2 rfl) 3
        have e2_4 : World.cell? _ ⟨Lx, 4, none⟩ = some (.string fa.thread) := cell_at (hSx.st 2 rfl) 4
        have e2_5 : World.cell? _ ⟨Lx, 5, none⟩ = some (.bool fa.priv) := cell_at (hSx.st 2 rfl) 5
        have e2_6 : World.cell? _ ⟨Lx, 6, none⟩ = some (.bool fa.on) := cell_at (hSx.st 2 rfl) 6
        have e2_7 : World.cell? _ ⟨Lx, 7, none⟩ = some (.int .i64 fa.span) := cell_at (hSx.st 2 rfl) 7
        have e2_8 : World.cell? _ ⟨Lx, 8, none⟩ = some (.int .i64 fa.state) := cell_at (hSx.st 2 rfl) 8
        have e2_9 : World.cell? _ ⟨Lx, 9, none⟩ = some (.int .i64 fa.tick) := cell_at (hSx.st 2 rfl) 9
        have e2_10 : World.cell? _ ⟨Lx, 10, none⟩ = some (.int .i64 fa.stamp) := cell_at (hSx.st 2 rfl) 10
        go_simp
        try with_reducible rfl
      try simp only [Act.put, List.setIfInBounds_toArray, List.set_cons_zero, List.set_cons_succ]
      refine wpAnyH_take (i := 60) (oi := ⟨some 92, _, _, _, _, _⟩) (v := ?va60) rfl (by kernel_rfl) (by kernel_rfl) (by kernel_rfl) (fun _ _ _ h => h) (Or.inl ⟨by rfl, ?ya60⟩) hHeld ?ra60
      case ya60 =>
        intro wx hSx
        go_simp
        try with_reducible rfl
      try simp only [Act.put, List.setIfInBounds_toArray, List.set_cons_zero, List.set_cons_succ]
      refine wpAnyH_take (i := 61) (oi := ⟨some 93, _, _, _, _, _⟩) (v := ?va61) rfl (by kernel_rfl) (by kernel_rfl) (by kernel_rfl) (fun _ _ _ h => h) (Or.inl ⟨by rfl, ?ya61⟩) hHeld ?ra61
      case ya61 =>
        intro wx hSx
        go_simp
        try with_reducible rfl
      try simp only [Act.put, List.setIfInBounds_toArray, List.set_cons_zero, List.set_cons_succ]
      refine wpAnyH_take (i := 62) (oi := ⟨some 94, _, _, _, _, _⟩) (v := ?va62) rfl (by kernel_rfl) (by kernel_rfl) (by kernel_rfl) (fun _ _ _ h => h) (Or.inl ⟨by rfl, ?ya62⟩) hHeld ?ra62
      case ya62 =>
        intro wx hSx
        go_simp
        try with_reducible rfl
      try simp only [Act.put, List.setIfInBounds_toArray, List.set_cons_zero, List.set_cons_succ]
      refine wpAnyH_take (i := 63) (oi := ⟨some 95, _, _, _, _, _⟩) (v := ?va63) rfl (by kernel_rfl) (by kernel_rfl) (by kernel_rfl) (fun _ _ _ h => h) (Or.inl ⟨by rfl, ?ya63⟩) hHeld ?ra63
      case ya63 =>
        intro wx hSx
        have e1_0 : World.cell? _ ⟨Ly, 0, none⟩ = some (.int .i64 fb.kind) := cell_at (hSx.st 1 rfl) 0
        have e1_1 : World.cell? _ ⟨Ly, 1, none⟩ = some (.string fb.room) := cell_at (hSx.st 1 rfl) 1
        have e1_2 : World.cell? _ ⟨Ly, 2, none⟩ = some (.string fb.user) := cell_at (hSx.st 1 rfl) 2
        have e1_3 : World.cell? _ ⟨Ly, 3, none⟩ = some (.string fb.event) := cell_at (hSx.st 1 rfl) 3
        have e1_4 : World.cell? _ ⟨Ly, 4, none⟩ = some (.string fb.thread) := cell_at (hSx.st 1 rfl) 4
        have e1_5 : World.cell? _ ⟨Ly, 5, none⟩ = some (.bool fb.priv) := cell_at (hSx.st 1 rfl) 5
        have e1_6 : World.cell? _ ⟨Ly, 6, none⟩ = some (.bool fb.on) := cell_at (hSx.st 1 rfl) 6
        have e1_7 : World.cell? _ ⟨Ly, 7, none⟩ = some (.int .i64 fb.span) := cell_at (hSx.st 1 rfl) 7
        have e1_8 : World.cell? _ ⟨Ly, 8, none⟩ = some (.int .i64 fb.state) := cell_at (hSx.st 1 rfl) 8
        have e1_9 : World.cell? _ ⟨Ly, 9, none⟩ = some (.int .i64 fb.tick) := cell_at (hSx.st 1 rfl) 9
        have e1_10 : World.cell? _ ⟨Ly, 10, none⟩ = some (.int .i64 fb.stamp) := cell_at (hSx.st 1 rfl) 10
        go_simp
        try with_reducible rfl
      try simp only [Act.put, List.setIfInBounds_toArray, List.set_cons_zero, List.set_cons_succ]
      refine wpAnyH_ready (rs := [54]) (by kernel_rfl) (by simp) ?_
      refine AllReadyH.cons (o := ⟨some 86, _, _, _, _, _⟩) rfl (fun K hK => ?_) AllReadyH.nil
      go_simp
      refine (HOfb.out _).mono ?_
      rintro e wna54 ⟨rfl, hbn⟩
      replace hHeld := hHeld.later hbn
      refine hK.out _ _ hHeld (fun _ => ?_)
      clear hK K hbn
      try simp only [Act.put, List.setIfInBounds_toArray, List.set_cons_zero, List.set_cons_succ]
      refine wpAnyH_take (i := 55) (oi := ⟨some 87, _, _, _, _, _⟩) (v := ?va55) rfl (by kernel_rfl) (by kernel_rfl) (by kernel_rfl) (fun _ _ _ h => h) (Or.inl ⟨by rfl, ?ya55⟩) hHeld ?ra55
      case ya55 =>
        intro wx hSx
        have heq := HEfafb.out
        go_simp
        first | done | rfl
      try simp only [Act.put, List.setIfInBounds_toArray, List.set_cons_zero, List.set_cons_succ]
      refine wpAnyH_ready (rs := [64]) (by kernel_rfl) (by simp) ?_
      refine AllReadyH.cons (o := ⟨some 96, _, _, _, _, _⟩) rfl (fun K hK => ?_) AllReadyH.nil
      go_simp
      refine (HSfafb.out _).mono ?_
      rintro e wna64 ⟨rfl, hbn⟩
      replace hHeld := hHeld.later hbn
      refine hK.out _ _ hHeld (fun _ => ?_)
      clear hK K hbn
      try simp only [Act.put, List.setIfInBounds_toArray, List.set_cons_zero, List.set_cons_succ]
      refine wpAnyH_take (i := 65) (oi := ⟨some 97, _, _, _, _, _⟩) (v := ?va65) rfl (by kernel_rfl) (by kernel_rfl) (by kernel_rfl) (fun _ _ _ h => h) (Or.inl ⟨by rfl, ?ya65⟩) hHeld ?ra65
      case ya65 =>
        intro wx hSx
        go_simp
        try with_reducible rfl
      try simp only [Act.put, List.setIfInBounds_toArray, List.set_cons_zero, List.set_cons_succ]
      refine wpAnyH_take (i := 66) (oi := ⟨some 98, _, _, _, _, _⟩) (v := ?va66) rfl (by kernel_rfl) (by kernel_rfl) (by kernel_rfl) (fun _ _ _ h => h) (Or.inl ⟨by rfl, ?ya66⟩) hHeld ?ra66
      case ya66 =>
        intro wx hSx
        go_simp
        try with_reducible rfl
      try simp only [Act.put, List.setIfInBounds_toArray, List.set_cons_zero, List.set_cons_succ]
      refine wpAnyH_done (by kernel_rfl) ?_ _
      have HK := Lib.hid hHeld
      clear hHeld
      go_wp2_with fail
      go_roundw
      case rel => exact ⟨1, by omega, by go_num, Lib.hid ⟨HK.out.1, fun p hp => HK.out.2.1 p (List.mem_cons_of_mem _ hp), HK.out.2.2⟩⟩
      case measure => simp [intOf]
    · have e1_0 : World.cell? _ ⟨Lx, 11, none⟩ = some (.int .i64 ga.kind) := cell_at (HK.out.st 1 rfl) 11
      have e1_1 : World.cell? _ ⟨Lx, 12, none⟩ = some (.string ga.room) := cell_at (HK.out.st 1 rfl) 12
      have e1_2 : World.cell? _ ⟨Lx, 13, none⟩ = some (.string ga.user) := cell_at (HK.out.st 1 rfl) 13
      have e1_3 : World.cell? _ ⟨Lx, 14, none⟩ = some (.string ga.event) := cell_at (HK.out.st 1 rfl) 14
      have e1_4 : World.cell? _ ⟨Lx, 15, none⟩ = some (.string ga.thread) := cell_at (HK.out.st 1 rfl) 15
      have e1_5 : World.cell? _ ⟨Lx, 16, none⟩ = some (.bool ga.priv) := cell_at (HK.out.st 1 rfl) 16
      have e1_6 : World.cell? _ ⟨Lx, 17, none⟩ = some (.bool ga.on) := cell_at (HK.out.st 1 rfl) 17
      have e1_7 : World.cell? _ ⟨Lx, 18, none⟩ = some (.int .i64 ga.span) := cell_at (HK.out.st 1 rfl) 18
      have e1_8 : World.cell? _ ⟨Lx, 19, none⟩ = some (.int .i64 ga.state) := cell_at (HK.out.st 1 rfl) 19
      have e1_9 : World.cell? _ ⟨Lx, 20, none⟩ = some (.int .i64 ga.tick) := cell_at (HK.out.st 1 rfl) 20
      have e1_10 : World.cell? _ ⟨Lx, 21, none⟩ = some (.int .i64 ga.stamp) := cell_at (HK.out.st 1 rfl) 21
      go_wp2_with fail
      clear e1_0 e1_1 e1_2 e1_3 e1_4 e1_5 e1_6 e1_7 e1_8 e1_9 e1_10
      refine (HOga.out _).mono ?_
      rintro e w1 ⟨rfl, hb⟩
      replace HK := Lib.hid (HK.out.later hb)
      clear hb
      go_upto_region 7 with (fail)
      replace HK := Lib.hid (HK.out.new #[.int .i64 ga.kind, .string ga.room, .string ga.user, .string ga.thread, .bool ga.priv] 41)
      generalize hW : (w1.alloc (.cells #[.int .i64 ga.kind, .string ga.room, .string ga.user, .string ga.thread, .bool ga.priv] 41)) = w2 at HK ⊢
      generalize hg : w1.heap.size = b2 at HK ⊢
      clear hW hg
      refine wp_region_held_drew (S := fun w' => Keep w [(b2, #[.int .i64 ga.kind, .string ga.room, .string ga.user, .string ga.thread, .bool ga.priv], 41), (Ly, #[.int .i64 fb.kind, .string fb.room, .string fb.user, .string fb.event, .string fb.thread, .bool fb.priv, .bool fb.on, .int .i64 fb.span, .int .i64 fb.state, .int .i64 fb.tick, .int .i64 fb.stamp, .int .i64 gb.kind, .string gb.room, .string gb.user, .string gb.event, .string gb.thread, .bool gb.priv, .bool gb.on, .int .i64 gb.span, .int .i64 gb.state, .int .i64 gb.tick, .int .i64 gb.stamp, .int .i64 gb.kind, .string gb.room, .string gb.user, .string gb.event, .string gb.thread, .bool gb.priv, .bool gb.on, .int .i64 gb.span, .int .i64 gb.state, .int .i64 gb.tick, .int .i64 gb.stamp], 23), (Lx, #[.int .i64 fa.kind, .string fa.room, .string fa.user, .string fa.event, .string fa.thread, .bool fa.priv, .bool fa.on, .int .i64 fa.span, .int .i64 fa.state, .int .i64 fa.tick, .int .i64 fa.stamp, .int .i64 ga.kind, .string ga.room, .string ga.user, .string ga.event, .string ga.thread, .bool ga.priv, .bool ga.on, .int .i64 ga.span, .int .i64 ga.state, .int .i64 ga.tick, .int .i64 ga.stamp, .int .i64 fa.kind, .string fa.room, .string fa.user, .string fa.event, .string fa.thread, .bool fa.priv, .bool fa.on, .int .i64 fa.span, .int .i64 fa.state, .int .i64 fa.tick, .int .i64 fa.stamp], 23), (w.heap.size + 1, #[.int .i64 b.kind, .string b.room, .string b.user, .string b.event, .string b.thread, .bool b.priv, .bool b.on, .int .i64 b.span, .int .i64 b.state, .int .i64 b.tick, .int .i64 b.stamp], 23), (w.heap.size, #[.int .i64 a.kind, .string a.room, .string a.user, .string a.event, .string a.thread, .bool a.priv, .bool a.on, .int .i64 a.span, .int .i64 a.state, .int .i64 a.tick, .int .i64 a.stamp], 23)] [] w') (by kernel_rfl) HK.out.drew (fun hHeld => ?_)
      generalize hwd : w2.drew = wd at hHeld ⊢
      clear HK hwd
      refine wpAnyH_take (i := 0) (oi := ⟨some 32, _, _, _, _, _⟩) (v := ?vb0) rfl (by kernel_rfl) (by kernel_rfl) (by kernel_rfl) (fun _ _ _ h => h) (Or.inl ⟨by rfl, ?yb0⟩) hHeld ?rb0
      case yb0 =>
        intro wx hSx
        go_simp
        try with_reducible rfl
      try simp only [Act.put, List.setIfInBounds_toArray, List.set_cons_zero, List.set_cons_succ]
      refine wpAnyH_take (i := 1) (oi := ⟨some 33, _, _, _, _, _⟩) (v := ?vb1) rfl (by kernel_rfl) (by kernel_rfl) (by kernel_rfl) (fun _ _ _ h => h) (Or.inl ⟨by rfl, ?yb1⟩) hHeld ?rb1
      case yb1 =>
        intro wx hSx
        obtain ⟨k0, k1, k2, k3, k4⟩ := cells5 (hSx.st 0 rfl)
        go_simp
        try with_reducible rfl
      try simp only [Act.put, List.setIfInBounds_toArray, List.set_cons_zero, List.set_cons_succ]
      refine wpAnyH_take (i := 2) (oi := ⟨some 34, _, _, _, _, _⟩) (v := ?vb2) rfl (by kernel_rfl) (by kernel_rfl) (by kernel_rfl) (fun _ _ _ h => h) (Or.inl ⟨by rfl, ?yb2⟩) hHeld ?rb2
      case yb2 =>
        intro wx hSx
        go_simp
        try with_reducible rfl
      try simp only [Act.put, List.setIfInBounds_toArray, List.set_cons_zero, List.set_cons_succ]
      refine wpAnyH_take (i := 3) (oi := ⟨some 35, _, _, _, _, _⟩) (v := ?vb3) rfl (by kernel_rfl) (by kernel_rfl) (by kernel_rfl) (fun _ _ _ h => h) (Or.inl ⟨by rfl, ?yb3⟩) hHeld ?rb3
      case yb3 =>
        intro wx hSx
        go_simp
        try with_reducible rfl
      try simp only [Act.put, List.setIfInBounds_toArray, List.set_cons_zero, List.set_cons_succ]
      refine wpAnyH_take (i := 4) (oi := ⟨some 36, _, _, _, _, _⟩) (v := ?vb4) rfl (by kernel_rfl) (by kernel_rfl) (by kernel_rfl) (fun _ _ _ h => h) (Or.inl ⟨by rfl, ?yb4⟩) hHeld ?rb4
      case yb4 =>
        intro wx hSx
        go_simp
        try with_reducible rfl
      try simp only [Act.put, List.setIfInBounds_toArray, List.set_cons_zero, List.set_cons_succ]
      refine wpAnyH_take (i := 5) (oi := ⟨some 37, _, _, _, _, _⟩) (v := ?vb5) rfl (by kernel_rfl) (by kernel_rfl) (by kernel_rfl) (fun _ _ _ h => h) (Or.inl ⟨by rfl, ?yb5⟩) hHeld ?rb5
      case yb5 =>
        intro wx hSx
        go_simp
        try with_reducible rfl
      try simp only [Act.put, List.setIfInBounds_toArray, List.set_cons_zero, List.set_cons_succ]
      refine wpAnyH_take (i := 6) (oi := ⟨some 38, _, _, _, _, _⟩) (v := ?vb6) rfl (by kernel_rfl) (by kernel_rfl) (by kernel_rfl) (fun _ _ _ h => h) (Or.inl ⟨by rfl, ?yb6⟩) hHeld ?rb6
      case yb6 =>
        intro wx hSx
        have e2_0 : World.cell? _ ⟨Lx, 11, none⟩ = some (.int .i64 ga.kind) := cell_at (hSx.st 2 rfl) 11
        go_simp
        try with_reducible rfl
      try simp only [Act.put, List.setIfInBounds_toArray, List.set_cons_zero, List.set_cons_succ]
      refine wpAnyH_take (i := 7) (oi := ⟨some 39, _, _, _, _, _⟩) (v := ?vb7) rfl (by kernel_rfl) (by kernel_rfl) (by kernel_rfl) (fun _ _ _ h => h) (Or.inl ⟨by rfl, ?yb7⟩) hHeld ?rb7
      case yb7 =>
        intro wx hSx
        go_simp
        try with_reducible rfl
      try simp only [Act.put, List.setIfInBounds_toArray, List.set_cons_zero, List.set_cons_succ]
      refine wpAnyH_take (i := 8) (oi := ⟨some 40, _, _, _, _, _⟩) (v := ?vb8) rfl (by kernel_rfl) (by kernel_rfl) (by kernel_rfl) (fun _ _ _ h => h) (Or.inl ⟨by rfl, ?yb8⟩) hHeld ?rb8
      case yb8 =>
        intro wx hSx
        go_simp
        try with_reducible rfl
      try simp only [Act.put, List.setIfInBounds_toArray, List.set_cons_zero, List.set_cons_succ]
      refine wpAnyH_take (i := 9) (oi := ⟨some 41, _, _, _, _, _⟩) (v := ?vb9) rfl (by kernel_rfl) (by kernel_rfl) (by kernel_rfl) (fun _ _ _ h => h) (Or.inl ⟨by rfl, ?yb9⟩) hHeld ?rb9
      case yb9 =>
        intro wx hSx
        go_simp
        try with_reducible rfl
      try simp only [Act.put, List.setIfInBounds_toArray, List.set_cons_zero, List.set_cons_succ]
      refine wpAnyH_take (i := 10) (oi := ⟨some 42, _, _, _, _, _⟩) (v := ?vb10) rfl (by kernel_rfl) (by kernel_rfl) (by kernel_rfl) (fun _ _ _ h => h) (Or.inl ⟨by rfl, ?yb10⟩) hHeld ?rb10
      case yb10 =>
        intro wx hSx
        obtain ⟨k0, k1, k2, k3, k4⟩ := cells5 (hSx.st 0 rfl)
        go_simp
        try with_reducible rfl
      try simp only [Act.put, List.setIfInBounds_toArray, List.set_cons_zero, List.set_cons_succ]
      refine wpAnyH_take (i := 11) (oi := ⟨some 43, _, _, _, _, _⟩) (v := ?vb11) rfl (by kernel_rfl) (by kernel_rfl) (by kernel_rfl) (fun _ _ _ h => h) (Or.inl ⟨by rfl, ?yb11⟩) hHeld ?rb11
      case yb11 =>
        intro wx hSx
        go_simp
        try with_reducible rfl
      try simp only [Act.put, List.setIfInBounds_toArray, List.set_cons_zero, List.set_cons_succ]
      refine wpAnyH_take (i := 12) (oi := ⟨some 44, _, _, _, _, _⟩) (v := ?vb12) rfl (by kernel_rfl) (by kernel_rfl) (by kernel_rfl) (fun _ _ _ h => h) (Or.inl ⟨by rfl, ?yb12⟩) hHeld ?rb12
      case yb12 =>
        intro wx hSx
        go_simp
        try with_reducible rfl
      try simp only [Act.put, List.setIfInBounds_toArray, List.set_cons_zero, List.set_cons_succ]
      refine wpAnyH_take (i := 13) (oi := ⟨some 45, _, _, _, _, _⟩) (v := ?vb13) rfl (by kernel_rfl) (by kernel_rfl) (by kernel_rfl) (fun _ _ _ h => h) (Or.inl ⟨by rfl, ?yb13⟩) hHeld ?rb13
      case yb13 =>
        intro wx hSx
        go_simp
        try with_reducible rfl
      try simp only [Act.put, List.setIfInBounds_toArray, List.set_cons_zero, List.set_cons_succ]
      refine wpAnyH_take (i := 14) (oi := ⟨some 46, _, _, _, _, _⟩) (v := ?vb14) rfl (by kernel_rfl) (by kernel_rfl) (by kernel_rfl) (fun _ _ _ h => h) (Or.inl ⟨by rfl, ?yb14⟩) hHeld ?rb14
      case yb14 =>
        intro wx hSx
        go_simp
        try with_reducible rfl
      try simp only [Act.put, List.setIfInBounds_toArray, List.set_cons_zero, List.set_cons_succ]
      refine wpAnyH_take (i := 15) (oi := ⟨some 47, _, _, _, _, _⟩) (v := ?vb15) rfl (by kernel_rfl) (by kernel_rfl) (by kernel_rfl) (fun _ _ _ h => h) (Or.inl ⟨by rfl, ?yb15⟩) hHeld ?rb15
      case yb15 =>
        intro wx hSx
        have e2_1 : World.cell? _ ⟨Lx, 12, none⟩ = some (.string ga.room) := cell_at (hSx.st 2 rfl) 12
        go_simp
        try with_reducible rfl
      try simp only [Act.put, List.setIfInBounds_toArray, List.set_cons_zero, List.set_cons_succ]
      refine wpAnyH_take (i := 16) (oi := ⟨some 48, _, _, _, _, _⟩) (v := ?vb16) rfl (by kernel_rfl) (by kernel_rfl) (by kernel_rfl) (fun _ _ _ h => h) (Or.inl ⟨by rfl, ?yb16⟩) hHeld ?rb16
      case yb16 =>
        intro wx hSx
        go_simp
        try with_reducible rfl
      try simp only [Act.put, List.setIfInBounds_toArray, List.set_cons_zero, List.set_cons_succ]
      refine wpAnyH_take (i := 17) (oi := ⟨some 49, _, _, _, _, _⟩) (v := ?vb17) rfl (by kernel_rfl) (by kernel_rfl) (by kernel_rfl) (fun _ _ _ h => h) (Or.inl ⟨by rfl, ?yb17⟩) hHeld ?rb17
      case yb17 =>
        intro wx hSx
        go_simp
        try with_reducible rfl
      try simp only [Act.put, List.setIfInBounds_toArray, List.set_cons_zero, List.set_cons_succ]
      refine wpAnyH_take (i := 18) (oi := ⟨some 50, _, _, _, _, _⟩) (v := ?vb18) rfl (by kernel_rfl) (by kernel_rfl) (by kernel_rfl) (fun _ _ _ h => h) (Or.inl ⟨by rfl, ?yb18⟩) hHeld ?rb18
      case yb18 =>
        intro wx hSx
        go_simp
        try with_reducible rfl
      try simp only [Act.put, List.setIfInBounds_toArray, List.set_cons_zero, List.set_cons_succ]
      refine wpAnyH_take (i := 19) (oi := ⟨some 51, _, _, _, _, _⟩) (v := ?vb19) rfl (by kernel_rfl) (by kernel_rfl) (by kernel_rfl) (fun _ _ _ h => h) (Or.inl ⟨by rfl, ?yb19⟩) hHeld ?rb19
      case yb19 =>
        intro wx hSx
        go_simp
        try with_reducible rfl
      try simp only [Act.put, List.setIfInBounds_toArray, List.set_cons_zero, List.set_cons_succ]
      refine wpAnyH_take (i := 20) (oi := ⟨some 52, _, _, _, _, _⟩) (v := ?vb20) rfl (by kernel_rfl) (by kernel_rfl) (by kernel_rfl) (fun _ _ _ h => h) (Or.inl ⟨by rfl, ?yb20⟩) hHeld ?rb20
      case yb20 =>
        intro wx hSx
        obtain ⟨k0, k1, k2, k3, k4⟩ := cells5 (hSx.st 0 rfl)
        go_simp
        try with_reducible rfl
      try simp only [Act.put, List.setIfInBounds_toArray, List.set_cons_zero, List.set_cons_succ]
      refine wpAnyH_take (i := 21) (oi := ⟨some 53, _, _, _, _, _⟩) (v := ?vb21) rfl (by kernel_rfl) (by kernel_rfl) (by kernel_rfl) (fun _ _ _ h => h) (Or.inl ⟨by rfl, ?yb21⟩) hHeld ?rb21
      case yb21 =>
        intro wx hSx
        go_simp
        try with_reducible rfl
      try simp only [Act.put, List.setIfInBounds_toArray, List.set_cons_zero, List.set_cons_succ]
      refine wpAnyH_take (i := 22) (oi := ⟨some 54, _, _, _, _, _⟩) (v := ?vb22) rfl (by kernel_rfl) (by kernel_rfl) (by kernel_rfl) (fun _ _ _ h => h) (Or.inl ⟨by rfl, ?yb22⟩) hHeld ?rb22
      case yb22 =>
        intro wx hSx
        go_simp
        try with_reducible rfl
      try simp only [Act.put, List.setIfInBounds_toArray, List.set_cons_zero, List.set_cons_succ]
      refine wpAnyH_take (i := 23) (oi := ⟨some 55, _, _, _, _, _⟩) (v := ?vb23) rfl (by kernel_rfl) (by kernel_rfl) (by kernel_rfl) (fun _ _ _ h => h) (Or.inl ⟨by rfl, ?yb23⟩) hHeld ?rb23
      case yb23 =>
        intro wx hSx
        go_simp
        try with_reducible rfl
      try simp only [Act.put, List.setIfInBounds_toArray, List.set_cons_zero, List.set_cons_succ]
      refine wpAnyH_take (i := 24) (oi := ⟨some 56, _, _, _, _, _⟩) (v := ?vb24) rfl (by kernel_rfl) (by kernel_rfl) (by kernel_rfl) (fun _ _ _ h => h) (Or.inl ⟨by rfl, ?yb24⟩) hHeld ?rb24
      case yb24 =>
        intro wx hSx
        go_simp
        try with_reducible rfl
      try simp only [Act.put, List.setIfInBounds_toArray, List.set_cons_zero, List.set_cons_succ]
      refine wpAnyH_take (i := 25) (oi := ⟨some 57, _, _, _, _, _⟩) (v := ?vb25) rfl (by kernel_rfl) (by kernel_rfl) (by kernel_rfl) (fun _ _ _ h => h) (Or.inl ⟨by rfl, ?yb25⟩) hHeld ?rb25
      case yb25 =>
        intro wx hSx
        have e2_2 : World.cell? _ ⟨Lx, 13, none⟩ = some (.string ga.user) := cell_at (hSx.st 2 rfl) 13
        go_simp
        try with_reducible rfl
      try simp only [Act.put, List.setIfInBounds_toArray, List.set_cons_zero, List.set_cons_succ]
      refine wpAnyH_take (i := 26) (oi := ⟨some 58, _, _, _, _, _⟩) (v := ?vb26) rfl (by kernel_rfl) (by kernel_rfl) (by kernel_rfl) (fun _ _ _ h => h) (Or.inl ⟨by rfl, ?yb26⟩) hHeld ?rb26
      case yb26 =>
        intro wx hSx
        go_simp
        try with_reducible rfl
      try simp only [Act.put, List.setIfInBounds_toArray, List.set_cons_zero, List.set_cons_succ]
      refine wpAnyH_take (i := 27) (oi := ⟨some 59, _, _, _, _, _⟩) (v := ?vb27) rfl (by kernel_rfl) (by kernel_rfl) (by kernel_rfl) (fun _ _ _ h => h) (Or.inl ⟨by rfl, ?yb27⟩) hHeld ?rb27
      case yb27 =>
        intro wx hSx
        go_simp
        try with_reducible rfl
      try simp only [Act.put, List.setIfInBounds_toArray, List.set_cons_zero, List.set_cons_succ]
      refine wpAnyH_take (i := 28) (oi := ⟨some 60, _, _, _, _, _⟩) (v := ?vb28) rfl (by kernel_rfl) (by kernel_rfl) (by kernel_rfl) (fun _ _ _ h => h) (Or.inl ⟨by rfl, ?yb28⟩) hHeld ?rb28
      case yb28 =>
        intro wx hSx
        go_simp
        try with_reducible rfl
      try simp only [Act.put, List.setIfInBounds_toArray, List.set_cons_zero, List.set_cons_succ]
      refine wpAnyH_take (i := 29) (oi := ⟨some 61, _, _, _, _, _⟩) (v := ?vb29) rfl (by kernel_rfl) (by kernel_rfl) (by kernel_rfl) (fun _ _ _ h => h) (Or.inl ⟨by rfl, ?yb29⟩) hHeld ?rb29
      case yb29 =>
        intro wx hSx
        go_simp
        try with_reducible rfl
      try simp only [Act.put, List.setIfInBounds_toArray, List.set_cons_zero, List.set_cons_succ]
      refine wpAnyH_take (i := 30) (oi := ⟨some 62, _, _, _, _, _⟩) (v := ?vb30) rfl (by kernel_rfl) (by kernel_rfl) (by kernel_rfl) (fun _ _ _ h => h) (Or.inl ⟨by rfl, ?yb30⟩) hHeld ?rb30
      case yb30 =>
        intro wx hSx
        obtain ⟨k0, k1, k2, k3, k4⟩ := cells5 (hSx.st 0 rfl)
        go_simp
        try with_reducible rfl
      try simp only [Act.put, List.setIfInBounds_toArray, List.set_cons_zero, List.set_cons_succ]
      refine wpAnyH_take (i := 31) (oi := ⟨some 63, _, _, _, _, _⟩) (v := ?vb31) rfl (by kernel_rfl) (by kernel_rfl) (by kernel_rfl) (fun _ _ _ h => h) (Or.inl ⟨by rfl, ?yb31⟩) hHeld ?rb31
      case yb31 =>
        intro wx hSx
        go_simp
        try with_reducible rfl
      try simp only [Act.put, List.setIfInBounds_toArray, List.set_cons_zero, List.set_cons_succ]
      refine wpAnyH_take (i := 32) (oi := ⟨some 64, _, _, _, _, _⟩) (v := ?vb32) rfl (by kernel_rfl) (by kernel_rfl) (by kernel_rfl) (fun _ _ _ h => h) (Or.inl ⟨by rfl, ?yb32⟩) hHeld ?rb32
      case yb32 =>
        intro wx hSx
        go_simp
        try with_reducible rfl
      try simp only [Act.put, List.setIfInBounds_toArray, List.set_cons_zero, List.set_cons_succ]
      refine wpAnyH_take (i := 33) (oi := ⟨some 65, _, _, _, _, _⟩) (v := ?vb33) rfl (by kernel_rfl) (by kernel_rfl) (by kernel_rfl) (fun _ _ _ h => h) (Or.inl ⟨by rfl, ?yb33⟩) hHeld ?rb33
      case yb33 =>
        intro wx hSx
        go_simp
        try with_reducible rfl
      try simp only [Act.put, List.setIfInBounds_toArray, List.set_cons_zero, List.set_cons_succ]
      refine wpAnyH_take (i := 34) (oi := ⟨some 66, _, _, _, _, _⟩) (v := ?vb34) rfl (by kernel_rfl) (by kernel_rfl) (by kernel_rfl) (fun _ _ _ h => h) (Or.inl ⟨by rfl, ?yb34⟩) hHeld ?rb34
      case yb34 =>
        intro wx hSx
        go_simp
        try with_reducible rfl
      try simp only [Act.put, List.setIfInBounds_toArray, List.set_cons_zero, List.set_cons_succ]
      refine wpAnyH_take (i := 35) (oi := ⟨some 67, _, _, _, _, _⟩) (v := ?vb35) rfl (by kernel_rfl) (by kernel_rfl) (by kernel_rfl) (fun _ _ _ h => h) (Or.inl ⟨by rfl, ?yb35⟩) hHeld ?rb35
      case yb35 =>
        intro wx hSx
        have e2_4 : World.cell? _ ⟨Lx, 15, none⟩ = some (.string ga.thread) := cell_at (hSx.st 2 rfl) 15
        go_simp
        try with_reducible rfl
      try simp only [Act.put, List.setIfInBounds_toArray, List.set_cons_zero, List.set_cons_succ]
      refine wpAnyH_take (i := 36) (oi := ⟨some 68, _, _, _, _, _⟩) (v := ?vb36) rfl (by kernel_rfl) (by kernel_rfl) (by kernel_rfl) (fun _ _ _ h => h) (Or.inl ⟨by rfl, ?yb36⟩) hHeld ?rb36
      case yb36 =>
        intro wx hSx
        go_simp
        try with_reducible rfl
      try simp only [Act.put, List.setIfInBounds_toArray, List.set_cons_zero, List.set_cons_succ]
      refine wpAnyH_take (i := 37) (oi := ⟨some 69, _, _, _, _, _⟩) (v := ?vb37) rfl (by kernel_rfl) (by kernel_rfl) (by kernel_rfl) (fun _ _ _ h => h) (Or.inl ⟨by rfl, ?yb37⟩) hHeld ?rb37
      case yb37 =>
        intro wx hSx
        go_simp
        try with_reducible rfl
      try simp only [Act.put, List.setIfInBounds_toArray, List.set_cons_zero, List.set_cons_succ]
      refine wpAnyH_take (i := 38) (oi := ⟨some 70, _, _, _, _, _⟩) (v := ?vb38) rfl (by kernel_rfl) (by kernel_rfl) (by kernel_rfl) (fun _ _ _ h => h) (Or.inl ⟨by rfl, ?yb38⟩) hHeld ?rb38
      case yb38 =>
        intro wx hSx
        go_simp
        try with_reducible rfl
      try simp only [Act.put, List.setIfInBounds_toArray, List.set_cons_zero, List.set_cons_succ]
      refine wpAnyH_take (i := 39) (oi := ⟨some 71, _, _, _, _, _⟩) (v := ?vb39) rfl (by kernel_rfl) (by kernel_rfl) (by kernel_rfl) (fun _ _ _ h => h) (Or.inl ⟨by rfl, ?yb39⟩) hHeld ?rb39
      case yb39 =>
        intro wx hSx
        go_simp
        try with_reducible rfl
      try simp only [Act.put, List.setIfInBounds_toArray, List.set_cons_zero, List.set_cons_succ]
      refine wpAnyH_take (i := 40) (oi := ⟨some 72, _, _, _, _, _⟩) (v := ?vb40) rfl (by kernel_rfl) (by kernel_rfl) (by kernel_rfl) (fun _ _ _ h => h) (Or.inl ⟨by rfl, ?yb40⟩) hHeld ?rb40
      case yb40 =>
        intro wx hSx
        obtain ⟨k0, k1, k2, k3, k4⟩ := cells5 (hSx.st 0 rfl)
        go_simp
        try with_reducible rfl
      try simp only [Act.put, List.setIfInBounds_toArray, List.set_cons_zero, List.set_cons_succ]
      refine wpAnyH_take (i := 41) (oi := ⟨some 73, _, _, _, _, _⟩) (v := ?vb41) rfl (by kernel_rfl) (by kernel_rfl) (by kernel_rfl) (fun _ _ _ h => h) (Or.inl ⟨by rfl, ?yb41⟩) hHeld ?rb41
      case yb41 =>
        intro wx hSx
        go_simp
        try with_reducible rfl
      try simp only [Act.put, List.setIfInBounds_toArray, List.set_cons_zero, List.set_cons_succ]
      refine wpAnyH_take (i := 42) (oi := ⟨some 74, _, _, _, _, _⟩) (v := ?vb42) rfl (by kernel_rfl) (by kernel_rfl) (by kernel_rfl) (fun _ _ _ h => h) (Or.inl ⟨by rfl, ?yb42⟩) hHeld ?rb42
      case yb42 =>
        intro wx hSx
        go_simp
        try with_reducible rfl
      try simp only [Act.put, List.setIfInBounds_toArray, List.set_cons_zero, List.set_cons_succ]
      refine wpAnyH_take (i := 43) (oi := ⟨some 75, _, _, _, _, _⟩) (v := ?vb43) rfl (by kernel_rfl) (by kernel_rfl) (by kernel_rfl) (fun _ _ _ h => h) (Or.inl ⟨by rfl, ?yb43⟩) hHeld ?rb43
      case yb43 =>
        intro wx hSx
        go_simp
        try with_reducible rfl
      try simp only [Act.put, List.setIfInBounds_toArray, List.set_cons_zero, List.set_cons_succ]
      refine wpAnyH_take (i := 44) (oi := ⟨some 76, _, _, _, _, _⟩) (v := ?vb44) rfl (by kernel_rfl) (by kernel_rfl) (by kernel_rfl) (fun _ _ _ h => h) (Or.inl ⟨by rfl, ?yb44⟩) hHeld ?rb44
      case yb44 =>
        intro wx hSx
        go_simp
        try with_reducible rfl
      try simp only [Act.put, List.setIfInBounds_toArray, List.set_cons_zero, List.set_cons_succ]
      refine wpAnyH_take (i := 45) (oi := ⟨some 77, _, _, _, _, _⟩) (v := ?vb45) rfl (by kernel_rfl) (by kernel_rfl) (by kernel_rfl) (fun _ _ _ h => h) (Or.inl ⟨by rfl, ?yb45⟩) hHeld ?rb45
      case yb45 =>
        intro wx hSx
        have e2_5 : World.cell? _ ⟨Lx, 16, none⟩ = some (.bool ga.priv) := cell_at (hSx.st 2 rfl) 16
        go_simp
        try with_reducible rfl
      try simp only [Act.put, List.setIfInBounds_toArray, List.set_cons_zero, List.set_cons_succ]
      refine wpAnyH_take (i := 46) (oi := ⟨some 78, _, _, _, _, _⟩) (v := ?vb46) rfl (by kernel_rfl) (by kernel_rfl) (by kernel_rfl) (fun _ _ _ h => h) (Or.inl ⟨by rfl, ?yb46⟩) hHeld ?rb46
      case yb46 =>
        intro wx hSx
        go_simp
        try with_reducible rfl
      try simp only [Act.put, List.setIfInBounds_toArray, List.set_cons_zero, List.set_cons_succ]
      refine wpAnyH_take (i := 47) (oi := ⟨some 79, _, _, _, _, _⟩) (v := ?vb47) rfl (by kernel_rfl) (by kernel_rfl) (by kernel_rfl) (fun _ _ _ h => h) (Or.inl ⟨by rfl, ?yb47⟩) hHeld ?rb47
      case yb47 =>
        intro wx hSx
        go_simp
        try with_reducible rfl
      try simp only [Act.put, List.setIfInBounds_toArray, List.set_cons_zero, List.set_cons_succ]
      refine wpAnyH_take (i := 48) (oi := ⟨some 80, _, _, _, _, _⟩) (v := ?vb48) rfl (by kernel_rfl) (by kernel_rfl) (by kernel_rfl) (fun _ _ _ h => h) (Or.inl ⟨by rfl, ?yb48⟩) hHeld ?rb48
      case yb48 =>
        intro wx hSx
        go_simp
        try with_reducible rfl
      try simp only [Act.put, List.setIfInBounds_toArray, List.set_cons_zero, List.set_cons_succ]
      refine wpAnyH_take (i := 49) (oi := ⟨some 81, _, _, _, _, _⟩) (v := ?vb49) rfl (by kernel_rfl) (by kernel_rfl) (by kernel_rfl) (fun _ _ _ h => h) (Or.inl ⟨by rfl, ?yb49⟩) hHeld ?rb49
      case yb49 =>
        intro wx hSx
        obtain ⟨k0, k1, k2, k3, k4⟩ := cells5 (hSx.st 0 rfl)
        go_simp
        try with_reducible rfl
      try simp only [Act.put, List.setIfInBounds_toArray, List.set_cons_zero, List.set_cons_succ]
      refine wpAnyH_take (i := 50) (oi := ⟨some 82, _, _, _, _, _⟩) (v := ?vb50) rfl (by kernel_rfl) (by kernel_rfl) (by kernel_rfl) (fun _ _ _ h => h) (Or.inl ⟨by rfl, ?yb50⟩) hHeld ?rb50
      case yb50 =>
        intro wx hSx
        go_simp
        try with_reducible rfl
      try simp only [Act.put, List.setIfInBounds_toArray, List.set_cons_zero, List.set_cons_succ]
      refine wpAnyH_take (i := 51) (oi := ⟨some 83, _, _, _, _, _⟩) (v := ?vb51) rfl (by kernel_rfl) (by kernel_rfl) (by kernel_rfl) (fun _ _ _ h => h) (Or.inl ⟨by rfl, ?yb51⟩) hHeld ?rb51
      case yb51 =>
        intro wx hSx
        go_simp
        try with_reducible rfl
      try simp only [Act.put, List.setIfInBounds_toArray, List.set_cons_zero, List.set_cons_succ]
      refine wpAnyH_take (i := 52) (oi := ⟨some 84, _, _, _, _, _⟩) (v := ?vb52) rfl (by kernel_rfl) (by kernel_rfl) (by kernel_rfl) (fun _ _ _ h => h) (Or.inl ⟨by rfl, ?yb52⟩) hHeld ?rb52
      case yb52 =>
        intro wx hSx
        go_simp
        try with_reducible rfl
      try simp only [Act.put, List.setIfInBounds_toArray, List.set_cons_zero, List.set_cons_succ]
      refine wpAnyH_take (i := 53) (oi := ⟨some 85, _, _, _, _, _⟩) (v := ?vb53) rfl (by kernel_rfl) (by kernel_rfl) (by kernel_rfl) (fun _ _ _ h => h) (Or.inl ⟨by rfl, ?yb53⟩) hHeld ?rb53
      case yb53 =>
        intro wx hSx
        have e1_0 : World.cell? _ ⟨Ly, 11, none⟩ = some (.int .i64 gb.kind) := cell_at (hSx.st 1 rfl) 11
        have e1_1 : World.cell? _ ⟨Ly, 12, none⟩ = some (.string gb.room) := cell_at (hSx.st 1 rfl) 12
        have e1_2 : World.cell? _ ⟨Ly, 13, none⟩ = some (.string gb.user) := cell_at (hSx.st 1 rfl) 13
        have e1_3 : World.cell? _ ⟨Ly, 14, none⟩ = some (.string gb.event) := cell_at (hSx.st 1 rfl) 14
        have e1_4 : World.cell? _ ⟨Ly, 15, none⟩ = some (.string gb.thread) := cell_at (hSx.st 1 rfl) 15
        have e1_5 : World.cell? _ ⟨Ly, 16, none⟩ = some (.bool gb.priv) := cell_at (hSx.st 1 rfl) 16
        have e1_6 : World.cell? _ ⟨Ly, 17, none⟩ = some (.bool gb.on) := cell_at (hSx.st 1 rfl) 17
        have e1_7 : World.cell? _ ⟨Ly, 18, none⟩ = some (.int .i64 gb.span) := cell_at (hSx.st 1 rfl) 18
        have e1_8 : World.cell? _ ⟨Ly, 19, none⟩ = some (.int .i64 gb.state) := cell_at (hSx.st 1 rfl) 19
        have e1_9 : World.cell? _ ⟨Ly, 20, none⟩ = some (.int .i64 gb.tick) := cell_at (hSx.st 1 rfl) 20
        have e1_10 : World.cell? _ ⟨Ly, 21, none⟩ = some (.int .i64 gb.stamp) := cell_at (hSx.st 1 rfl) 21
        go_simp
        try with_reducible rfl
      try simp only [Act.put, List.setIfInBounds_toArray, List.set_cons_zero, List.set_cons_succ]
      refine wpAnyH_take (i := 56) (oi := ⟨some 88, _, _, _, _, _⟩) (v := ?vb56) rfl (by kernel_rfl) (by kernel_rfl) (by kernel_rfl) (fun _ _ _ h => h) (Or.inl ⟨by rfl, ?yb56⟩) hHeld ?rb56
      case yb56 =>
        intro wx hSx
        go_simp
        try with_reducible rfl
      try simp only [Act.put, List.setIfInBounds_toArray, List.set_cons_zero, List.set_cons_succ]
      refine wpAnyH_take (i := 57) (oi := ⟨some 89, _, _, _, _, _⟩) (v := ?vb57) rfl (by kernel_rfl) (by kernel_rfl) (by kernel_rfl) (fun _ _ _ h => h) (Or.inl ⟨by rfl, ?yb57⟩) hHeld ?rb57
      case yb57 =>
        intro wx hSx
        go_simp
        try with_reducible rfl
      try simp only [Act.put, List.setIfInBounds_toArray, List.set_cons_zero, List.set_cons_succ]
      refine wpAnyH_take (i := 58) (oi := ⟨some 90, _, _, _, _, _⟩) (v := ?vb58) rfl (by kernel_rfl) (by kernel_rfl) (by kernel_rfl) (fun _ _ _ h => h) (Or.inl ⟨by rfl, ?yb58⟩) hHeld ?rb58
      case yb58 =>
        intro wx hSx
        go_simp
        try with_reducible rfl
      try simp only [Act.put, List.setIfInBounds_toArray, List.set_cons_zero, List.set_cons_succ]
      refine wpAnyH_take (i := 59) (oi := ⟨some 91, _, _, _, _, _⟩) (v := ?vb59) rfl (by kernel_rfl) (by kernel_rfl) (by kernel_rfl) (fun _ _ _ h => h) (Or.inl ⟨by rfl, ?yb59⟩) hHeld ?rb59
      case yb59 =>
        intro wx hSx
        have e2_0 : World.cell? _ ⟨Lx, 11, none⟩ = some (.int .i64 ga.kind) := cell_at (hSx.st 2 rfl) 11
        have e2_1 : World.cell? _ ⟨Lx, 12, none⟩ = some (.string ga.room) := cell_at (hSx.st 2 rfl) 12
        have e2_2 : World.cell? _ ⟨Lx, 13, none⟩ = some (.string ga.user) := cell_at (hSx.st 2 rfl) 13
        have e2_3 : World.cell? _ ⟨Lx, 14, none⟩ = some (.string ga.event) := cell_at (hSx.st 2 rfl) 14
        have e2_4 : World.cell? _ ⟨Lx, 15, none⟩ = some (.string ga.thread) := cell_at (hSx.st 2 rfl) 15
        have e2_5 : World.cell? _ ⟨Lx, 16, none⟩ = some (.bool ga.priv) := cell_at (hSx.st 2 rfl) 16
        have e2_6 : World.cell? _ ⟨Lx, 17, none⟩ = some (.bool ga.on) := cell_at (hSx.st 2 rfl) 17
        have e2_7 : World.cell? _ ⟨Lx, 18, none⟩ = some (.int .i64 ga.span) := cell_at (hSx.st 2 rfl) 18
        have e2_8 : World.cell? _ ⟨Lx, 19, none⟩ = some (.int .i64 ga.state) := cell_at (hSx.st 2 rfl) 19
        have e2_9 : World.cell? _ ⟨Lx, 20, none⟩ = some (.int .i64 ga.tick) := cell_at (hSx.st 2 rfl) 20
        have e2_10 : World.cell? _ ⟨Lx, 21, none⟩ = some (.int .i64 ga.stamp) := cell_at (hSx.st 2 rfl) 21
        go_simp
        try with_reducible rfl
      try simp only [Act.put, List.setIfInBounds_toArray, List.set_cons_zero, List.set_cons_succ]
      refine wpAnyH_take (i := 60) (oi := ⟨some 92, _, _, _, _, _⟩) (v := ?vb60) rfl (by kernel_rfl) (by kernel_rfl) (by kernel_rfl) (fun _ _ _ h => h) (Or.inl ⟨by rfl, ?yb60⟩) hHeld ?rb60
      case yb60 =>
        intro wx hSx
        go_simp
        try with_reducible rfl
      try simp only [Act.put, List.setIfInBounds_toArray, List.set_cons_zero, List.set_cons_succ]
      refine wpAnyH_take (i := 61) (oi := ⟨some 93, _, _, _, _, _⟩) (v := ?vb61) rfl (by kernel_rfl) (by kernel_rfl) (by kernel_rfl) (fun _ _ _ h => h) (Or.inl ⟨by rfl, ?yb61⟩) hHeld ?rb61
      case yb61 =>
        intro wx hSx
        go_simp
        try with_reducible rfl
      try simp only [Act.put, List.setIfInBounds_toArray, List.set_cons_zero, List.set_cons_succ]
      refine wpAnyH_take (i := 62) (oi := ⟨some 94, _, _, _, _, _⟩) (v := ?vb62) rfl (by kernel_rfl) (by kernel_rfl) (by kernel_rfl) (fun _ _ _ h => h) (Or.inl ⟨by rfl, ?yb62⟩) hHeld ?rb62
      case yb62 =>
        intro wx hSx
        go_simp
        try with_reducible rfl
      try simp only [Act.put, List.setIfInBounds_toArray, List.set_cons_zero, List.set_cons_succ]
      refine wpAnyH_take (i := 63) (oi := ⟨some 95, _, _, _, _, _⟩) (v := ?vb63) rfl (by kernel_rfl) (by kernel_rfl) (by kernel_rfl) (fun _ _ _ h => h) (Or.inl ⟨by rfl, ?yb63⟩) hHeld ?rb63
      case yb63 =>
        intro wx hSx
        have e1_0 : World.cell? _ ⟨Ly, 11, none⟩ = some (.int .i64 gb.kind) := cell_at (hSx.st 1 rfl) 11
        have e1_1 : World.cell? _ ⟨Ly, 12, none⟩ = some (.string gb.room) := cell_at (hSx.st 1 rfl) 12
        have e1_2 : World.cell? _ ⟨Ly, 13, none⟩ = some (.string gb.user) := cell_at (hSx.st 1 rfl) 13
        have e1_3 : World.cell? _ ⟨Ly, 14, none⟩ = some (.string gb.event) := cell_at (hSx.st 1 rfl) 14
        have e1_4 : World.cell? _ ⟨Ly, 15, none⟩ = some (.string gb.thread) := cell_at (hSx.st 1 rfl) 15
        have e1_5 : World.cell? _ ⟨Ly, 16, none⟩ = some (.bool gb.priv) := cell_at (hSx.st 1 rfl) 16
        have e1_6 : World.cell? _ ⟨Ly, 17, none⟩ = some (.bool gb.on) := cell_at (hSx.st 1 rfl) 17
        have e1_7 : World.cell? _ ⟨Ly, 18, none⟩ = some (.int .i64 gb.span) := cell_at (hSx.st 1 rfl) 18
        have e1_8 : World.cell? _ ⟨Ly, 19, none⟩ = some (.int .i64 gb.state) := cell_at (hSx.st 1 rfl) 19
        have e1_9 : World.cell? _ ⟨Ly, 20, none⟩ = some (.int .i64 gb.tick) := cell_at (hSx.st 1 rfl) 20
        have e1_10 : World.cell? _ ⟨Ly, 21, none⟩ = some (.int .i64 gb.stamp) := cell_at (hSx.st 1 rfl) 21
        go_simp
        try with_reducible rfl
      try simp only [Act.put, List.setIfInBounds_toArray, List.set_cons_zero, List.set_cons_succ]
      refine wpAnyH_ready (rs := [54]) (by kernel_rfl) (by simp) ?_
      refine AllReadyH.cons (o := ⟨some 86, _, _, _, _, _⟩) rfl (fun K hK => ?_) AllReadyH.nil
      go_simp
      refine (HOgb.out _).mono ?_
      rintro e wnb54 ⟨rfl, hbn⟩
      replace hHeld := hHeld.later hbn
      refine hK.out _ _ hHeld (fun _ => ?_)
      clear hK K hbn
      try simp only [Act.put, List.setIfInBounds_toArray, List.set_cons_zero, List.set_cons_succ]
      refine wpAnyH_take (i := 55) (oi := ⟨some 87, _, _, _, _, _⟩) (v := ?vb55) rfl (by kernel_rfl) (by kernel_rfl) (by kernel_rfl) (fun _ _ _ h => h) (Or.inl ⟨by rfl, ?yb55⟩) hHeld ?rb55
      case yb55 =>
        intro wx hSx
        have heq := HEgagb.out
        go_simp
        first | done | rfl
      try simp only [Act.put, List.setIfInBounds_toArray, List.set_cons_zero, List.set_cons_succ]
      refine wpAnyH_ready (rs := [64]) (by kernel_rfl) (by simp) ?_
      refine AllReadyH.cons (o := ⟨some 96, _, _, _, _, _⟩) rfl (fun K hK => ?_) AllReadyH.nil
      go_simp
      refine (HSgagb.out _).mono ?_
      rintro e wnb64 ⟨rfl, hbn⟩
      replace hHeld := hHeld.later hbn
      refine hK.out _ _ hHeld (fun _ => ?_)
      clear hK K hbn
      try simp only [Act.put, List.setIfInBounds_toArray, List.set_cons_zero, List.set_cons_succ]
      refine wpAnyH_take (i := 65) (oi := ⟨some 97, _, _, _, _, _⟩) (v := ?vb65) rfl (by kernel_rfl) (by kernel_rfl) (by kernel_rfl) (fun _ _ _ h => h) (Or.inl ⟨by rfl, ?yb65⟩) hHeld ?rb65
      case yb65 =>
        intro wx hSx
        go_simp
        try with_reducible rfl
      try simp only [Act.put, List.setIfInBounds_toArray, List.set_cons_zero, List.set_cons_succ]
      refine wpAnyH_take (i := 66) (oi := ⟨some 98, _, _, _, _, _⟩) (v := ?vb66) rfl (by kernel_rfl) (by kernel_rfl) (by kernel_rfl) (fun _ _ _ h => h) (Or.inl ⟨by rfl, ?yb66⟩) hHeld ?rb66
      case yb66 =>
        intro wx hSx
        go_simp
        try with_reducible rfl
      try simp only [Act.put, List.setIfInBounds_toArray, List.set_cons_zero, List.set_cons_succ]
      refine wpAnyH_done (by kernel_rfl) ?_ _
      have HK := Lib.hid hHeld
      clear hHeld
      go_wp2_with fail
      go_roundw
      case rel => exact ⟨2, by omega, by go_num, Lib.hid ⟨HK.out.1, fun p hp => HK.out.2.1 p (List.mem_cons_of_mem _ hp), HK.out.2.2⟩⟩
      case measure => simp [intOf]
    · have e1_0 : World.cell? _ ⟨Lx, 22, none⟩ = some (.int .i64 fa.kind) := cell_at (HK.out.st 1 rfl) 22
      have e1_1 : World.cell? _ ⟨Lx, 23, none⟩ = some (.string fa.room) := cell_at (HK.out.st 1 rfl) 23
      have e1_2 : World.cell? _ ⟨Lx, 24, none⟩ = some (.string fa.user) := cell_at (HK.out.st 1 rfl) 24
      have e1_3 : World.cell? _ ⟨Lx, 25, none⟩ = some (.string fa.event) := cell_at (HK.out.st 1 rfl) 25
      have e1_4 : World.cell? _ ⟨Lx, 26, none⟩ = some (.string fa.thread) := cell_at (HK.out.st 1 rfl) 26
      have e1_5 : World.cell? _ ⟨Lx, 27, none⟩ = some (.bool fa.priv) := cell_at (HK.out.st 1 rfl) 27
      have e1_6 : World.cell? _ ⟨Lx, 28, none⟩ = some (.bool fa.on) := cell_at (HK.out.st 1 rfl) 28
      have e1_7 : World.cell? _ ⟨Lx, 29, none⟩ = some (.int .i64 fa.span) := cell_at (HK.out.st 1 rfl) 29
      have e1_8 : World.cell? _ ⟨Lx, 30, none⟩ = some (.int .i64 fa.state) := cell_at (HK.out.st 1 rfl) 30
      have e1_9 : World.cell? _ ⟨Lx, 31, none⟩ = some (.int .i64 fa.tick) := cell_at (HK.out.st 1 rfl) 31
      have e1_10 : World.cell? _ ⟨Lx, 32, none⟩ = some (.int .i64 fa.stamp) := cell_at (HK.out.st 1 rfl) 32
      go_wp2_with fail
      clear e1_0 e1_1 e1_2 e1_3 e1_4 e1_5 e1_6 e1_7 e1_8 e1_9 e1_10
      refine (HOfa.out _).mono ?_
      rintro e w1 ⟨rfl, hb⟩
      replace HK := Lib.hid (HK.out.later hb)
      clear hb
      go_upto_region 7 with (fail)
      replace HK := Lib.hid (HK.out.new #[.int .i64 fa.kind, .string fa.room, .string fa.user, .string fa.thread, .bool fa.priv] 41)
      generalize hW : (w1.alloc (.cells #[.int .i64 fa.kind, .string fa.room, .string fa.user, .string fa.thread, .bool fa.priv] 41)) = w2 at HK ⊢
      generalize hg : w1.heap.size = b2 at HK ⊢
      clear hW hg
      refine wp_region_held_drew (S := fun w' => Keep w [(b2, #[.int .i64 fa.kind, .string fa.room, .string fa.user, .string fa.thread, .bool fa.priv], 41), (Ly, #[.int .i64 fb.kind, .string fb.room, .string fb.user, .string fb.event, .string fb.thread, .bool fb.priv, .bool fb.on, .int .i64 fb.span, .int .i64 fb.state, .int .i64 fb.tick, .int .i64 fb.stamp, .int .i64 gb.kind, .string gb.room, .string gb.user, .string gb.event, .string gb.thread, .bool gb.priv, .bool gb.on, .int .i64 gb.span, .int .i64 gb.state, .int .i64 gb.tick, .int .i64 gb.stamp, .int .i64 gb.kind, .string gb.room, .string gb.user, .string gb.event, .string gb.thread, .bool gb.priv, .bool gb.on, .int .i64 gb.span, .int .i64 gb.state, .int .i64 gb.tick, .int .i64 gb.stamp], 23), (Lx, #[.int .i64 fa.kind, .string fa.room, .string fa.user, .string fa.event, .string fa.thread, .bool fa.priv, .bool fa.on, .int .i64 fa.span, .int .i64 fa.state, .int .i64 fa.tick, .int .i64 fa.stamp, .int .i64 ga.kind, .string ga.room, .string ga.user, .string ga.event, .string ga.thread, .bool ga.priv, .bool ga.on, .int .i64 ga.span, .int .i64 ga.state, .int .i64 ga.tick, .int .i64 ga.stamp, .int .i64 fa.kind, .string fa.room, .string fa.user, .string fa.event, .string fa.thread, .bool fa.priv, .bool fa.on, .int .i64 fa.span, .int .i64 fa.state, .int .i64 fa.tick, .int .i64 fa.stamp], 23), (w.heap.size + 1, #[.int .i64 b.kind, .string b.room, .string b.user, .string b.event, .string b.thread, .bool b.priv, .bool b.on, .int .i64 b.span, .int .i64 b.state, .int .i64 b.tick, .int .i64 b.stamp], 23), (w.heap.size, #[.int .i64 a.kind, .string a.room, .string a.user, .string a.event, .string a.thread, .bool a.priv, .bool a.on, .int .i64 a.span, .int .i64 a.state, .int .i64 a.tick, .int .i64 a.stamp], 23)] [] w') (by kernel_rfl) HK.out.drew (fun hHeld => ?_)
      generalize hwd : w2.drew = wd at hHeld ⊢
      clear HK hwd
      refine wpAnyH_take (i := 0) (oi := ⟨some 32, _, _, _, _, _⟩) (v := ?vc0) rfl (by kernel_rfl) (by kernel_rfl) (by kernel_rfl) (fun _ _ _ h => h) (Or.inl ⟨by rfl, ?yc0⟩) hHeld ?rc0
      case yc0 =>
        intro wx hSx
        go_simp
        try with_reducible rfl
      try simp only [Act.put, List.setIfInBounds_toArray, List.set_cons_zero, List.set_cons_succ]
      refine wpAnyH_take (i := 1) (oi := ⟨some 33, _, _, _, _, _⟩) (v := ?vc1) rfl (by kernel_rfl) (by kernel_rfl) (by kernel_rfl) (fun _ _ _ h => h) (Or.inl ⟨by rfl, ?yc1⟩) hHeld ?rc1
      case yc1 =>
        intro wx hSx
        obtain ⟨k0, k1, k2, k3, k4⟩ := cells5 (hSx.st 0 rfl)
        go_simp
        try with_reducible rfl
      try simp only [Act.put, List.setIfInBounds_toArray, List.set_cons_zero, List.set_cons_succ]
      refine wpAnyH_take (i := 2) (oi := ⟨some 34, _, _, _, _, _⟩) (v := ?vc2) rfl (by kernel_rfl) (by kernel_rfl) (by kernel_rfl) (fun _ _ _ h => h) (Or.inl ⟨by rfl, ?yc2⟩) hHeld ?rc2
      case yc2 =>
        intro wx hSx
        go_simp
        try with_reducible rfl
      try simp only [Act.put, List.setIfInBounds_toArray, List.set_cons_zero, List.set_cons_succ]
      refine wpAnyH_take (i := 3) (oi := ⟨some 35, _, _, _, _, _⟩) (v := ?vc3) rfl (by kernel_rfl) (by kernel_rfl) (by kernel_rfl) (fun _ _ _ h => h) (Or.inl ⟨by rfl, ?yc3⟩) hHeld ?rc3
      case yc3 =>
        intro wx hSx
        go_simp
        try with_reducible rfl
      try simp only [Act.put, List.setIfInBounds_toArray, List.set_cons_zero, List.set_cons_succ]
      refine wpAnyH_take (i := 4) (oi := ⟨some 36, _, _, _, _, _⟩) (v := ?vc4) rfl (by kernel_rfl) (by kernel_rfl) (by kernel_rfl) (fun _ _ _ h => h) (Or.inl ⟨by rfl, ?yc4⟩) hHeld ?rc4
      case yc4 =>
        intro wx hSx
        go_simp
        try with_reducible rfl
      try simp only [Act.put, List.setIfInBounds_toArray, List.set_cons_zero, List.set_cons_succ]
      refine wpAnyH_take (i := 5) (oi := ⟨some 37, _, _, _, _, _⟩) (v := ?vc5) rfl (by kernel_rfl) (by kernel_rfl) (by kernel_rfl) (fun _ _ _ h => h) (Or.inl ⟨by rfl, ?yc5⟩) hHeld ?rc5
      case yc5 =>
        intro wx hSx
        go_simp
        try with_reducible rfl
      try simp only [Act.put, List.setIfInBounds_toArray, List.set_cons_zero, List.set_cons_succ]
      refine wpAnyH_take (i := 6) (oi := ⟨some 38, _, _, _, _, _⟩) (v := ?vc6) rfl (by kernel_rfl) (by kernel_rfl) (by kernel_rfl) (fun _ _ _ h => h) (Or.inl ⟨by rfl, ?yc6⟩) hHeld ?rc6
      case yc6 =>
        intro wx hSx
        have e2_0 : World.cell? _ ⟨Lx, 22, none⟩ = some (.int .i64 fa.kind) := cell_at (hSx.st 2 rfl) 22
        go_simp
        try with_reducible rfl
      try simp only [Act.put, List.setIfInBounds_toArray, List.set_cons_zero, List.set_cons_succ]
      refine wpAnyH_take (i := 7) (oi := ⟨some 39, _, _, _, _, _⟩) (v := ?vc7) rfl (by kernel_rfl) (by kernel_rfl) (by kernel_rfl) (fun _ _ _ h => h) (Or.inl ⟨by rfl, ?yc7⟩) hHeld ?rc7
      case yc7 =>
        intro wx hSx
        go_simp
        try with_reducible rfl
      try simp only [Act.put, List.setIfInBounds_toArray, List.set_cons_zero, List.set_cons_succ]
      refine wpAnyH_take (i := 8) (oi := ⟨some 40, _, _, _, _, _⟩) (v := ?vc8) rfl (by kernel_rfl) (by kernel_rfl) (by kernel_rfl) (fun _ _ _ h => h) (Or.inl ⟨by rfl, ?yc8⟩) hHeld ?rc8
      case yc8 =>
        intro wx hSx
        go_simp
        try with_reducible rfl
      try simp only [Act.put, List.setIfInBounds_toArray, List.set_cons_zero, List.set_cons_succ]
      refine wpAnyH_take (i := 9) (oi := ⟨some 41, _, _, _, _, _⟩) (v := ?vc9) rfl (by kernel_rfl) (by kernel_rfl) (by kernel_rfl) (fun _ _ _ h => h) (Or.inl ⟨by rfl, ?yc9⟩) hHeld ?rc9
      case yc9 =>
        intro wx hSx
        go_simp
        try with_reducible rfl
      try simp only [Act.put, List.setIfInBounds_toArray, List.set_cons_zero, List.set_cons_succ]
      refine wpAnyH_take (i := 10) (oi := ⟨some 42, _, _, _, _, _⟩) (v := ?vc10) rfl (by kernel_rfl) (by kernel_rfl) (by kernel_rfl) (fun _ _ _ h => h) (Or.inl ⟨by rfl, ?yc10⟩) hHeld ?rc10
      case yc10 =>
        intro wx hSx
        obtain ⟨k0, k1, k2, k3, k4⟩ := cells5 (hSx.st 0 rfl)
        go_simp
        try with_reducible rfl
      try simp only [Act.put, List.setIfInBounds_toArray, List.set_cons_zero, List.set_cons_succ]
      refine wpAnyH_take (i := 11) (oi := ⟨some 43, _, _, _, _, _⟩) (v := ?vc11) rfl (by kernel_rfl) (by kernel_rfl) (by kernel_rfl) (fun _ _ _ h => h) (Or.inl ⟨by rfl, ?yc11⟩) hHeld ?rc11
      case yc11 =>
        intro wx hSx
        go_simp
        try with_reducible rfl
      try simp only [Act.put, List.setIfInBounds_toArray, List.set_cons_zero, List.set_cons_succ]
      refine wpAnyH_take (i := 12) (oi := ⟨some 44, _, _, _, _, _⟩) (v := ?vc12) rfl (by kernel_rfl) (by kernel_rfl) (by kernel_rfl) (fun _ _ _ h => h) (Or.inl ⟨by rfl, ?yc12⟩) hHeld ?rc12
      case yc12 =>
        intro wx hSx
        go_simp
        try with_reducible rfl
      try simp only [Act.put, List.setIfInBounds_toArray, List.set_cons_zero, List.set_cons_succ]
      refine wpAnyH_take (i := 13) (oi := ⟨some 45, _, _, _, _, _⟩) (v := ?vc13) rfl (by kernel_rfl) (by kernel_rfl) (by kernel_rfl) (fun _ _ _ h => h) (Or.inl ⟨by rfl, ?yc13⟩) hHeld ?rc13
      case yc13 =>
        intro wx hSx
        go_simp
        try with_reducible rfl
      try simp only [Act.put, List.setIfInBounds_toArray, List.set_cons_zero, List.set_cons_succ]
      refine wpAnyH_take (i := 14) (oi := ⟨some 46, _, _, _, _, _⟩) (v := ?vc14) rfl (by kernel_rfl) (by kernel_rfl) (by kernel_rfl) (fun _ _ _ h => h) (Or.inl ⟨by rfl, ?yc14⟩) hHeld ?rc14
      case yc14 =>
        intro wx hSx
        go_simp
        try with_reducible rfl
      try simp only [Act.put, List.setIfInBounds_toArray, List.set_cons_zero, List.set_cons_succ]
      refine wpAnyH_take (i := 15) (oi := ⟨some 47, _, _, _, _, _⟩) (v := ?vc15) rfl (by kernel_rfl) (by kernel_rfl) (by kernel_rfl) (fun _ _ _ h => h) (Or.inl ⟨by rfl, ?yc15⟩) hHeld ?rc15
      case yc15 =>
        intro wx hSx
        have e2_1 : World.cell? _ ⟨Lx, 23, none⟩ = some (.string fa.room) := cell_at (hSx.st 2 rfl) 23
        go_simp
        try with_reducible rfl
      try simp only [Act.put, List.setIfInBounds_toArray, List.set_cons_zero, List.set_cons_succ]
      refine wpAnyH_take (i := 16) (oi := ⟨some 48, _, _, _, _, _⟩) (v := ?vc16) rfl (by kernel_rfl) (by kernel_rfl) (by kernel_rfl) (fun _ _ _ h => h) (Or.inl ⟨by rfl, ?yc16⟩) hHeld ?rc16
      case yc16 =>
        intro wx hSx
        go_simp
        try with_reducible rfl
      try simp only [Act.put, List.setIfInBounds_toArray, List.set_cons_zero, List.set_cons_succ]
      refine wpAnyH_take (i := 17) (oi := ⟨some 49, _, _, _, _, _⟩) (v := ?vc17) rfl (by kernel_rfl) (by kernel_rfl) (by kernel_rfl) (fun _ _ _ h => h) (Or.inl ⟨by rfl, ?yc17⟩) hHeld ?rc17
      case yc17 =>
        intro wx hSx
        go_simp
        try with_reducible rfl
      try simp only [Act.put, List.setIfInBounds_toArray, List.set_cons_zero, List.set_cons_succ]
      refine wpAnyH_take (i := 18) (oi := ⟨some 50, _, _, _, _, _⟩) (v := ?vc18) rfl (by kernel_rfl) (by kernel_rfl) (by kernel_rfl) (fun _ _ _ h => h) (Or.inl ⟨by rfl, ?yc18⟩) hHeld ?rc18
      case yc18 =>
        intro wx hSx
        go_simp
        try with_reducible rfl
      try simp only [Act.put, List.setIfInBounds_toArray, List.set_cons_zero, List.set_cons_succ]
      refine wpAnyH_take (i := 19) (oi := ⟨some 51, _, _, _, _, _⟩) (v := ?vc19) rfl (by kernel_rfl) (by kernel_rfl) (by kernel_rfl) (fun _ _ _ h => h) (Or.inl ⟨by rfl, ?yc19⟩) hHeld ?rc19
      case yc19 =>
        intro wx hSx
        go_simp
        try with_reducible rfl
      try simp only [Act.put, List.setIfInBounds_toArray, List.set_cons_zero, List.set_cons_succ]
      refine wpAnyH_take (i := 20) (oi := ⟨some 52, _, _, _, _, _⟩) (v := ?vc20) rfl (by kernel_rfl) (by kernel_rfl) (by kernel_rfl) (fun _ _ _ h => h) (Or.inl ⟨by rfl, ?yc20⟩) hHeld ?rc20
      case yc20 =>
        intro wx hSx
        obtain ⟨k0, k1, k2, k3, k4⟩ := cells5 (hSx.st 0 rfl)
        go_simp
        try with_reducible rfl
      try simp only [Act.put, List.setIfInBounds_toArray, List.set_cons_zero, List.set_cons_succ]
      refine wpAnyH_take (i := 21) (oi := ⟨some 53, _, _, _, _, _⟩) (v := ?vc21) rfl (by kernel_rfl) (by kernel_rfl) (by kernel_rfl) (fun _ _ _ h => h) (Or.inl ⟨by rfl, ?yc21⟩) hHeld ?rc21
      case yc21 =>
        intro wx hSx
        go_simp
        try with_reducible rfl
      try simp only [Act.put, List.setIfInBounds_toArray, List.set_cons_zero, List.set_cons_succ]
      refine wpAnyH_take (i := 22) (oi := ⟨some 54, _, _, _, _, _⟩) (v := ?vc22) rfl (by kernel_rfl) (by kernel_rfl) (by kernel_rfl) (fun _ _ _ h => h) (Or.inl ⟨by rfl, ?yc22⟩) hHeld ?rc22
      case yc22 =>
        intro wx hSx
        go_simp
        try with_reducible rfl
      try simp only [Act.put, List.setIfInBounds_toArray, List.set_cons_zero, List.set_cons_succ]
      refine wpAnyH_take (i := 23) (oi := ⟨some 55, _, _, _, _, _⟩) (v := ?vc23) rfl (by kernel_rfl) (by kernel_rfl) (by kernel_rfl) (fun _ _ _ h => h) (Or.inl ⟨by rfl, ?yc23⟩) hHeld ?rc23
      case yc23 =>
        intro wx hSx
        go_simp
        try with_reducible rfl
      try simp only [Act.put, List.setIfInBounds_toArray, List.set_cons_zero, List.set_cons_succ]
      refine wpAnyH_take (i := 24) (oi := ⟨some 56, _, _, _, _, _⟩) (v := ?vc24) rfl (by kernel_rfl) (by kernel_rfl) (by kernel_rfl) (fun _ _ _ h => h) (Or.inl ⟨by rfl, ?yc24⟩) hHeld ?rc24
      case yc24 =>
        intro wx hSx
        go_simp
        try with_reducible rfl
      try simp only [Act.put, List.setIfInBounds_toArray, List.set_cons_zero, List.set_cons_succ]
      refine wpAnyH_take (i := 25) (oi := ⟨some 57, _, _, _, _, _⟩) (v := ?vc25) rfl (by kernel_rfl) (by kernel_rfl) (by kernel_rfl) (fun _ _ _ h => h) (Or.inl ⟨by rfl, ?yc25⟩) hHeld ?rc25
      case yc25 =>
        intro wx hSx
        have e2_2 : World.cell? _ ⟨Lx, 24, none⟩ = some (.string fa.user) := cell_at (hSx.st 2 rfl) 24
        go_simp
        try with_reducible rfl
      try simp only [Act.put, List.setIfInBounds_toArray, List.set_cons_zero, List.set_cons_succ]
      refine wpAnyH_take (i := 26) (oi := ⟨some 58, _, _, _, _, _⟩) (v := ?vc26) rfl (by kernel_rfl) (by kernel_rfl) (by kernel_rfl) (fun _ _ _ h => h) (Or.inl ⟨by rfl, ?yc26⟩) hHeld ?rc26
      case yc26 =>
        intro wx hSx
        go_simp
        try with_reducible rfl
      try simp only [Act.put, List.setIfInBounds_toArray, List.set_cons_zero, List.set_cons_succ]
      refine wpAnyH_take (i := 27) (oi := ⟨some 59, _, _, _, _, _⟩) (v := ?vc27) rfl (by kernel_rfl) (by kernel_rfl) (by kernel_rfl) (fun _ _ _ h => h) (Or.inl ⟨by rfl, ?yc27⟩) hHeld ?rc27
      case yc27 =>
        intro wx hSx
        go_simp
        try with_reducible rfl
      try simp only [Act.put, List.setIfInBounds_toArray, List.set_cons_zero, List.set_cons_succ]
      refine wpAnyH_take (i := 28) (oi := ⟨some 60, _, _, _, _, _⟩) (v := ?vc28) rfl (by kernel_rfl) (by kernel_rfl) (by kernel_rfl) (fun _ _ _ h => h) (Or.inl ⟨by rfl, ?yc28⟩) hHeld ?rc28
      case yc28 =>
        intro wx hSx
        go_simp
        try with_reducible rfl
      try simp only [Act.put, List.setIfInBounds_toArray, List.set_cons_zero, List.set_cons_succ]
      refine wpAnyH_take (i := 29) (oi := ⟨some 61, _, _, _, _, _⟩) (v := ?vc29) rfl (by kernel_rfl) (by kernel_rfl) (by kernel_rfl) (fun _ _ _ h => h) (Or.inl ⟨by rfl, ?yc29⟩) hHeld ?rc29
      case yc29 =>
        intro wx hSx
        go_simp
        try with_reducible rfl
      try simp only [Act.put, List.setIfInBounds_toArray, List.set_cons_zero, List.set_cons_succ]
      refine wpAnyH_take (i := 30) (oi := ⟨some 62, _, _, _, _, _⟩) (v := ?vc30) rfl (by kernel_rfl) (by kernel_rfl) (by kernel_rfl) (fun _ _ _ h => h) (Or.inl ⟨by rfl, ?yc30⟩) hHeld ?rc30
      case yc30 =>
        intro wx hSx
        obtain ⟨k0, k1, k2, k3, k4⟩ := cells5 (hSx.st 0 rfl)
        go_simp
        try with_reducible rfl
      try simp only [Act.put, List.setIfInBounds_toArray, List.set_cons_zero, List.set_cons_succ]
      refine wpAnyH_take (i := 31) (oi := ⟨some 63, _, _, _, _, _⟩) (v := ?vc31) rfl (by kernel_rfl) (by kernel_rfl) (by kernel_rfl) (fun _ _ _ h => h) (Or.inl ⟨by rfl, ?yc31⟩) hHeld ?rc31
      case yc31 =>
        intro wx hSx
        go_simp
        try with_reducible rfl
      try simp only [Act.put, List.setIfInBounds_toArray, List.set_cons_zero, List.set_cons_succ]
      refine wpAnyH_take (i := 32) (oi := ⟨some 64, _, _, _, _, _⟩) (v := ?vc32) rfl (by kernel_rfl) (by kernel_rfl) (by kernel_rfl) (fun _ _ _ h => h) (Or.inl ⟨by rfl, ?yc32⟩) hHeld ?rc32
      case yc32 =>
        intro wx hSx
        go_simp
        try with_reducible rfl
      try simp only [Act.put, List.setIfInBounds_toArray, List.set_cons_zero, List.set_cons_succ]
      refine wpAnyH_take (i := 33) (oi := ⟨some 65, _, _, _, _, _⟩) (v := ?vc33) rfl (by kernel_rfl) (by kernel_rfl) (by kernel_rfl) (fun _ _ _ h => h) (Or.inl ⟨by rfl, ?yc33⟩) hHeld ?rc33
      case yc33 =>
        intro wx hSx
        go_simp
        try with_reducible rfl
      try simp only [Act.put, List.setIfInBounds_toArray, List.set_cons_zero, List.set_cons_succ]
      refine wpAnyH_take (i := 34) (oi := ⟨some 66, _, _, _, _, _⟩) (v := ?vc34) rfl (by kernel_rfl) (by kernel_rfl) (by kernel_rfl) (fun _ _ _ h => h) (Or.inl ⟨by rfl, ?yc34⟩) hHeld ?rc34
      case yc34 =>
        intro wx hSx
        go_simp
        try with_reducible rfl
      try simp only [Act.put, List.setIfInBounds_toArray, List.set_cons_zero, List.set_cons_succ]
      refine wpAnyH_take (i := 35) (oi := ⟨some 67, _, _, _, _, _⟩) (v := ?vc35) rfl (by kernel_rfl) (by kernel_rfl) (by kernel_rfl) (fun _ _ _ h => h) (Or.inl ⟨by rfl, ?yc35⟩) hHeld ?rc35
      case yc35 =>
        intro wx hSx
        have e2_4 : World.cell? _ ⟨Lx, 26, none⟩ = some (.string fa.thread) := cell_at (hSx.st 2 rfl) 26
        go_simp
        try with_reducible rfl
      try simp only [Act.put, List.setIfInBounds_toArray, List.set_cons_zero, List.set_cons_succ]
      refine wpAnyH_take (i := 36) (oi := ⟨some 68, _, _, _, _, _⟩) (v := ?vc36) rfl (by kernel_rfl) (by kernel_rfl) (by kernel_rfl) (fun _ _ _ h => h) (Or.inl ⟨by rfl, ?yc36⟩) hHeld ?rc36
      case yc36 =>
        intro wx hSx
        go_simp
        try with_reducible rfl
      try simp only [Act.put, List.setIfInBounds_toArray, List.set_cons_zero, List.set_cons_succ]
      refine wpAnyH_take (i := 37) (oi := ⟨some 69, _, _, _, _, _⟩) (v := ?vc37) rfl (by kernel_rfl) (by kernel_rfl) (by kernel_rfl) (fun _ _ _ h => h) (Or.inl ⟨by rfl, ?yc37⟩) hHeld ?rc37
      case yc37 =>
        intro wx hSx
        go_simp
        try with_reducible rfl
      try simp only [Act.put, List.setIfInBounds_toArray, List.set_cons_zero, List.set_cons_succ]
      refine wpAnyH_take (i := 38) (oi := ⟨some 70, _, _, _, _, _⟩) (v := ?vc38) rfl (by kernel_rfl) (by kernel_rfl) (by kernel_rfl) (fun _ _ _ h => h) (Or.inl ⟨by rfl, ?yc38⟩) hHeld ?rc38
      case yc38 =>
        intro wx hSx
        go_simp
        try with_reducible rfl
      try simp only [Act.put, List.setIfInBounds_toArray, List.set_cons_zero, List.set_cons_succ]
      refine wpAnyH_take (i := 39) (oi := ⟨some 71, _, _, _, _, _⟩) (v := ?vc39) rfl (by kernel_rfl) (by kernel_rfl) (by kernel_rfl) (fun _ _ _ h => h) (Or.inl ⟨by rfl, ?yc39⟩) hHeld ?rc39
      case yc39 =>
        intro wx hSx
        go_simp
        try with_reducible rfl
      try simp only [Act.put, List.setIfInBounds_toArray, List.set_cons_zero, List.set_cons_succ]
      refine wpAnyH_take (i := 40) (oi := ⟨some 72, _, _, _, _, _⟩) (v := ?vc40) rfl (by kernel_rfl) (by kernel_rfl) (by kernel_rfl) (fun _ _ _ h => h) (Or.inl ⟨by rfl, ?yc40⟩) hHeld ?rc40
      case yc40 =>
        intro wx hSx
        obtain ⟨k0, k1, k2, k3, k4⟩ := cells5 (hSx.st 0 rfl)
        go_simp
        try with_reducible rfl
      try simp only [Act.put, List.setIfInBounds_toArray, List.set_cons_zero, List.set_cons_succ]
      refine wpAnyH_take (i := 41) (oi := ⟨some 73, _, _, _, _, _⟩) (v := ?vc41) rfl (by kernel_rfl) (by kernel_rfl) (by kernel_rfl) (fun _ _ _ h => h) (Or.inl ⟨by rfl, ?yc41⟩) hHeld ?rc41
      case yc41 =>
        intro wx hSx
        go_simp
        try with_reducible rfl
      try simp only [Act.put, List.setIfInBounds_toArray, List.set_cons_zero, List.set_cons_succ]
      refine wpAnyH_take (i := 42) (oi := ⟨some 74, _, _, _, _, _⟩) (v := ?vc42) rfl (by kernel_rfl) (by kernel_rfl) (by kernel_rfl) (fun _ _ _ h => h) (Or.inl ⟨by rfl, ?yc42⟩) hHeld ?rc42
      case yc42 =>
        intro wx hSx
        go_simp
        try with_reducible rfl
      try simp only [Act.put, List.setIfInBounds_toArray, List.set_cons_zero, List.set_cons_succ]
      refine wpAnyH_take (i := 43) (oi := ⟨some 75, _, _, _, _, _⟩) (v := ?vc43) rfl (by kernel_rfl) (by kernel_rfl) (by kernel_rfl) (fun _ _ _ h => h) (Or.inl ⟨by rfl, ?yc43⟩) hHeld ?rc43
      case yc43 =>
        intro wx hSx
        go_simp
        try with_reducible rfl
      try simp only [Act.put, List.setIfInBounds_toArray, List.set_cons_zero, List.set_cons_succ]
      refine wpAnyH_take (i := 44) (oi := ⟨some 76, _, _, _, _, _⟩) (v := ?vc44) rfl (by kernel_rfl) (by kernel_rfl) (by kernel_rfl) (fun _ _ _ h => h) (Or.inl ⟨by rfl, ?yc44⟩) hHeld ?rc44
      case yc44 =>
        intro wx hSx
        go_simp
        try with_reducible rfl
      try simp only [Act.put, List.setIfInBounds_toArray, List.set_cons_zero, List.set_cons_succ]
      refine wpAnyH_take (i := 45) (oi := ⟨some 77, _, _, _, _, _⟩) (v := ?vc45) rfl (by kernel_rfl) (by kernel_rfl) (by kernel_rfl) (fun _ _ _ h => h) (Or.inl ⟨by rfl, ?yc45⟩) hHeld ?rc45
      case yc45 =>
        intro wx hSx
        have e2_5 : World.cell? _ ⟨Lx, 27, none⟩ = some (.bool fa.priv) := cell_at (hSx.st 2 rfl) 27
        go_simp
        try with_reducible rfl
      try simp only [Act.put, List.setIfInBounds_toArray, List.set_cons_zero, List.set_cons_succ]
      refine wpAnyH_take (i := 46) (oi := ⟨some 78, _, _, _, _, _⟩) (v := ?vc46) rfl (by kernel_rfl) (by kernel_rfl) (by kernel_rfl) (fun _ _ _ h => h) (Or.inl ⟨by rfl, ?yc46⟩) hHeld ?rc46
      case yc46 =>
        intro wx hSx
        go_simp
        try with_reducible rfl
      try simp only [Act.put, List.setIfInBounds_toArray, List.set_cons_zero, List.set_cons_succ]
      refine wpAnyH_take (i := 47) (oi := ⟨some 79, _, _, _, _, _⟩) (v := ?vc47) rfl (by kernel_rfl) (by kernel_rfl) (by kernel_rfl) (fun _ _ _ h => h) (Or.inl ⟨by rfl, ?yc47⟩) hHeld ?rc47
      case yc47 =>
        intro wx hSx
        go_simp
        try with_reducible rfl
      try simp only [Act.put, List.setIfInBounds_toArray, List.set_cons_zero, List.set_cons_succ]
      refine wpAnyH_take (i := 48) (oi := ⟨some 80, _, _, _, _, _⟩) (v := ?vc48) rfl (by kernel_rfl) (by kernel_rfl) (by kernel_rfl) (fun _ _ _ h => h) (Or.inl ⟨by rfl, ?yc48⟩) hHeld ?rc48
      case yc48 =>
        intro wx hSx
        go_simp
        try with_reducible rfl
      try simp only [Act.put, List.setIfInBounds_toArray, List.set_cons_zero, List.set_cons_succ]
      refine wpAnyH_take (i := 49) (oi := ⟨some 81, _, _, _, _, _⟩) (v := ?vc49) rfl (by kernel_rfl) (by kernel_rfl) (by kernel_rfl) (fun _ _ _ h => h) (Or.inl ⟨by rfl, ?yc49⟩) hHeld ?rc49
      case yc49 =>
        intro wx hSx
        obtain ⟨k0, k1, k2, k3, k4⟩ := cells5 (hSx.st 0 rfl)
        go_simp
        try with_reducible rfl
      try simp only [Act.put, List.setIfInBounds_toArray, List.set_cons_zero, List.set_cons_succ]
      refine wpAnyH_take (i := 50) (oi := ⟨some 82, _, _, _, _, _⟩) (v := ?vc50) rfl (by kernel_rfl) (by kernel_rfl) (by kernel_rfl) (fun _ _ _ h => h) (Or.inl ⟨by rfl, ?yc50⟩) hHeld ?rc50
      case yc50 =>
        intro wx hSx
        go_simp
        try with_reducible rfl
      try simp only [Act.put, List.setIfInBounds_toArray, List.set_cons_zero, List.set_cons_succ]
      refine wpAnyH_take (i := 51) (oi := ⟨some 83, _, _, _, _, _⟩) (v := ?vc51) rfl (by kernel_rfl) (by kernel_rfl) (by kernel_rfl) (fun _ _ _ h => h) (Or.inl ⟨by rfl, ?yc51⟩) hHeld ?rc51
      case yc51 =>
        intro wx hSx
        go_simp
        try with_reducible rfl
      try simp only [Act.put, List.setIfInBounds_toArray, List.set_cons_zero, List.set_cons_succ]
      refine wpAnyH_take (i := 52) (oi := ⟨some 84, _, _, _, _, _⟩) (v := ?vc52) rfl (by kernel_rfl) (by kernel_rfl) (by kernel_rfl) (fun _ _ _ h => h) (Or.inl ⟨by rfl, ?yc52⟩) hHeld ?rc52
      case yc52 =>
        intro wx hSx
        go_simp
        try with_reducible rfl
      try simp only [Act.put, List.setIfInBounds_toArray, List.set_cons_zero, List.set_cons_succ]
      refine wpAnyH_take (i := 53) (oi := ⟨some 85, _, _, _, _, _⟩) (v := ?vc53) rfl (by kernel_rfl) (by kernel_rfl) (by kernel_rfl) (fun _ _ _ h => h) (Or.inl ⟨by rfl, ?yc53⟩) hHeld ?rc53
      case yc53 =>
        intro wx hSx
        have e1_0 : World.cell? _ ⟨Ly, 22, none⟩ = some (.int .i64 gb.kind) := cell_at (hSx.st 1 rfl) 22
        have e1_1 : World.cell? _ ⟨Ly, 23, none⟩ = some (.string gb.room) := cell_at (hSx.st 1 rfl) 23
        have e1_2 : World.cell? _ ⟨Ly, 24, none⟩ = some (.string gb.user) := cell_at (hSx.st 1 rfl) 24
        have e1_3 : World.cell? _ ⟨Ly, 25, none⟩ = some (.string gb.event) := cell_at (hSx.st 1 rfl) 25
        have e1_4 : World.cell? _ ⟨Ly, 26, none⟩ = some (.string gb.thread) := cell_at (hSx.st 1 rfl) 26
        have e1_5 : World.cell? _ ⟨Ly, 27, none⟩ = some (.bool gb.priv) := cell_at (hSx.st 1 rfl) 27
        have e1_6 : World.cell? _ ⟨Ly, 28, none⟩ = some (.bool gb.on) := cell_at (hSx.st 1 rfl) 28
        have e1_7 : World.cell? _ ⟨Ly, 29, none⟩ = some (.int .i64 gb.span) := cell_at (hSx.st 1 rfl) 29
        have e1_8 : World.cell? _ ⟨Ly, 30, none⟩ = some (.int .i64 gb.state) := cell_at (hSx.st 1 rfl) 30
        have e1_9 : World.cell? _ ⟨Ly, 31, none⟩ = some (.int .i64 gb.tick) := cell_at (hSx.st 1 rfl) 31
        have e1_10 : World.cell? _ ⟨Ly, 32, none⟩ = some (.int .i64 gb.stamp) := cell_at (hSx.st 1 rfl) 32
        go_simp
        try with_reducible rfl
      try simp only [Act.put, List.setIfInBounds_toArray, List.set_cons_zero, List.set_cons_succ]
      refine wpAnyH_take (i := 56) (oi := ⟨some 88, _, _, _, _, _⟩) (v := ?vc56) rfl (by kernel_rfl) (by kernel_rfl) (by kernel_rfl) (fun _ _ _ h => h) (Or.inl ⟨by rfl, ?yc56⟩) hHeld ?rc56
      case yc56 =>
        intro wx hSx
        go_simp
        try with_reducible rfl
      try simp only [Act.put, List.setIfInBounds_toArray, List.set_cons_zero, List.set_cons_succ]
      refine wpAnyH_take (i := 57) (oi := ⟨some 89, _, _, _, _, _⟩) (v := ?vc57) rfl (by kernel_rfl) (by kernel_rfl) (by kernel_rfl) (fun _ _ _ h => h) (Or.inl ⟨by rfl, ?yc57⟩) hHeld ?rc57
      case yc57 =>
        intro wx hSx
        go_simp
        try with_reducible rfl
      try simp only [Act.put, List.setIfInBounds_toArray, List.set_cons_zero, List.set_cons_succ]
      refine wpAnyH_take (i := 58) (oi := ⟨some 90, _, _, _, _, _⟩) (v := ?vc58) rfl (by kernel_rfl) (by kernel_rfl) (by kernel_rfl) (fun _ _ _ h => h) (Or.inl ⟨by rfl, ?yc58⟩) hHeld ?rc58
      case yc58 =>
        intro wx hSx
        go_simp
        try with_reducible rfl
      try simp only [Act.put, List.setIfInBounds_toArray, List.set_cons_zero, List.set_cons_succ]
      refine wpAnyH_take (i := 59) (oi := ⟨some 91, _, _, _, _, _⟩) (v := ?vc59) rfl (by kernel_rfl) (by kernel_rfl) (by kernel_rfl) (fun _ _ _ h => h) (Or.inl ⟨by rfl, ?yc59⟩) hHeld ?rc59
      case yc59 =>
        intro wx hSx
        have e2_0 : World.cell? _ ⟨Lx, 22, none⟩ = some (.int .i64 fa.kind) := cell_at (hSx.st 2 rfl) 22
        have e2_1 : World.cell? _ ⟨Lx, 23, none⟩ = some (.string fa.room) := cell_at (hSx.st 2 rfl) 23
        have e2_2 : World.cell? _ ⟨Lx, 24, none⟩ = some (.string fa.user) := cell_at (hSx.st 2 rfl) 24
        have e2_3 : World.cell? _ ⟨Lx, 25, none⟩ = some (.string fa.event) := cell_at (hSx.st 2 rfl) 25
        have e2_4 : World.cell? _ ⟨Lx, 26, none⟩ = some (.string fa.thread) := cell_at (hSx.st 2 rfl) 26
        have e2_5 : World.cell? _ ⟨Lx, 27, none⟩ = some (.bool fa.priv) := cell_at (hSx.st 2 rfl) 27
        have e2_6 : World.cell? _ ⟨Lx, 28, none⟩ = some (.bool fa.on) := cell_at (hSx.st 2 rfl) 28
        have e2_7 : World.cell? _ ⟨Lx, 29, none⟩ = some (.int .i64 fa.span) := cell_at (hSx.st 2 rfl) 29
        have e2_8 : World.cell? _ ⟨Lx, 30, none⟩ = some (.int .i64 fa.state) := cell_at (hSx.st 2 rfl) 30
        have e2_9 : World.cell? _ ⟨Lx, 31, none⟩ = some (.int .i64 fa.tick) := cell_at (hSx.st 2 rfl) 31
        have e2_10 : World.cell? _ ⟨Lx, 32, none⟩ = some (.int .i64 fa.stamp) := cell_at (hSx.st 2 rfl) 32
        go_simp
        try with_reducible rfl
      try simp only [Act.put, List.setIfInBounds_toArray, List.set_cons_zero, List.set_cons_succ]
      refine wpAnyH_take (i := 60) (oi := ⟨some 92, _, _, _, _, _⟩) (v := ?vc60) rfl (by kernel_rfl) (by kernel_rfl) (by kernel_rfl) (fun _ _ _ h => h) (Or.inl ⟨by rfl, ?yc60⟩) hHeld ?rc60
      case yc60 =>
        intro wx hSx
        go_simp
        try with_reducible rfl
      try simp only [Act.put, List.setIfInBounds_toArray, List.set_cons_zero, List.set_cons_succ]
      refine wpAnyH_take (i := 61) (oi := ⟨some 93, _, _, _, _, _⟩) (v := ?vc61) rfl (by kernel_rfl) (by kernel_rfl) (by kernel_rfl) (fun _ _ _ h => h) (Or.inl ⟨by rfl, ?yc61⟩) hHeld ?rc61
      case yc61 =>
        intro wx hSx
        go_simp
        try with_reducible rfl
      try simp only [Act.put, List.setIfInBounds_toArray, List.set_cons_zero, List.set_cons_succ]
      refine wpAnyH_take (i := 62) (oi := ⟨some 94, _, _, _, _, _⟩) (v := ?vc62) rfl (by kernel_rfl) (by kernel_rfl) (by kernel_rfl) (fun _ _ _ h => h) (Or.inl ⟨by rfl, ?yc62⟩) hHeld ?rc62
      case yc62 =>
        intro wx hSx
        go_simp
        try with_reducible rfl
      try simp only [Act.put, List.setIfInBounds_toArray, List.set_cons_zero, List.set_cons_succ]
      refine wpAnyH_take (i := 63) (oi := ⟨some 95, _, _, _, _, _⟩) (v := ?vc63) rfl (by kernel_rfl) (by kernel_rfl) (by kernel_rfl) (fun _ _ _ h => h) (Or.inl ⟨by rfl, ?yc63⟩) hHeld ?rc63
      case yc63 =>
        intro wx hSx
        have e1_0 : World.cell? _ ⟨Ly, 22, none⟩ = some (.int .i64 gb.kind) := cell_at (hSx.st 1 rfl) 22
        have e1_1 : World.cell? _ ⟨Ly, 23, none⟩ = some (.string gb.room) := cell_at (hSx.st 1 rfl) 23
        have e1_2 : World.cell? _ ⟨Ly, 24, none⟩ = some (.string gb.user) := cell_at (hSx.st 1 rfl) 24
        have e1_3 : World.cell? _ ⟨Ly, 25, none⟩ = some (.string gb.event) := cell_at (hSx.st 1 rfl) 25
        have e1_4 : World.cell? _ ⟨Ly, 26, none⟩ = some (.string gb.thread) := cell_at (hSx.st 1 rfl) 26
        have e1_5 : World.cell? _ ⟨Ly, 27, none⟩ = some (.bool gb.priv) := cell_at (hSx.st 1 rfl) 27
        have e1_6 : World.cell? _ ⟨Ly, 28, none⟩ = some (.bool gb.on) := cell_at (hSx.st 1 rfl) 28
        have e1_7 : World.cell? _ ⟨Ly, 29, none⟩ = some (.int .i64 gb.span) := cell_at (hSx.st 1 rfl) 29
        have e1_8 : World.cell? _ ⟨Ly, 30, none⟩ = some (.int .i64 gb.state) := cell_at (hSx.st 1 rfl) 30
        have e1_9 : World.cell? _ ⟨Ly, 31, none⟩ = some (.int .i64 gb.tick) := cell_at (hSx.st 1 rfl) 31
        have e1_10 : World.cell? _ ⟨Ly, 32, none⟩ = some (.int .i64 gb.stamp) := cell_at (hSx.st 1 rfl) 32
        go_simp
        try with_reducible rfl
      try simp only [Act.put, List.setIfInBounds_toArray, List.set_cons_zero, List.set_cons_succ]
      refine wpAnyH_ready (rs := [54]) (by kernel_rfl) (by simp) ?_
      refine AllReadyH.cons (o := ⟨some 86, _, _, _, _, _⟩) rfl (fun K hK => ?_) AllReadyH.nil
      go_simp
      refine (HOgb.out _).mono ?_
      rintro e wnc54 ⟨rfl, hbn⟩
      replace hHeld := hHeld.later hbn
      refine hK.out _ _ hHeld (fun _ => ?_)
      clear hK K hbn
      try simp only [Act.put, List.setIfInBounds_toArray, List.set_cons_zero, List.set_cons_succ]
      refine wpAnyH_take (i := 55) (oi := ⟨some 87, _, _, _, _, _⟩) (v := ?vc55) rfl (by kernel_rfl) (by kernel_rfl) (by kernel_rfl) (fun _ _ _ h => h) (Or.inl ⟨by rfl, ?yc55⟩) hHeld ?rc55
      case yc55 =>
        intro wx hSx
        have heq := HEfagb.out
        go_simp
        first | done | rfl
      try simp only [Act.put, List.setIfInBounds_toArray, List.set_cons_zero, List.set_cons_succ]
      refine wpAnyH_ready (rs := [64]) (by kernel_rfl) (by simp) ?_
      refine AllReadyH.cons (o := ⟨some 96, _, _, _, _, _⟩) rfl (fun K hK => ?_) AllReadyH.nil
      go_simp
      refine (HSfagb.out _).mono ?_
      rintro e wnc64 ⟨rfl, hbn⟩
      replace hHeld := hHeld.later hbn
      refine hK.out _ _ hHeld (fun _ => ?_)
      clear hK K hbn
      try simp only [Act.put, List.setIfInBounds_toArray, List.set_cons_zero, List.set_cons_succ]
      refine wpAnyH_take (i := 65) (oi := ⟨some 97, _, _, _, _, _⟩) (v := ?vc65) rfl (by kernel_rfl) (by kernel_rfl) (by kernel_rfl) (fun _ _ _ h => h) (Or.inl ⟨by rfl, ?yc65⟩) hHeld ?rc65
      case yc65 =>
        intro wx hSx
        go_simp
        try with_reducible rfl
      try simp only [Act.put, List.setIfInBounds_toArray, List.set_cons_zero, List.set_cons_succ]
      refine wpAnyH_take (i := 66) (oi := ⟨some 98, _, _, _, _, _⟩) (v := ?vc66) rfl (by kernel_rfl) (by kernel_rfl) (by kernel_rfl) (fun _ _ _ h => h) (Or.inl ⟨by rfl, ?yc66⟩) hHeld ?rc66
      case yc66 =>
        intro wx hSx
        go_simp
        try with_reducible rfl
      try simp only [Act.put, List.setIfInBounds_toArray, List.set_cons_zero, List.set_cons_succ]
      refine wpAnyH_done (by kernel_rfl) ?_ _
      have HK := Lib.hid hHeld
      clear hHeld
      go_wp2_with fail
      go_roundw
      case rel => exact ⟨3, by omega, by go_num, Lib.hid ⟨HK.out.1, fun p hp => HK.out.2.1 p (List.mem_cons_of_mem _ hp), HK.out.2.2⟩⟩
      case measure => simp [intOf]
    · go_wp2_with fail
      refine (lives_any _).mono ?_
      rintro e w1 ⟨rfl, hb⟩
      replace HK := Lib.hid (HK.out.later hb)
      clear hb
      go_wp2_with fail
      go_ret
      exact ⟨rfl, HK.out.1⟩
end Go.Proofs.Ytahgkhcmchbpbaa
