/-
  How keys stand: the walk of the statement.
-/
import Derived.Test.YtmialpaldkpmbaaRcO
namespace Go.Proofs.Ytmialpaldkpmbaa
set_option maxRecDepth 20000
open Go.RowKit Go.Maps Go.ChangeMaps
set_option linter.unusedVariables false
set_option linter.unusedSimpArgs false
theorem range4 {w : World} {b o : Nat} {k : Rk} (h : w.rangeAt b o k.cells) : w.cell? ⟨b, o, none⟩ = some (.string k.room) ∧ w.cell? ⟨b, o + 1, none⟩ = some (.string k.user) ∧ w.cell? ⟨b, o + 2, none⟩ = some (.string k.thread) ∧ w.cell? ⟨b, o + 3, none⟩ = some (.bool k.priv) :=
  ⟨h 0 _ rfl, h 1 _ rfl, h 2 _ rfl, h 3 _ rfl⟩
theorem fieldK (m : Mk) (w : World) : (Instr.field 38 (.agg #[.string m.k.room, .string m.k.user, .string m.k.thread, .bool m.k.priv, .int .i64 m.po.depth, .string m.po.id]) 0).run Try.prog w = .ok (.agg #[.string m.k.room, .string m.k.user, .string m.k.thread, .bool m.k.priv]) w := by kernel_rfl
/-- A key as it is and as it is made, in a new row. -/
theorem keys_lit (w : World) (a b : Rk) (B : Nat) (hB : B = w.heap.size) : LK.Slice (w.alloc (.cells #[.string a.room, .string a.user, .string a.thread, .bool a.priv, .string b.room, .string b.user, .string b.thread, .bool b.priv] 34)) (.slice (some ⟨B, 0, none⟩) 2 2) [a, b] :=
  lit_many (L := LK) w [a, b] B 2 hB rfl (by decide) #[.string a.room, .string a.user, .string a.thread, .bool a.priv, .string b.room, .string b.user, .string b.thread, .bool b.priv] rfl
abbrev twoK (m : Mk) : List Rk := [(goodM m).k, (fewM m).k]
/-- Three rows of keys. -/
structure RwS (w wr : World) (gx gy gz : Nat) (a b c : Mk) : Prop where
  below : Below w.heap.size w wr
  x : LK.Slice wr (.slice (some ⟨gx, 0, none⟩) 2 2) (twoK a)
  y : LK.Slice wr (.slice (some ⟨gy, 0, none⟩) 2 2) (twoK b)
  z : LK.Slice wr (.slice (some ⟨gz, 0, none⟩) 2 2) (twoK c)
theorem RwS.on {w wr w2 : World} {gx gy gz : Nat} {a b c : Mk} (h : RwS w wr gx gy gz a b c) (hb : Below wr.heap.size wr w2) : RwS w w2 gx gy gz a b c :=
  ⟨h.below.trans (hb.mono h.below.size), h.x.below hb, h.y.below hb, h.z.below hb⟩

set_option maxHeartbeats 6400000 in
theorem receiptRow_walk (a b c : Mk) (w : World) (ha : a.fit) (hb : b.fit) (hc : c.fit) :
    Calls Try.prog 8 #[a.val, b.val, c.val] w fun e w' => e = .returned (.bool true) ∧ Below w.heap.size w w' := by
  have HQA := Lib.hid (fun W => refGoodM_any a W ha)
  have HFA := Lib.hid (fun W => refFewM_any a W ha)
  have HQB := Lib.hid (fun W => refGoodM_any b W hb)
  have HFB := Lib.hid (fun W => refFewM_any b W hb)
  have HQC := Lib.hid (fun W => refGoodM_any c W hc)
  have HFC := Lib.hid (fun W => refFewM_any c W hc)
  have HK0 : Hid (Kt w (((w.alloc (.cells #[.string a.k.room, .string a.k.user, .string a.k.thread, .bool a.k.priv, .int .i64 a.po.depth, .string a.po.id] 38)).alloc (.cells #[.string b.k.room, .string b.k.user, .string b.k.thread, .bool b.k.priv, .int .i64 b.po.depth, .string b.po.id] 38)).alloc (.cells #[.string c.k.room, .string c.k.user, .string c.k.thread, .bool c.k.priv, .int .i64 c.po.depth, .string c.po.id] 38)) [] [Th.box (w.heap.size + 2) (.cells #[.string c.k.room, .string c.k.user, .string c.k.thread, .bool c.k.priv, .int .i64 c.po.depth, .string c.po.id] 38 (0, 0)), Th.box (w.heap.size + 1) (.cells #[.string b.k.room, .string b.k.user, .string b.k.thread, .bool b.k.priv, .int .i64 b.po.depth, .string b.po.id] 38 (0, 0)), Th.box w.heap.size (.cells #[.string a.k.room, .string a.k.user, .string a.k.thread, .bool a.k.priv, .int .i64 a.po.depth, .string a.po.id] 38 (0, 0))]) := Lib.hid (by
    have s1 : ∀ (u : World) (o : Obj), (u.alloc o).heap.size = u.heap.size + 1 := fun u o => by simp
    have k1 := (Kt.start w).add (below_new w (.cells #[.string a.k.room, .string a.k.user, .string a.k.thread, .bool a.k.priv, .int .i64 a.po.depth, .string a.po.id] 38)) (t := Th.box w.heap.size (.cells #[.string a.k.room, .string a.k.user, .string a.k.thread, .bool a.k.priv, .int .i64 a.po.depth, .string a.po.id] 38 (0, 0))) (heap_alloc_new w _) (fun k hk => .inl (Nat.le_of_eq hk.symm))
    have k2 := k1.add (below_new _ (.cells #[.string b.k.room, .string b.k.user, .string b.k.thread, .bool b.k.priv, .int .i64 b.po.depth, .string b.po.id] 38)) (t := Th.box (w.heap.size + 1) (.cells #[.string b.k.room, .string b.k.user, .string b.k.thread, .bool b.k.priv, .int .i64 b.po.depth, .string b.po.id] 38 (0, 0))) (by have := heap_alloc_new (w.alloc (.cells #[.string a.k.room, .string a.k.user, .string a.k.thread, .bool a.k.priv, .int .i64 a.po.depth, .string a.po.id] 38)) (.cells #[.string b.k.room, .string b.k.user, .string b.k.thread, .bool b.k.priv, .int .i64 b.po.depth, .string b.po.id] 38); rw [s1] at this; exact this) (fun k hk => .inl (by rw [s1]; exact Nat.le_of_eq hk.symm))
    exact k2.add (below_new _ (.cells #[.string c.k.room, .string c.k.user, .string c.k.thread, .bool c.k.priv, .int .i64 c.po.depth, .string c.po.id] 38)) (t := Th.box (w.heap.size + 2) (.cells #[.string c.k.room, .string c.k.user, .string c.k.thread, .bool c.k.priv, .int .i64 c.po.depth, .string c.po.id] 38 (0, 0))) (by have := heap_alloc_new ((w.alloc (.cells #[.string a.k.room, .string a.k.user, .string a.k.thread, .bool a.k.priv, .int .i64 a.po.depth, .string a.po.id] 38)).alloc (.cells #[.string b.k.room, .string b.k.user, .string b.k.thread, .bool b.k.priv, .int .i64 b.po.depth, .string b.po.id] 38)) (.cells #[.string c.k.room, .string c.k.user, .string c.k.thread, .bool c.k.priv, .int .i64 c.po.depth, .string c.po.id] 38); rw [s1, s1] at this; exact this) (fun k hk => .inl (by rw [s1, s1]; exact Nat.le_of_eq hk.symm)))
  have HLV := Lib.hid (fun W => lives_any W)
  unfold Mk.val at *
  clear ha hb hc
  go_enter Try.func8, Try.ntmps8
  go_upto_region 1 with (fail)
  generalize World.alloc _ _ = w1 at HK0 ⊢
  generalize w.heap.size + 2 = B5 at HK0 ⊢
  generalize w.heap.size + 1 = B4 at HK0 ⊢
  obtain ⟨B3, hB3⟩ : ∃ B, w.heap.size = B := ⟨_, rfl⟩
  rw [hB3] at HK0 ⊢
  rw [← hB3]
  refine wp_region_held_drew (S := fun W => Kt w W [] [Th.box B5 (.cells #[.string c.k.room, .string c.k.user, .string c.k.thread, .bool c.k.priv, .int .i64 c.po.depth, .string c.po.id] 38 (0, 0)), Th.box B4 (.cells #[.string b.k.room, .string b.k.user, .string b.k.thread, .bool b.k.priv, .int .i64 b.po.depth, .string b.po.id] 38 (0, 0)), Th.box B3 (.cells #[.string a.k.room, .string a.k.user, .string a.k.thread, .bool a.k.priv, .int .i64 a.po.depth, .string a.po.id] 38 (0, 0))]) (by kernel_rfl) (HK0.out.later (below_drew _)) (fun hHeld => ?_)
  clear HK0
  generalize World.drew _ = wd at hHeld ⊢
  refine wpAnyH_take (i := 0) (oi := ⟨some 13, _, _, _, _, _⟩) (v := ?vr1_0) rfl (by kernel_rfl) (by kernel_rfl) (by kernel_rfl) (fun _ _ _ h => h) (Or.inl ⟨by rfl, ?yr1_0⟩) hHeld ?rr1_0
  case yr1_0 =>
    intro wx hSx
    have hb := hSx.is (t := Th.box B3 (.cells #[.string a.k.room, .string a.k.user, .string a.k.thread, .bool a.k.priv, .int .i64 a.po.depth, .string a.po.id] 38 (0, 0))) (List.mem_cons_of_mem _ (List.mem_cons_of_mem _ List.mem_cons_self))
    have y0 := cell_at hb 0
    have y1 := cell_at hb 1
    have y2 := cell_at hb 2
    have y3 := cell_at hb 3
    have y4 := cell_at hb 4
    have y5 := cell_at hb 5
    simp only [List.getElem?_toArray, List.getElem?_cons_succ, List.getElem?_cons_zero] at y0 y1 y2 y3 y4 y5
    go_simp
    try with_reducible rfl
  try simp only [Act.put, List.setIfInBounds_toArray, List.set_cons_zero, List.set_cons_succ]
  refine wpAnyH_take (i := 3) (oi := ⟨some 16, _, _, _, _, _⟩) (v := ?vr1_3) rfl (by kernel_rfl) (by kernel_rfl) (by kernel_rfl) (fun _ _ _ h => h) (Or.inl ⟨by rfl, ?yr1_3⟩) hHeld ?rr1_3
  case yr1_3 =>
    intro wx hSx
    have hb := hSx.is (t := Th.box B3 (.cells #[.string a.k.room, .string a.k.user, .string a.k.thread, .bool a.k.priv, .int .i64 a.po.depth, .string a.po.id] 38 (0, 0))) (List.mem_cons_of_mem _ (List.mem_cons_of_mem _ List.mem_cons_self))
    have y0 := cell_at hb 0
    have y1 := cell_at hb 1
    have y2 := cell_at hb 2
    have y3 := cell_at hb 3
    have y4 := cell_at hb 4
    have y5 := cell_at hb 5
    simp only [List.getElem?_toArray, List.getElem?_cons_succ, List.getElem?_cons_zero] at y0 y1 y2 y3 y4 y5
    go_simp
    try with_reducible rfl
  try simp only [Act.put, List.setIfInBounds_toArray, List.set_cons_zero, List.set_cons_succ]
  refine wpAnyH_ready (rs := [1]) (by kernel_rfl) (by simp) ?_
  refine AllReadyH.cons (o := ⟨some 14, _, _, _, _, _⟩) rfl (fun K hK => ?_) AllReadyH.nil
  go_simp
  refine (HQA.out _).mono ?_
  rintro e wg ⟨rfl, hbg⟩
  refine hK.out _ _ (hHeld.later hbg) (fun hHeld => ?_)
  clear hK K hbg
  try simp only [Act.put, List.setIfInBounds_toArray, List.set_cons_zero, List.set_cons_succ]
  refine wpAnyH_take (i := 2) (oi := ⟨some 15, _, _, _, _, _⟩) (v := ?vr1_2) rfl (by kernel_rfl) (by kernel_rfl) (by kernel_rfl) (fun _ _ _ h => h) (Or.inl ⟨by rfl, ?yr1_2⟩) hHeld ?rr1_2
  case yr1_2 =>
    intro wx hSx
    have z := fieldK (goodM a)
    go_simp
    try with_reducible rfl
  try simp only [Act.put, List.setIfInBounds_toArray, List.set_cons_zero, List.set_cons_succ]
  refine wpAnyH_ready (rs := [4]) (by kernel_rfl) (by simp) ?_
  refine AllReadyH.cons (o := ⟨some 17, _, _, _, _, _⟩) rfl (fun K hK => ?_) AllReadyH.nil
  go_simp
  refine (HFA.out _).mono ?_
  rintro e wf ⟨rfl, hbf⟩
  refine hK.out _ _ (hHeld.later hbf) (fun hHeld => ?_)
  clear hK K hbf
  try simp only [Act.put, List.setIfInBounds_toArray, List.set_cons_zero, List.set_cons_succ]
  refine wpAnyH_take (i := 5) (oi := ⟨some 18, _, _, _, _, _⟩) (v := ?vr1_5) rfl (by kernel_rfl) (by kernel_rfl) (by kernel_rfl) (fun _ _ _ h => h) (Or.inl ⟨by rfl, ?yr1_5⟩) hHeld ?rr1_5
  case yr1_5 =>
    intro wx hSx
    have z := fieldK (fewM a)
    go_simp
    try with_reducible rfl
  try simp only [Act.put, List.setIfInBounds_toArray, List.set_cons_zero, List.set_cons_succ]
  refine wpAnyH_ready (rs := [6]) (by kernel_rfl) (by simp) ?_
  refine AllReadyH.cons (o := ⟨some 19, _, _, _, _, _⟩) rfl (fun K hK => ?_) AllReadyH.nil
  have hlit := keys_lit wf (goodM a).k (fewM a).k wf.heap.size rfl
  have hnk := hHeld.add (below_new wf (.cells #[.string (goodM a).k.room, .string (goodM a).k.user, .string (goodM a).k.thread, .bool (goodM a).k.priv, .string (fewM a).k.room, .string (fewM a).k.user, .string (fewM a).k.thread, .bool (fewM a).k.priv] 34)) (t := Th.row LK (.slice (some ⟨wf.heap.size, 0, none⟩) 2 2) (twoK a)) hlit (fun k hk => .inl (by have := hk.2; simp only [Value.ownBlock, Option.some.injEq] at this; exact Nat.le_of_eq this))
  clear hlit
  go_simp
  generalize World.alloc _ _ = wd1 at hnk ⊢
  generalize wf.heap.size = gx at hnk ⊢
  refine hK.out _ _ (hnk.less (fun t ht => List.mem_cons_of_mem _ ht)) (fun hHeld => ?_)
  clear hK K
  try simp only [Act.put, List.setIfInBounds_toArray, List.set_cons_zero, List.set_cons_succ]
  refine wpAnyH_take (i := 7) (oi := ⟨some 7, _, _, _, _, _⟩) (v := ?vr1_7) rfl (by kernel_rfl) (by kernel_rfl) (by kernel_rfl) (fun _ _ _ h => h) (Or.inl ⟨by rfl, ?yr1_7⟩) hHeld ?rr1_7
  case yr1_7 =>
    intro wx hSx
    go_simp
    try with_reducible rfl
  try simp only [Act.put, List.setIfInBounds_toArray, List.set_cons_zero, List.set_cons_succ]
  refine wpAnyH_done (by kernel_rfl) ?_ _
  have HK := hnk
  clear hnk hHeld
  go_upto_region 2 with (fail)
  refine wp_region_held_drew (S := fun W => Kt w W [] [Th.row LK (.slice (some ⟨gx, 0, none⟩) 2 2) (twoK a), Th.box B5 (.cells #[.string c.k.room, .string c.k.user, .string c.k.thread, .bool c.k.priv, .int .i64 c.po.depth, .string c.po.id] 38 (0, 0)), Th.box B4 (.cells #[.string b.k.room, .string b.k.user, .string b.k.thread, .bool b.k.priv, .int .i64 b.po.depth, .string b.po.id] 38 (0, 0)), Th.box B3 (.cells #[.string a.k.room, .string a.k.user, .string a.k.thread, .bool a.k.priv, .int .i64 a.po.depth, .string a.po.id] 38 (0, 0))]) (by kernel_rfl) (HK.later (below_drew _)) (fun hHeld => ?_)
  clear HK
  generalize World.drew _ = wd at hHeld ⊢
  refine wpAnyH_take (i := 0) (oi := ⟨some 20, _, _, _, _, _⟩) (v := ?vr2_0) rfl (by kernel_rfl) (by kernel_rfl) (by kernel_rfl) (fun _ _ _ h => h) (Or.inl ⟨by rfl, ?yr2_0⟩) hHeld ?rr2_0
  case yr2_0 =>
    intro wx hSx
    have hb := hSx.is (t := Th.box B4 (.cells #[.string b.k.room, .string b.k.user, .string b.k.thread, .bool b.k.priv, .int .i64 b.po.depth, .string b.po.id] 38 (0, 0))) (List.mem_cons_of_mem _ (List.mem_cons_of_mem _ List.mem_cons_self))
    have y0 := cell_at hb 0
    have y1 := cell_at hb 1
    have y2 := cell_at hb 2
    have y3 := cell_at hb 3
    have y4 := cell_at hb 4
    have y5 := cell_at hb 5
    simp only [List.getElem?_toArray, List.getElem?_cons_succ, List.getElem?_cons_zero] at y0 y1 y2 y3 y4 y5
    go_simp
    try with_reducible rfl
  try simp only [Act.put, List.setIfInBounds_toArray, List.set_cons_zero, List.set_cons_succ]
  refine wpAnyH_take (i := 3) (oi := ⟨some 23, _, _, _, _, _⟩) (v := ?vr2_3) rfl (by kernel_rfl) (by kernel_rfl) (by kernel_rfl) (fun _ _ _ h => h) (Or.inl ⟨by rfl, ?yr2_3⟩) hHeld ?rr2_3
  case yr2_3 =>
    intro wx hSx
    have hb := hSx.is (t := Th.box B4 (.cells #[.string b.k.room, .string b.k.user, .string b.k.thread, .bool b.k.priv, .int .i64 b.po.depth, .string b.po.id] 38 (0, 0))) (List.mem_cons_of_mem _ (List.mem_cons_of_mem _ List.mem_cons_self))
    have y0 := cell_at hb 0
    have y1 := cell_at hb 1
    have y2 := cell_at hb 2
    have y3 := cell_at hb 3
    have y4 := cell_at hb 4
    have y5 := cell_at hb 5
    simp only [List.getElem?_toArray, List.getElem?_cons_succ, List.getElem?_cons_zero] at y0 y1 y2 y3 y4 y5
    go_simp
    try with_reducible rfl
  try simp only [Act.put, List.setIfInBounds_toArray, List.set_cons_zero, List.set_cons_succ]
  refine wpAnyH_ready (rs := [1]) (by kernel_rfl) (by simp) ?_
  refine AllReadyH.cons (o := ⟨some 21, _, _, _, _, _⟩) rfl (fun K hK => ?_) AllReadyH.nil
  go_simp
  refine (HQB.out _).mono ?_
  rintro e wg ⟨rfl, hbg⟩
  refine hK.out _ _ (hHeld.later hbg) (fun hHeld => ?_)
  clear hK K hbg
  try simp only [Act.put, List.setIfInBounds_toArray, List.set_cons_zero, List.set_cons_succ]
  refine wpAnyH_take (i := 2) (oi := ⟨some 22, _, _, _, _, _⟩) (v := ?vr2_2) rfl (by kernel_rfl) (by kernel_rfl) (by kernel_rfl) (fun _ _ _ h => h) (Or.inl ⟨by rfl, ?yr2_2⟩) hHeld ?rr2_2
  case yr2_2 =>
    intro wx hSx
    have z := fieldK (goodM b)
    go_simp
    try with_reducible rfl
  try simp only [Act.put, List.setIfInBounds_toArray, List.set_cons_zero, List.set_cons_succ]
  refine wpAnyH_ready (rs := [4]) (by kernel_rfl) (by simp) ?_
  refine AllReadyH.cons (o := ⟨some 24, _, _, _, _, _⟩) rfl (fun K hK => ?_) AllReadyH.nil
  go_simp
  refine (HFB.out _).mono ?_
  rintro e wf ⟨rfl, hbf⟩
  refine hK.out _ _ (hHeld.later hbf) (fun hHeld => ?_)
  clear hK K hbf
  try simp only [Act.put, List.setIfInBounds_toArray, List.set_cons_zero, List.set_cons_succ]
  refine wpAnyH_take (i := 5) (oi := ⟨some 25, _, _, _, _, _⟩) (v := ?vr2_5) rfl (by kernel_rfl) (by kernel_rfl) (by kernel_rfl) (fun _ _ _ h => h) (Or.inl ⟨by rfl, ?yr2_5⟩) hHeld ?rr2_5
  case yr2_5 =>
    intro wx hSx
    have z := fieldK (fewM b)
    go_simp
    try with_reducible rfl
  try simp only [Act.put, List.setIfInBounds_toArray, List.set_cons_zero, List.set_cons_succ]
  refine wpAnyH_ready (rs := [6]) (by kernel_rfl) (by simp) ?_
  refine AllReadyH.cons (o := ⟨some 26, _, _, _, _, _⟩) rfl (fun K hK => ?_) AllReadyH.nil
  have hlit := keys_lit wf (goodM b).k (fewM b).k wf.heap.size rfl
  have hnk := hHeld.add (below_new wf (.cells #[.string (goodM b).k.room, .string (goodM b).k.user, .string (goodM b).k.thread, .bool (goodM b).k.priv, .string (fewM b).k.room, .string (fewM b).k.user, .string (fewM b).k.thread, .bool (fewM b).k.priv] 34)) (t := Th.row LK (.slice (some ⟨wf.heap.size, 0, none⟩) 2 2) (twoK b)) hlit (fun k hk => .inl (by have := hk.2; simp only [Value.ownBlock, Option.some.injEq] at this; exact Nat.le_of_eq this))
  clear hlit
  go_simp
  generalize World.alloc _ _ = wd2 at hnk ⊢
  generalize wf.heap.size = gy at hnk ⊢
  refine hK.out _ _ (hnk.less (fun t ht => List.mem_cons_of_mem _ ht)) (fun hHeld => ?_)
  clear hK K
  try simp only [Act.put, List.setIfInBounds_toArray, List.set_cons_zero, List.set_cons_succ]
  refine wpAnyH_take (i := 7) (oi := ⟨some 8, _, _, _, _, _⟩) (v := ?vr2_7) rfl (by kernel_rfl) (by kernel_rfl) (by kernel_rfl) (fun _ _ _ h => h) (Or.inl ⟨by rfl, ?yr2_7⟩) hHeld ?rr2_7
  case yr2_7 =>
    intro wx hSx
    go_simp
    try with_reducible rfl
  try simp only [Act.put, List.setIfInBounds_toArray, List.set_cons_zero, List.set_cons_succ]
  refine wpAnyH_done (by kernel_rfl) ?_ _
  have HK := hnk
  clear hnk hHeld
  go_upto_region 3 with (fail)
  refine wp_region_held_drew (S := fun W => Kt w W [] [Th.row LK (.slice (some ⟨gy, 0, none⟩) 2 2) (twoK b), Th.row LK (.slice (some ⟨gx, 0, none⟩) 2 2) (twoK a), Th.box B5 (.cells #[.string c.k.room, .string c.k.user, .string c.k.thread, .bool c.k.priv, .int .i64 c.po.depth, .string c.po.id] 38 (0, 0)), Th.box B4 (.cells #[.string b.k.room, .string b.k.user, .string b.k.thread, .bool b.k.priv, .int .i64 b.po.depth, .string b.po.id] 38 (0, 0)), Th.box B3 (.cells #[.string a.k.room, .string a.k.user, .string a.k.thread, .bool a.k.priv, .int .i64 a.po.depth, .string a.po.id] 38 (0, 0))]) (by kernel_rfl) (HK.later (below_drew _)) (fun hHeld => ?_)
  clear HK
  generalize World.drew _ = wd at hHeld ⊢
  refine wpAnyH_take (i := 0) (oi := ⟨some 27, _, _, _, _, _⟩) (v := ?vr3_0) rfl (by kernel_rfl) (by kernel_rfl) (by kernel_rfl) (fun _ _ _ h => h) (Or.inl ⟨by rfl, ?yr3_0⟩) hHeld ?rr3_0
  case yr3_0 =>
    intro wx hSx
    have hb := hSx.is (t := Th.box B5 (.cells #[.string c.k.room, .string c.k.user, .string c.k.thread, .bool c.k.priv, .int .i64 c.po.depth, .string c.po.id] 38 (0, 0))) (List.mem_cons_of_mem _ (List.mem_cons_of_mem _ List.mem_cons_self))
    have y0 := cell_at hb 0
    have y1 := cell_at hb 1
    have y2 := cell_at hb 2
    have y3 := cell_at hb 3
    have y4 := cell_at hb 4
    have y5 := cell_at hb 5
    simp only [List.getElem?_toArray, List.getElem?_cons_succ, List.getElem?_cons_zero] at y0 y1 y2 y3 y4 y5
    go_simp
    try with_reducible rfl
  try simp only [Act.put, List.setIfInBounds_toArray, List.set_cons_zero, List.set_cons_succ]
  refine wpAnyH_take (i := 3) (oi := ⟨some 30, _, _, _, _, _⟩) (v := ?vr3_3) rfl (by kernel_rfl) (by kernel_rfl) (by kernel_rfl) (fun _ _ _ h => h) (Or.inl ⟨by rfl, ?yr3_3⟩) hHeld ?rr3_3
  case yr3_3 =>
    intro wx hSx
    have hb := hSx.is (t := Th.box B5 (.cells #[.string c.k.room, .string c.k.user, .string c.k.thread, .bool c.k.priv, .int .i64 c.po.depth, .string c.po.id] 38 (0, 0))) (List.mem_cons_of_mem _ (List.mem_cons_of_mem _ List.mem_cons_self))
    have y0 := cell_at hb 0
    have y1 := cell_at hb 1
    have y2 := cell_at hb 2
    have y3 := cell_at hb 3
    have y4 := cell_at hb 4
    have y5 := cell_at hb 5
    simp only [List.getElem?_toArray, List.getElem?_cons_succ, List.getElem?_cons_zero] at y0 y1 y2 y3 y4 y5
    go_simp
    try with_reducible rfl
  try simp only [Act.put, List.setIfInBounds_toArray, List.set_cons_zero, List.set_cons_succ]
  refine wpAnyH_ready (rs := [1]) (by kernel_rfl) (by simp) ?_
  refine AllReadyH.cons (o := ⟨some 28, _, _, _, _, _⟩) rfl (fun K hK => ?_) AllReadyH.nil
  go_simp
  refine (HQC.out _).mono ?_
  rintro e wg ⟨rfl, hbg⟩
  refine hK.out _ _ (hHeld.later hbg) (fun hHeld => ?_)
  clear hK K hbg
  try simp only [Act.put, List.setIfInBounds_toArray, List.set_cons_zero, List.set_cons_succ]
  refine wpAnyH_take (i := 2) (oi := ⟨some 29, _, _, _, _, _⟩) (v := ?vr3_2) rfl (by kernel_rfl) (by kernel_rfl) (by kernel_rfl) (fun _ _ _ h => h) (Or.inl ⟨by rfl, ?yr3_2⟩) hHeld ?rr3_2
  case yr3_2 =>
    intro wx hSx
    have z := fieldK (goodM c)
    go_simp
    try with_reducible rfl
  try simp only [Act.put, List.setIfInBounds_toArray, List.set_cons_zero, List.set_cons_succ]
  refine wpAnyH_ready (rs := [4]) (by kernel_rfl) (by simp) ?_
  refine AllReadyH.cons (o := ⟨some 31, _, _, _, _, _⟩) rfl (fun K hK => ?_) AllReadyH.nil
  go_simp
  refine (HFC.out _).mono ?_
  rintro e wf ⟨rfl, hbf⟩
  refine hK.out _ _ (hHeld.later hbf) (fun hHeld => ?_)
  clear hK K hbf
  try simp only [Act.put, List.setIfInBounds_toArray, List.set_cons_zero, List.set_cons_succ]
  refine wpAnyH_take (i := 5) (oi := ⟨some 32, _, _, _, _, _⟩) (v := ?vr3_5) rfl (by kernel_rfl) (by kernel_rfl) (by kernel_rfl) (fun _ _ _ h => h) (Or.inl ⟨by rfl, ?yr3_5⟩) hHeld ?rr3_5
  case yr3_5 =>
    intro wx hSx
    have z := fieldK (fewM c)
    go_simp
    try with_reducible rfl
  try simp only [Act.put, List.setIfInBounds_toArray, List.set_cons_zero, List.set_cons_succ]
  refine wpAnyH_ready (rs := [6]) (by kernel_rfl) (by simp) ?_
  refine AllReadyH.cons (o := ⟨some 33, _, _, _, _, _⟩) rfl (fun K hK => ?_) AllReadyH.nil
  have hlit := keys_lit wf (goodM c).k (fewM c).k wf.heap.size rfl
  have hnk := hHeld.add (below_new wf (.cells #[.string (goodM c).k.room, .string (goodM c).k.user, .string (goodM c).k.thread, .bool (goodM c).k.priv, .string (fewM c).k.room, .string (fewM c).k.user, .string (fewM c).k.thread, .bool (fewM c).k.priv] 34)) (t := Th.row LK (.slice (some ⟨wf.heap.size, 0, none⟩) 2 2) (twoK c)) hlit (fun k hk => .inl (by have := hk.2; simp only [Value.ownBlock, Option.some.injEq] at this; exact Nat.le_of_eq this))
  clear hlit
  go_simp
  generalize World.alloc _ _ = wd3 at hnk ⊢
  generalize wf.heap.size = gz at hnk ⊢
  refine hK.out _ _ (hnk.less (fun t ht => List.mem_cons_of_mem _ ht)) (fun hHeld => ?_)
  clear hK K
  try simp only [Act.put, List.setIfInBounds_toArray, List.set_cons_zero, List.set_cons_succ]
  refine wpAnyH_take (i := 7) (oi := ⟨some 9, _, _, _, _, _⟩) (v := ?vr3_7) rfl (by kernel_rfl) (by kernel_rfl) (by kernel_rfl) (fun _ _ _ h => h) (Or.inl ⟨by rfl, ?yr3_7⟩) hHeld ?rr3_7
  case yr3_7 =>
    intro wx hSx
    go_simp
    try with_reducible rfl
  try simp only [Act.put, List.setIfInBounds_toArray, List.set_cons_zero, List.set_cons_succ]
  refine wpAnyH_done (by kernel_rfl) ?_ _
  have HK := hnk
  clear hnk hHeld
  have HR : Hid (RwS w wd3 gx gy gz a b c) := Lib.hid ⟨HK.below, HK.is (t := Th.row LK (.slice (some ⟨gx, 0, none⟩) 2 2) (twoK a)) (List.mem_cons_of_mem _ (List.mem_cons_of_mem _ List.mem_cons_self)), HK.is (t := Th.row LK (.slice (some ⟨gy, 0, none⟩) 2 2) (twoK b)) (List.mem_cons_of_mem _ List.mem_cons_self), HK.is (t := Th.row LK (.slice (some ⟨gz, 0, none⟩) 2 2) (twoK c)) List.mem_cons_self⟩
  clear HK HQA HFA HQB HFB HQC HFC
  go_wp2_with fail
  go_loopw [10, 11, 12] (fun i _ _ wr => ∃ n : Nat, i = .int .i64 (n : Int) ∧ n ≤ 2 ∧ Hid (RwS w wr gx gy gz a b c)) (fun i _ _ _ => 2 - (intOf i).toNat)
  case atStart => exact ⟨0, rfl, by decide, HR⟩
  case round =>
    obtain ⟨i, rfl, hi, HA⟩ := hrel
    clear HR
    by_cases hi2 : i < 2
    · have q1 : decide ((i : Int) < 2) = true := decide_eq_true (by omega)
      have hix := index_any (P := Try.prog) knK (by decide) (b := gx) (off := 0) (cap := 2) (len := 2) hi2
      have hiy := index_any (P := Try.prog) knK (by decide) (b := gy) (off := 0) (cap := 2) (len := 2) hi2
      have hiz := index_any (P := Try.prog) knK (by decide) (b := gz) (off := 0) (cap := 2) (len := 2) hi2
      obtain ⟨kx, hx⟩ : ∃ k, (twoK a)[i]? = some k := ⟨_, List.getElem?_eq_getElem (by simpa using hi2)⟩
      obtain ⟨ky, hy⟩ : ∃ k, (twoK b)[i]? = some k := ⟨_, List.getElem?_eq_getElem (by simpa using hi2)⟩
      obtain ⟨kz, hz⟩ : ∃ k, (twoK c)[i]? = some k := ⟨_, List.getElem?_eq_getElem (by simpa using hi2)⟩
      have HX := Lib.hid (fun W (h : RwS w W gx gy gz a b c) => range4 (h.x.cells hx))
      have HY := Lib.hid (fun W (h : RwS w W gx gy gz a b c) => range4 (h.y.cells hy))
      have HZ := Lib.hid (fun W (h : RwS w W gx gy gz a b c) => range4 (h.z.cells hz))
      simp only [LK, Nat.zero_add] at hix hiy hiz HX HY HZ
      have HOX := Lib.hid (fun W => of_any kx W)
      have HOY := Lib.hid (fun W => of_any ky W)
      have HOZ := Lib.hid (fun W => of_any kz W)
      have HCN := Lib.hid (fun W => rcCompare_any kx ky W)
      have HCM := Lib.hid (fun W => rcCompare_any ky kz W)
      have HCP := Lib.hid (fun W => rcCompare_any kx kz W)
      have HBN := Lib.hid (fun W => refBk_any kx ky W)
      have HBM := Lib.hid (fun W => refBk_any ky kx W)
      have n1 := cmpK_lt kx ky
      have n2 := cmpK_gt kx ky
      have n3 : (cmpK kx ky == 0) = decide (kx = ky) := by rw [← cmpK_zero, Bool.eq_iff_iff, beq_iff_eq, decide_eq_true_eq]
      have n4 : decide (cmpK kx ky < -1) = false := decide_eq_false (by have := (cmpK_bd kx ky).1; omega)
      have n5 : decide (1 < cmpK kx ky) = false := decide_eq_false (by have := (cmpK_bd kx ky).2; omega)
      have HTR := Lib.hid (fun (h : cmpK kx ky ≤ 0) (k : cmpK ky kz ≤ 0) => le_transK h k)
      have hqk := eqlK kx ky
      generalize cmpK kx ky = n at *
      generalize cmpK ky kz = m at *
      generalize cmpK kx kz = p at *
      generalize beforeK kx ky = e1 at *
      generalize beforeK ky kx = e2 at *
      generalize decide (kx = ky) = e3 at *
      have t1 : (e1 != e1) = false := bne_self_eq_false _
      have t2 : (e2 != e2) = false := bne_self_eq_false _
      have t3 : (e3 != e3) = false := bne_self_eq_false _
      unfold Rk.val at *
      clear hx hy hz
      go_upto_region 7 with (fail)
      refine wp_region_held_drew (S := fun W => RwS w W gx gy gz a b c) (by kernel_rfl) (HA.out.on (below_drew wr)) (fun hHeld => ?_)
      clear HA
      generalize wr.drew = wd at hHeld ⊢
      refine wpAnyH_take (i := 0) (oi := ⟨some 38, _, _, _, _, _⟩) (v := ?vs0) rfl (by kernel_rfl) (by kernel_rfl) (by kernel_rfl) (fun _ _ _ h => h) (Or.inl ⟨by rfl, ?ys0⟩) hHeld ?rs0
      case ys0 =>
        intro wx hSx
        go_simp
        try with_reducible rfl
      try simp only [Act.put, List.setIfInBounds_toArray, List.set_cons_zero, List.set_cons_succ]
      refine wpAnyH_take (i := 1) (oi := ⟨some 39, _, _, _, _, _⟩) (v := ?vs1) rfl (by kernel_rfl) (by kernel_rfl) (by kernel_rfl) (fun _ _ _ h => h) (Or.inl ⟨by rfl, ?ys1⟩) hHeld ?rs1
      case ys1 =>
        intro wx hSx
        go_simp
        try with_reducible rfl
      try simp only [Act.put, List.setIfInBounds_toArray, List.set_cons_zero, List.set_cons_succ]
      refine wpAnyH_take (i := 2) (oi := ⟨some 40, _, _, _, _, _⟩) (v := ?vs2) rfl (by kernel_rfl) (by kernel_rfl) (by kernel_rfl) (fun _ _ _ h => h) (Or.inl ⟨by rfl, ?ys2⟩) hHeld ?rs2
      case ys2 =>
        intro wx hSx
        go_simp
        try with_reducible rfl
      try simp only [Act.put, List.setIfInBounds_toArray, List.set_cons_zero, List.set_cons_succ]
      refine wpAnyH_take (i := 3) (oi := ⟨some 41, _, _, _, _, _⟩) (v := ?vs3) rfl (by kernel_rfl) (by kernel_rfl) (by kernel_rfl) (fun _ _ _ h => h) (Or.inl ⟨by rfl, ?ys3⟩) hHeld ?rs3
      case ys3 =>
        intro wx hSx
        obtain ⟨y0, y1, y2, y3⟩ := HX.out wx hSx
        go_simp
        try with_reducible rfl
      try simp only [Act.put, List.setIfInBounds_toArray, List.set_cons_zero, List.set_cons_succ]
      refine wpAnyH_take (i := 5) (oi := ⟨some 43, _, _, _, _, _⟩) (v := ?vs5) rfl (by kernel_rfl) (by kernel_rfl) (by kernel_rfl) (fun _ _ _ h => h) (Or.inl ⟨by rfl, ?ys5⟩) hHeld ?rs5
      case ys5 =>
        intro wx hSx
        go_simp
        try with_reducible rfl
      try simp only [Act.put, List.setIfInBounds_toArray, List.set_cons_zero, List.set_cons_succ]
      refine wpAnyH_take (i := 6) (oi := ⟨some 44, _, _, _, _, _⟩) (v := ?vs6) rfl (by kernel_rfl) (by kernel_rfl) (by kernel_rfl) (fun _ _ _ h => h) (Or.inl ⟨by rfl, ?ys6⟩) hHeld ?rs6
      case ys6 =>
        intro wx hSx
        go_simp
        try with_reducible rfl
      try simp only [Act.put, List.setIfInBounds_toArray, List.set_cons_zero, List.set_cons_succ]
      refine wpAnyH_take (i := 7) (oi := ⟨some 45, _, _, _, _, _⟩) (v := ?vs7) rfl (by kernel_rfl) (by kernel_rfl) (by kernel_rfl) (fun _ _ _ h => h) (Or.inl ⟨by rfl, ?ys7⟩) hHeld ?rs7
      case ys7 =>
        intro wx hSx
        go_simp
        try with_reducible rfl
      try simp only [Act.put, List.setIfInBounds_toArray, List.set_cons_zero, List.set_cons_succ]
      refine wpAnyH_take (i := 8) (oi := ⟨some 46, _, _, _, _, _⟩) (v := ?vs8) rfl (by kernel_rfl) (by kernel_rfl) (by kernel_rfl) (fun _ _ _ h => h) (Or.inl ⟨by rfl, ?ys8⟩) hHeld ?rs8
      case ys8 =>
        intro wx hSx
        obtain ⟨y0, y1, y2, y3⟩ := HY.out wx hSx
        go_simp
        try with_reducible rfl
      try simp only [Act.put, List.setIfInBounds_toArray, List.set_cons_zero, List.set_cons_succ]
      refine wpAnyH_ready (rs := [4]) (by kernel_rfl) (by simp) ?_
      refine AllReadyH.cons (o := ⟨some 42, _, _, _, _, _⟩) rfl (fun K hK => ?_) AllReadyH.nil
      go_simp
      refine (HOX.out _).mono ?_
      rintro e wns4 ⟨rfl, hgn⟩
      refine hK.out _ _ (hHeld.on hgn.below) (fun hHeld => ?_)
      clear hK K hgn
      try simp only [Act.put, List.setIfInBounds_toArray, List.set_cons_zero, List.set_cons_succ]
      refine wpAnyH_ready (rs := [9]) (by kernel_rfl) (by simp) ?_
      refine AllReadyH.cons (o := ⟨some 47, _, _, _, _, _⟩) rfl (fun K hK => ?_) AllReadyH.nil
      go_simp
      refine (HOY.out _).mono ?_
      rintro e wns9 ⟨rfl, hgn⟩
      refine hK.out _ _ (hHeld.on hgn.below) (fun hHeld => ?_)
      clear hK K hgn
      try simp only [Act.put, List.setIfInBounds_toArray, List.set_cons_zero, List.set_cons_succ]
      refine wpAnyH_ready (rs := [10]) (by kernel_rfl) (by simp) ?_
      refine AllReadyH.cons (o := ⟨some 48, _, _, _, _, _⟩) rfl (fun K hK => ?_) AllReadyH.nil
      go_simp
      refine (HCN.out _).mono ?_
      rintro e wns10 ⟨rfl, hgn⟩
      refine hK.out _ _ (hHeld.on hgn.below) (fun hHeld => ?_)
      clear hK K hgn
      try simp only [Act.put, List.setIfInBounds_toArray, List.set_cons_zero, List.set_cons_succ]
      refine wpAnyH_take (i := 11) (oi := ⟨some 11, _, _, _, _, _⟩) (v := ?vs11) rfl (by kernel_rfl) (by kernel_rfl) (by kernel_rfl) (fun _ _ _ h => h) (Or.inl ⟨by rfl, ?ys11⟩) hHeld ?rs11
      case ys11 =>
        intro wx hSx
        go_simp
        try with_reducible rfl
      try simp only [Act.put, List.setIfInBounds_toArray, List.set_cons_zero, List.set_cons_succ]
      refine wpAnyH_done (by kernel_rfl) ?_ _
      go_upto_region 8 with (fail)
      have hSD := hHeld.on (below_drew _)
      refine wp_region_held_drew (S := fun W => RwS w W gx gy gz a b c) (by kernel_rfl) hSD (fun hHeld => ?_)
      clear hSD
      generalize World.drew _ = wd at hHeld ⊢
      refine wpAnyH_take (i := 0) (oi := ⟨some 49, _, _, _, _, _⟩) (v := ?vt0) rfl (by kernel_rfl) (by kernel_rfl) (by kernel_rfl) (fun _ _ _ h => h) (Or.inl ⟨by rfl, ?yt0⟩) hHeld ?rt0
      case yt0 =>
        intro wx hSx
        go_simp
        try with_reducible rfl
      try simp only [Act.put, List.setIfInBounds_toArray, List.set_cons_zero, List.set_cons_succ]
      refine wpAnyH_take (i := 1) (oi := ⟨some 50, _, _, _, _, _⟩) (v := ?vt1) rfl (by kernel_rfl) (by kernel_rfl) (by kernel_rfl) (fun _ _ _ h => h) (Or.inl ⟨by rfl, ?yt1⟩) hHeld ?rt1
      case yt1 =>
        intro wx hSx
        go_simp
        try with_reducible rfl
      try simp only [Act.put, List.setIfInBounds_toArray, List.set_cons_zero, List.set_cons_succ]
      refine wpAnyH_take (i := 2) (oi := ⟨some 51, _, _, _, _, _⟩) (v := ?vt2) rfl (by kernel_rfl) (by kernel_rfl) (by kernel_rfl) (fun _ _ _ h => h) (Or.inl ⟨by rfl, ?yt2⟩) hHeld ?rt2
      case yt2 =>
        intro wx hSx
        go_simp
        try with_reducible rfl
      try simp only [Act.put, List.setIfInBounds_toArray, List.set_cons_zero, List.set_cons_succ]
      refine wpAnyH_take (i := 3) (oi := ⟨some 52, _, _, _, _, _⟩) (v := ?vt3) rfl (by kernel_rfl) (by kernel_rfl) (by kernel_rfl) (fun _ _ _ h => h) (Or.inl ⟨by rfl, ?yt3⟩) hHeld ?rt3
      case yt3 =>
        intro wx hSx
        obtain ⟨y0, y1, y2, y3⟩ := HY.out wx hSx
        go_simp
        try with_reducible rfl
      try simp only [Act.put, List.setIfInBounds_toArray, List.set_cons_zero, List.set_cons_succ]
      refine wpAnyH_take (i := 5) (oi := ⟨some 54, _, _, _, _, _⟩) (v := ?vt5) rfl (by kernel_rfl) (by kernel_rfl) (by kernel_rfl) (fun _ _ _ h => h) (Or.inl ⟨by rfl, ?yt5⟩) hHeld ?rt5
      case yt5 =>
        intro wx hSx
        go_simp
        try with_reducible rfl
      try simp only [Act.put, List.setIfInBounds_toArray, List.set_cons_zero, List.set_cons_succ]
      refine wpAnyH_take (i := 6) (oi := ⟨some 55, _, _, _, _, _⟩) (v := ?vt6) rfl (by kernel_rfl) (by kernel_rfl) (by kernel_rfl) (fun _ _ _ h => h) (Or.inl ⟨by rfl, ?yt6⟩) hHeld ?rt6
      case yt6 =>
        intro wx hSx
        go_simp
        try with_reducible rfl
      try simp only [Act.put, List.setIfInBounds_toArray, List.set_cons_zero, List.set_cons_succ]
      refine wpAnyH_take (i := 7) (oi := ⟨some 56, _, _, _, _, _⟩) (v := ?vt7) rfl (by kernel_rfl) (by kernel_rfl) (by kernel_rfl) (fun _ _ _ h => h) (Or.inl ⟨by rfl, ?yt7⟩) hHeld ?rt7
      case yt7 =>
        intro wx hSx
        go_simp
        try with_reducible rfl
      try simp only [Act.put, List.setIfInBounds_toArray, List.set_cons_zero, List.set_cons_succ]
      refine wpAnyH_take (i := 8) (oi := ⟨some 57, _, _, _, _, _⟩) (v := ?vt8) rfl (by kernel_rfl) (by kernel_rfl) (by kernel_rfl) (fun _ _ _ h => h) (Or.inl ⟨by rfl, ?yt8⟩) hHeld ?rt8
      case yt8 =>
        intro wx hSx
        obtain ⟨y0, y1, y2, y3⟩ := HZ.out wx hSx
        go_simp
        try with_reducible rfl
      try simp only [Act.put, List.setIfInBounds_toArray, List.set_cons_zero, List.set_cons_succ]
      refine wpAnyH_ready (rs := [4]) (by kernel_rfl) (by simp) ?_
      refine AllReadyH.cons (o := ⟨some 53, _, _, _, _, _⟩) rfl (fun K hK => ?_) AllReadyH.nil
      go_simp
      refine (HOY.out _).mono ?_
      rintro e wnt4 ⟨rfl, hgn⟩
      refine hK.out _ _ (hHeld.on hgn.below) (fun hHeld => ?_)
      clear hK K hgn
      try simp only [Act.put, List.setIfInBounds_toArray, List.set_cons_zero, List.set_cons_succ]
      refine wpAnyH_ready (rs := [9]) (by kernel_rfl) (by simp) ?_
      refine AllReadyH.cons (o := ⟨some 58, _, _, _, _, _⟩) rfl (fun K hK => ?_) AllReadyH.nil
      go_simp
      refine (HOZ.out _).mono ?_
      rintro e wnt9 ⟨rfl, hgn⟩
      refine hK.out _ _ (hHeld.on hgn.below) (fun hHeld => ?_)
      clear hK K hgn
      try simp only [Act.put, List.setIfInBounds_toArray, List.set_cons_zero, List.set_cons_succ]
      refine wpAnyH_ready (rs := [10]) (by kernel_rfl) (by simp) ?_
      refine AllReadyH.cons (o := ⟨some 59, _, _, _, _, _⟩) rfl (fun K hK => ?_) AllReadyH.nil
      go_simp
      refine (HCM.out _).mono ?_
      rintro e wnt10 ⟨rfl, hgn⟩
      refine hK.out _ _ (hHeld.on hgn.below) (fun hHeld => ?_)
      clear hK K hgn
      try simp only [Act.put, List.setIfInBounds_toArray, List.set_cons_zero, List.set_cons_succ]
      refine wpAnyH_take (i := 11) (oi := ⟨some 12, _, _, _, _, _⟩) (v := ?vt11) rfl (by kernel_rfl) (by kernel_rfl) (by kernel_rfl) (fun _ _ _ h => h) (Or.inl ⟨by rfl, ?yt11⟩) hHeld ?rt11
      case yt11 =>
        intro wx hSx
        go_simp
        try with_reducible rfl
      try simp only [Act.put, List.setIfInBounds_toArray, List.set_cons_zero, List.set_cons_succ]
      refine wpAnyH_done (by kernel_rfl) ?_ _
      go_upto_region 9 with (fail)
      have hSD := hHeld.on (below_drew _)
      refine wp_region_held_drew (S := fun W => RwS w W gx gy gz a b c) (by kernel_rfl) hSD (fun hHeld => ?_)
      clear hSD
      generalize World.drew _ = wd at hHeld ⊢
      refine wpAnyH_take (i := 0) (oi := ⟨some 60, _, _, _, _, _⟩) (v := ?vt9_0) rfl (by kernel_rfl) (by kernel_rfl) (by kernel_rfl) (fun _ _ _ h => h) (Or.inl ⟨by rfl, ?yt9_0⟩) hHeld ?rt9_0
      case yt9_0 =>
        intro wx hSx
        go_simp
        try with_reducible rfl
      try simp only [Act.put, List.setIfInBounds_toArray, List.set_cons_zero, List.set_cons_succ]
      refine wpAnyH_take (i := 1) (oi := ⟨some 61, _, _, _, _, _⟩) (v := ?vt9_1) rfl (by kernel_rfl) (by kernel_rfl) (by kernel_rfl) (fun _ _ _ h => h) (Or.inl ⟨by rfl, ?yt9_1⟩) hHeld ?rt9_1
      case yt9_1 =>
        intro wx hSx
        go_simp
        try with_reducible rfl
      try simp only [Act.put, List.setIfInBounds_toArray, List.set_cons_zero, List.set_cons_succ]
      refine wpAnyH_take (i := 2) (oi := ⟨some 62, _, _, _, _, _⟩) (v := ?vt9_2) rfl (by kernel_rfl) (by kernel_rfl) (by kernel_rfl) (fun _ _ _ h => h) (Or.inl ⟨by rfl, ?yt9_2⟩) hHeld ?rt9_2
      case yt9_2 =>
        intro wx hSx
        go_simp
        try with_reducible rfl
      try simp only [Act.put, List.setIfInBounds_toArray, List.set_cons_zero, List.set_cons_succ]
      refine wpAnyH_take (i := 3) (oi := ⟨some 63, _, _, _, _, _⟩) (v := ?vt9_3) rfl (by kernel_rfl) (by kernel_rfl) (by kernel_rfl) (fun _ _ _ h => h) (Or.inl ⟨by rfl, ?yt9_3⟩) hHeld ?rt9_3
      case yt9_3 =>
        intro wx hSx
        go_simp
        try with_reducible rfl
      try simp only [Act.put, List.setIfInBounds_toArray, List.set_cons_zero, List.set_cons_succ]
      refine wpAnyH_take (i := 4) (oi := ⟨some 64, _, _, _, _, _⟩) (v := ?vt9_4) rfl (by kernel_rfl) (by kernel_rfl) (by kernel_rfl) (fun _ _ _ h => h) (Or.inl ⟨by rfl, ?yt9_4⟩) hHeld ?rt9_4
      case yt9_4 =>
        intro wx hSx
        go_simp
        try with_reducible rfl
      try simp only [Act.put, List.setIfInBounds_toArray, List.set_cons_zero, List.set_cons_succ]
      refine wpAnyH_take (i := 5) (oi := ⟨some 65, _, _, _, _, _⟩) (v := ?vt9_5) rfl (by kernel_rfl) (by kernel_rfl) (by kernel_rfl) (fun _ _ _ h => h) (Or.inl ⟨by rfl, ?yt9_5⟩) hHeld ?rt9_5
      case yt9_5 =>
        intro wx hSx
        obtain ⟨y0, y1, y2, y3⟩ := HX.out wx hSx
        go_simp
        try with_reducible rfl
      try simp only [Act.put, List.setIfInBounds_toArray, List.set_cons_zero, List.set_cons_succ]
      refine wpAnyH_take (i := 6) (oi := ⟨some 66, _, _, _, _, _⟩) (v := ?vt9_6) rfl (by kernel_rfl) (by kernel_rfl) (by kernel_rfl) (fun _ _ _ h => h) (Or.inl ⟨by rfl, ?yt9_6⟩) hHeld ?rt9_6
      case yt9_6 =>
        intro wx hSx
        go_simp
        try with_reducible rfl
      try simp only [Act.put, List.setIfInBounds_toArray, List.set_cons_zero, List.set_cons_succ]
      refine wpAnyH_take (i := 7) (oi := ⟨some 67, _, _, _, _, _⟩) (v := ?vt9_7) rfl (by kernel_rfl) (by kernel_rfl) (by kernel_rfl) (fun _ _ _ h => h) (Or.inl ⟨by rfl, ?yt9_7⟩) hHeld ?rt9_7
      case yt9_7 =>
        intro wx hSx
        go_simp
        try with_reducible rfl
      try simp only [Act.put, List.setIfInBounds_toArray, List.set_cons_zero, List.set_cons_succ]
      refine wpAnyH_take (i := 8) (oi := ⟨some 68, _, _, _, _, _⟩) (v := ?vt9_8) rfl (by kernel_rfl) (by kernel_rfl) (by kernel_rfl) (fun _ _ _ h => h) (Or.inl ⟨by rfl, ?yt9_8⟩) hHeld ?rt9_8
      case yt9_8 =>
        intro wx hSx
        go_simp
        try with_reducible rfl
      try simp only [Act.put, List.setIfInBounds_toArray, List.set_cons_zero, List.set_cons_succ]
      refine wpAnyH_take (i := 9) (oi := ⟨some 69, _, _, _, _, _⟩) (v := ?vt9_9) rfl (by kernel_rfl) (by kernel_rfl) (by kernel_rfl) (fun _ _ _ h => h) (Or.inl ⟨by rfl, ?yt9_9⟩) hHeld ?rt9_9
      case yt9_9 =>
        intro wx hSx
        obtain ⟨y0, y1, y2, y3⟩ := HY.out wx hSx
        go_simp
        try with_reducible rfl
      try simp only [Act.put, List.setIfInBounds_toArray, List.set_cons_zero, List.set_cons_succ]
      refine wpAnyH_ready (rs := [10]) (by kernel_rfl) (by simp) ?_
      refine AllReadyH.cons (o := ⟨some 70, _, _, _, _, _⟩) rfl (fun K hK => ?_) AllReadyH.nil
      go_simp
      refine (HBN.out _).mono ?_
      rintro e wnt910 ⟨rfl, hgn⟩
      refine hK.out _ _ (hHeld.on hgn.below) (fun hHeld => ?_)
      clear hK K hgn
      try simp only [Act.put, List.setIfInBounds_toArray, List.set_cons_zero, List.set_cons_succ]
      refine wpAnyH_take (i := 11) (oi := ⟨some 71, _, _, _, _, _⟩) (v := ?vt9_11) rfl (by kernel_rfl) (by kernel_rfl) (by kernel_rfl) (fun _ _ _ h => h) (Or.inl ⟨by rfl, ?yt9_11⟩) hHeld ?rt9_11
      case yt9_11 =>
        intro wx hSx
        go_simp
        try with_reducible rfl
      try simp only [Act.put, List.setIfInBounds_toArray, List.set_cons_zero, List.set_cons_succ]
      refine wpAnyH_take (i := 12) (oi := ⟨some 72, _, _, _, _, _⟩) (v := ?vt9_12) rfl (by kernel_rfl) (by kernel_rfl) (by kernel_rfl) (fun _ _ _ h => h) (Or.inl ⟨by rfl, ?yt9_12⟩) hHeld ?rt9_12
      case yt9_12 =>
        intro wx hSx
        go_simp
        try with_reducible rfl
      try simp only [Act.put, List.setIfInBounds_toArray, List.set_cons_zero, List.set_cons_succ]
      refine wpAnyH_take (i := 13) (oi := ⟨some 73, _, _, _, _, _⟩) (v := ?vt9_13) rfl (by kernel_rfl) (by kernel_rfl) (by kernel_rfl) (fun _ _ _ h => h) (Or.inl ⟨by rfl, ?yt9_13⟩) hHeld ?rt9_13
      case yt9_13 =>
        intro wx hSx
        go_simp
        try with_reducible rfl
      try simp only [Act.put, List.setIfInBounds_toArray, List.set_cons_zero, List.set_cons_succ]
      refine wpAnyH_take (i := 14) (oi := ⟨some 74, _, _, _, _, _⟩) (v := ?vt9_14) rfl (by kernel_rfl) (by kernel_rfl) (by kernel_rfl) (fun _ _ _ h => h) (Or.inl ⟨by rfl, ?yt9_14⟩) hHeld ?rt9_14
      case yt9_14 =>
        intro wx hSx
        go_simp
        try with_reducible rfl
      try simp only [Act.put, List.setIfInBounds_toArray, List.set_cons_zero, List.set_cons_succ]
      refine wpAnyH_take (i := 15) (oi := ⟨some 75, _, _, _, _, _⟩) (v := ?vt9_15) rfl (by kernel_rfl) (by kernel_rfl) (by kernel_rfl) (fun _ _ _ h => h) (Or.inl ⟨by rfl, ?yt9_15⟩) hHeld ?rt9_15
      case yt9_15 =>
        intro wx hSx
        go_simp
        try with_reducible rfl
      try simp only [Act.put, List.setIfInBounds_toArray, List.set_cons_zero, List.set_cons_succ]
      refine wpAnyH_take (i := 16) (oi := ⟨some 76, _, _, _, _, _⟩) (v := ?vt9_16) rfl (by kernel_rfl) (by kernel_rfl) (by kernel_rfl) (fun _ _ _ h => h) (Or.inl ⟨by rfl, ?yt9_16⟩) hHeld ?rt9_16
      case yt9_16 =>
        intro wx hSx
        go_simp
        try with_reducible rfl
      try simp only [Act.put, List.setIfInBounds_toArray, List.set_cons_zero, List.set_cons_succ]
      refine wpAnyH_take (i := 17) (oi := ⟨some 77, _, _, _, _, _⟩) (v := ?vt9_17) rfl (by kernel_rfl) (by kernel_rfl) (by kernel_rfl) (fun _ _ _ h => h) (Or.inl ⟨by rfl, ?yt9_17⟩) hHeld ?rt9_17
      case yt9_17 =>
        intro wx hSx
        go_simp
        try with_reducible rfl
      try simp only [Act.put, List.setIfInBounds_toArray, List.set_cons_zero, List.set_cons_succ]
      refine wpAnyH_take (i := 18) (oi := ⟨some 78, _, _, _, _, _⟩) (v := ?vt9_18) rfl (by kernel_rfl) (by kernel_rfl) (by kernel_rfl) (fun _ _ _ h => h) (Or.inl ⟨by rfl, ?yt9_18⟩) hHeld ?rt9_18
      case yt9_18 =>
        intro wx hSx
        obtain ⟨y0, y1, y2, y3⟩ := HY.out wx hSx
        go_simp
        try with_reducible rfl
      try simp only [Act.put, List.setIfInBounds_toArray, List.set_cons_zero, List.set_cons_succ]
      refine wpAnyH_take (i := 19) (oi := ⟨some 79, _, _, _, _, _⟩) (v := ?vt9_19) rfl (by kernel_rfl) (by kernel_rfl) (by kernel_rfl) (fun _ _ _ h => h) (Or.inl ⟨by rfl, ?yt9_19⟩) hHeld ?rt9_19
      case yt9_19 =>
        intro wx hSx
        go_simp
        try with_reducible rfl
      try simp only [Act.put, List.setIfInBounds_toArray, List.set_cons_zero, List.set_cons_succ]
      refine wpAnyH_take (i := 20) (oi := ⟨some 80, _, _, _, _, _⟩) (v := ?vt9_20) rfl (by kernel_rfl) (by kernel_rfl) (by kernel_rfl) (fun _ _ _ h => h) (Or.inl ⟨by rfl, ?yt9_20⟩) hHeld ?rt9_20
      case yt9_20 =>
        intro wx hSx
        go_simp
        try with_reducible rfl
      try simp only [Act.put, List.setIfInBounds_toArray, List.set_cons_zero, List.set_cons_succ]
      refine wpAnyH_take (i := 21) (oi := ⟨some 81, _, _, _, _, _⟩) (v := ?vt9_21) rfl (by kernel_rfl) (by kernel_rfl) (by kernel_rfl) (fun _ _ _ h => h) (Or.inl ⟨by rfl, ?yt9_21⟩) hHeld ?rt9_21
      case yt9_21 =>
        intro wx hSx
        go_simp
        try with_reducible rfl
      try simp only [Act.put, List.setIfInBounds_toArray, List.set_cons_zero, List.set_cons_succ]
      refine wpAnyH_take (i := 22) (oi := ⟨some 82, _, _, _, _, _⟩) (v := ?vt9_22) rfl (by kernel_rfl) (by kernel_rfl) (by kernel_rfl) (fun _ _ _ h => h) (Or.inl ⟨by rfl, ?yt9_22⟩) hHeld ?rt9_22
      case yt9_22 =>
        intro wx hSx
        obtain ⟨y0, y1, y2, y3⟩ := HX.out wx hSx
        go_simp
        try with_reducible rfl
      try simp only [Act.put, List.setIfInBounds_toArray, List.set_cons_zero, List.set_cons_succ]
      refine wpAnyH_ready (rs := [23]) (by kernel_rfl) (by simp) ?_
      refine AllReadyH.cons (o := ⟨some 83, _, _, _, _, _⟩) rfl (fun K hK => ?_) AllReadyH.nil
      go_simp
      refine (HBM.out _).mono ?_
      rintro e wnt923 ⟨rfl, hgn⟩
      refine hK.out _ _ (hHeld.on hgn.below) (fun hHeld => ?_)
      clear hK K hgn
      try simp only [Act.put, List.setIfInBounds_toArray, List.set_cons_zero, List.set_cons_succ]
      refine wpAnyH_take (i := 24) (oi := ⟨some 84, _, _, _, _, _⟩) (v := ?vt9_24) rfl (by kernel_rfl) (by kernel_rfl) (by kernel_rfl) (fun _ _ _ h => h) (Or.inl ⟨by rfl, ?yt9_24⟩) hHeld ?rt9_24
      case yt9_24 =>
        intro wx hSx
        go_simp
        try with_reducible rfl
      try simp only [Act.put, List.setIfInBounds_toArray, List.set_cons_zero, List.set_cons_succ]
      refine wpAnyH_take (i := 25) (oi := ⟨some 85, _, _, _, _, _⟩) (v := ?vt9_25) rfl (by kernel_rfl) (by kernel_rfl) (by kernel_rfl) (fun _ _ _ h => h) (Or.inl ⟨by rfl, ?yt9_25⟩) hHeld ?rt9_25
      case yt9_25 =>
        intro wx hSx
        go_simp
        try with_reducible rfl
      try simp only [Act.put, List.setIfInBounds_toArray, List.set_cons_zero, List.set_cons_succ]
      refine wpAnyH_take (i := 26) (oi := ⟨some 86, _, _, _, _, _⟩) (v := ?vt9_26) rfl (by kernel_rfl) (by kernel_rfl) (by kernel_rfl) (fun _ _ _ h => h) (Or.inl ⟨by rfl, ?yt9_26⟩) hHeld ?rt9_26
      case yt9_26 =>
        intro wx hSx
        go_simp
        try with_reducible rfl
      try simp only [Act.put, List.setIfInBounds_toArray, List.set_cons_zero, List.set_cons_succ]
      refine wpAnyH_take (i := 27) (oi := ⟨some 87, _, _, _, _, _⟩) (v := ?vt9_27) rfl (by kernel_rfl) (by kernel_rfl) (by kernel_rfl) (fun _ _ _ h => h) (Or.inl ⟨by rfl, ?yt9_27⟩) hHeld ?rt9_27
      case yt9_27 =>
        intro wx hSx
        go_simp
        try with_reducible rfl
      try simp only [Act.put, List.setIfInBounds_toArray, List.set_cons_zero, List.set_cons_succ]
      refine wpAnyH_take (i := 28) (oi := ⟨some 88, _, _, _, _, _⟩) (v := ?vt9_28) rfl (by kernel_rfl) (by kernel_rfl) (by kernel_rfl) (fun _ _ _ h => h) (Or.inl ⟨by rfl, ?yt9_28⟩) hHeld ?rt9_28
      case yt9_28 =>
        intro wx hSx
        go_simp
        try with_reducible rfl
      try simp only [Act.put, List.setIfInBounds_toArray, List.set_cons_zero, List.set_cons_succ]
      refine wpAnyH_take (i := 29) (oi := ⟨some 89, _, _, _, _, _⟩) (v := ?vt9_29) rfl (by kernel_rfl) (by kernel_rfl) (by kernel_rfl) (fun _ _ _ h => h) (Or.inl ⟨by rfl, ?yt9_29⟩) hHeld ?rt9_29
      case yt9_29 =>
        intro wx hSx
        go_simp
        try with_reducible rfl
      try simp only [Act.put, List.setIfInBounds_toArray, List.set_cons_zero, List.set_cons_succ]
      refine wpAnyH_take (i := 30) (oi := ⟨some 90, _, _, _, _, _⟩) (v := ?vt9_30) rfl (by kernel_rfl) (by kernel_rfl) (by kernel_rfl) (fun _ _ _ h => h) (Or.inl ⟨by rfl, ?yt9_30⟩) hHeld ?rt9_30
      case yt9_30 =>
        intro wx hSx
        go_simp
        try with_reducible rfl
      try simp only [Act.put, List.setIfInBounds_toArray, List.set_cons_zero, List.set_cons_succ]
      refine wpAnyH_take (i := 31) (oi := ⟨some 91, _, _, _, _, _⟩) (v := ?vt9_31) rfl (by kernel_rfl) (by kernel_rfl) (by kernel_rfl) (fun _ _ _ h => h) (Or.inl ⟨by rfl, ?yt9_31⟩) hHeld ?rt9_31
      case yt9_31 =>
        intro wx hSx
        go_simp
        try with_reducible rfl
      try simp only [Act.put, List.setIfInBounds_toArray, List.set_cons_zero, List.set_cons_succ]
      refine wpAnyH_take (i := 32) (oi := ⟨some 92, _, _, _, _, _⟩) (v := ?vt9_32) rfl (by kernel_rfl) (by kernel_rfl) (by kernel_rfl) (fun _ _ _ h => h) (Or.inl ⟨by rfl, ?yt9_32⟩) hHeld ?rt9_32
      case yt9_32 =>
        intro wx hSx
        obtain ⟨y0, y1, y2, y3⟩ := HX.out wx hSx
        go_simp
        try with_reducible rfl
      try simp only [Act.put, List.setIfInBounds_toArray, List.set_cons_zero, List.set_cons_succ]
      refine wpAnyH_take (i := 33) (oi := ⟨some 93, _, _, _, _, _⟩) (v := ?vt9_33) rfl (by kernel_rfl) (by kernel_rfl) (by kernel_rfl) (fun _ _ _ h => h) (Or.inl ⟨by rfl, ?yt9_33⟩) hHeld ?rt9_33
      case yt9_33 =>
        intro wx hSx
        go_simp
        try with_reducible rfl
      try simp only [Act.put, List.setIfInBounds_toArray, List.set_cons_zero, List.set_cons_succ]
      refine wpAnyH_take (i := 34) (oi := ⟨some 94, _, _, _, _, _⟩) (v := ?vt9_34) rfl (by kernel_rfl) (by kernel_rfl) (by kernel_rfl) (fun _ _ _ h => h) (Or.inl ⟨by rfl, ?yt9_34⟩) hHeld ?rt9_34
      case yt9_34 =>
        intro wx hSx
        go_simp
        try with_reducible rfl
      try simp only [Act.put, List.setIfInBounds_toArray, List.set_cons_zero, List.set_cons_succ]
      refine wpAnyH_take (i := 35) (oi := ⟨some 95, _, _, _, _, _⟩) (v := ?vt9_35) rfl (by kernel_rfl) (by kernel_rfl) (by kernel_rfl) (fun _ _ _ h => h) (Or.inl ⟨by rfl, ?yt9_35⟩) hHeld ?rt9_35
      case yt9_35 =>
        intro wx hSx
        go_simp
        try with_reducible rfl
      try simp only [Act.put, List.setIfInBounds_toArray, List.set_cons_zero, List.set_cons_succ]
      refine wpAnyH_take (i := 36) (oi := ⟨some 96, _, _, _, _, _⟩) (v := ?vt9_36) rfl (by kernel_rfl) (by kernel_rfl) (by kernel_rfl) (fun _ _ _ h => h) (Or.inl ⟨by rfl, ?yt9_36⟩) hHeld ?rt9_36
      case yt9_36 =>
        intro wx hSx
        obtain ⟨y0, y1, y2, y3⟩ := HY.out wx hSx
        go_simp
        try with_reducible rfl
      try simp only [Act.put, List.setIfInBounds_toArray, List.set_cons_zero, List.set_cons_succ]
      refine wpAnyH_take (i := 37) (oi := ⟨some 97, _, _, _, _, _⟩) (v := ?vt9_37) rfl (by kernel_rfl) (by kernel_rfl) (by kernel_rfl) (fun _ _ _ h => h) (Or.inl ⟨by rfl, ?yt9_37⟩) hHeld ?rt9_37
      case yt9_37 =>
        intro wx hSx
        go_simp
        try with_reducible rfl
      try simp only [Act.put, List.setIfInBounds_toArray, List.set_cons_zero, List.set_cons_succ]
      refine wpAnyH_take (i := 38) (oi := ⟨some 98, _, _, _, _, _⟩) (v := ?vt9_38) rfl (by kernel_rfl) (by kernel_rfl) (by kernel_rfl) (fun _ _ _ h => h) (Or.inl ⟨by rfl, ?yt9_38⟩) hHeld ?rt9_38
      case yt9_38 =>
        intro wx hSx
        go_simp
        try with_reducible rfl
      try simp only [Act.put, List.setIfInBounds_toArray, List.set_cons_zero, List.set_cons_succ]
      refine wpAnyH_take (i := 39) (oi := ⟨some 99, _, _, _, _, _⟩) (v := ?vt9_39) rfl (by kernel_rfl) (by kernel_rfl) (by kernel_rfl) (fun _ _ _ h => h) (Or.inl ⟨by rfl, ?yt9_39⟩) hHeld ?rt9_39
      case yt9_39 =>
        intro wx hSx
        go_simp
        try with_reducible rfl
      try simp only [Act.put, List.setIfInBounds_toArray, List.set_cons_zero, List.set_cons_succ]
      refine wpAnyH_take (i := 40) (oi := ⟨some 100, _, _, _, _, _⟩) (v := ?vt9_40) rfl (by kernel_rfl) (by kernel_rfl) (by kernel_rfl) (fun _ _ _ h => h) (Or.inl ⟨by rfl, ?yt9_40⟩) hHeld ?rt9_40
      case yt9_40 =>
        intro wx hSx
        go_simp
        try with_reducible rfl
      try simp only [Act.put, List.setIfInBounds_toArray, List.set_cons_zero, List.set_cons_succ]
      refine wpAnyH_take (i := 41) (oi := ⟨some 101, _, _, _, _, _⟩) (v := ?vt9_41) rfl (by kernel_rfl) (by kernel_rfl) (by kernel_rfl) (fun _ _ _ h => h) (Or.inl ⟨by rfl, ?yt9_41⟩) hHeld ?rt9_41
      case yt9_41 =>
        intro wx hSx
        go_simp
        try with_reducible rfl
      try simp only [Act.put, List.setIfInBounds_toArray, List.set_cons_zero, List.set_cons_succ]
      refine wpAnyH_take (i := 42) (oi := ⟨some 102, _, _, _, _, _⟩) (v := ?vt9_42) rfl (by kernel_rfl) (by kernel_rfl) (by kernel_rfl) (fun _ _ _ h => h) (Or.inl ⟨by rfl, ?yt9_42⟩) hHeld ?rt9_42
      case yt9_42 =>
        intro wx hSx
        go_simp
        try with_reducible rfl
      try simp only [Act.put, List.setIfInBounds_toArray, List.set_cons_zero, List.set_cons_succ]
      refine wpAnyH_take (i := 43) (oi := ⟨some 103, _, _, _, _, _⟩) (v := ?vt9_43) rfl (by kernel_rfl) (by kernel_rfl) (by kernel_rfl) (fun _ _ _ h => h) (Or.inl ⟨by rfl, ?yt9_43⟩) hHeld ?rt9_43
      case yt9_43 =>
        intro wx hSx
        go_simp
        try with_reducible rfl
      try simp only [Act.put, List.setIfInBounds_toArray, List.set_cons_zero, List.set_cons_succ]
      refine wpAnyH_take (i := 44) (oi := ⟨some 104, _, _, _, _, _⟩) (v := ?vt9_44) rfl (by kernel_rfl) (by kernel_rfl) (by kernel_rfl) (fun _ _ _ h => h) (Or.inl ⟨by rfl, ?yt9_44⟩) hHeld ?rt9_44
      case yt9_44 =>
        intro wx hSx
        go_simp
        try with_reducible rfl
      try simp only [Act.put, List.setIfInBounds_toArray, List.set_cons_zero, List.set_cons_succ]
      refine wpAnyH_take (i := 45) (oi := ⟨some 105, _, _, _, _, _⟩) (v := ?vt9_45) rfl (by kernel_rfl) (by kernel_rfl) (by kernel_rfl) (fun _ _ _ h => h) (Or.inl ⟨by rfl, ?yt9_45⟩) hHeld ?rt9_45
      case yt9_45 =>
        intro wx hSx
        go_simp
        try with_reducible rfl
      try simp only [Act.put, List.setIfInBounds_toArray, List.set_cons_zero, List.set_cons_succ]
      refine wpAnyH_take (i := 46) (oi := ⟨some 106, _, _, _, _, _⟩) (v := ?vt9_46) rfl (by kernel_rfl) (by kernel_rfl) (by kernel_rfl) (fun _ _ _ h => h) (Or.inl ⟨by rfl, ?yt9_46⟩) hHeld ?rt9_46
      case yt9_46 =>
        intro wx hSx
        go_simp
        try with_reducible rfl
      try simp only [Act.put, List.setIfInBounds_toArray, List.set_cons_zero, List.set_cons_succ]
      refine wpAnyH_take (i := 47) (oi := ⟨some 107, _, _, _, _, _⟩) (v := ?vt9_47) rfl (by kernel_rfl) (by kernel_rfl) (by kernel_rfl) (fun _ _ _ h => h) (Or.inl ⟨by rfl, ?yt9_47⟩) hHeld ?rt9_47
      case yt9_47 =>
        intro wx hSx
        go_simp
        try with_reducible rfl
      try simp only [Act.put, List.setIfInBounds_toArray, List.set_cons_zero, List.set_cons_succ]
      refine wpAnyH_take (i := 48) (oi := ⟨some 108, _, _, _, _, _⟩) (v := ?vt9_48) rfl (by kernel_rfl) (by kernel_rfl) (by kernel_rfl) (fun _ _ _ h => h) (Or.inl ⟨by rfl, ?yt9_48⟩) hHeld ?rt9_48
      case yt9_48 =>
        intro wx hSx
        go_simp
        try with_reducible rfl
      try simp only [Act.put, List.setIfInBounds_toArray, List.set_cons_zero, List.set_cons_succ]
      refine wpAnyH_take (i := 49) (oi := ⟨some 109, _, _, _, _, _⟩) (v := ?vt9_49) rfl (by kernel_rfl) (by kernel_rfl) (by kernel_rfl) (fun _ _ _ h => h) (Or.inl ⟨by rfl, ?yt9_49⟩) hHeld ?rt9_49
      case yt9_49 =>
        intro wx hSx
        go_simp
        try with_reducible rfl
      try simp only [Act.put, List.setIfInBounds_toArray, List.set_cons_zero, List.set_cons_succ]
      by_cases hn : n ≤ 0
      · have m1 : decide (n ≤ 0) = true := decide_eq_true hn
        refine wpAnyH_take (i := 50) (oi := ⟨some 110, _, _, _, _, _⟩) (v := ?vu50) rfl (by kernel_rfl) (by kernel_rfl) (by kernel_rfl) (fun _ _ _ h => h) (Or.inl ⟨by rfl, ?yu50⟩) hHeld ?ru50
        case yu50 =>
          intro wx hSx
          go_simp
          try with_reducible rfl
        try simp only [Act.put, List.setIfInBounds_toArray, List.set_cons_zero, List.set_cons_succ]
        refine wpAnyH_take (i := 51) (oi := ⟨some 111, _, _, _, _, _⟩) (v := ?vu51) rfl (by kernel_rfl) (by kernel_rfl) (by kernel_rfl) (fun _ _ _ h => h) (Or.inl ⟨by rfl, ?yu51⟩) hHeld ?ru51
        case yu51 =>
          intro wx hSx
          go_simp
          try with_reducible rfl
        try simp only [Act.put, List.setIfInBounds_toArray, List.set_cons_zero, List.set_cons_succ]
        refine wpAnyH_take (i := 52) (oi := ⟨some 112, _, _, _, _, _⟩) (v := ?vu52) rfl (by kernel_rfl) (by kernel_rfl) (by kernel_rfl) (fun _ _ _ h => h) (Or.inl ⟨by rfl, ?yu52⟩) hHeld ?ru52
        case yu52 =>
          intro wx hSx
          go_simp
          try with_reducible rfl
        try simp only [Act.put, List.setIfInBounds_toArray, List.set_cons_zero, List.set_cons_succ]
        by_cases hm : m ≤ 0
        · have m2 : decide (m ≤ 0) = true := decide_eq_true hm
          have m3 : decide (0 < p) = false := decide_eq_false (by have := HTR.out hn hm; omega)
          refine wpAnyH_take (i := 53) (oi := ⟨some 113, _, _, _, _, _⟩) (v := ?vv53) rfl (by kernel_rfl) (by kernel_rfl) (by kernel_rfl) (fun _ _ _ h => h) (Or.inl ⟨by rfl, ?yv53⟩) hHeld ?rv53
          case yv53 =>
            intro wx hSx
            go_simp
            try with_reducible rfl
          try simp only [Act.put, List.setIfInBounds_toArray, List.set_cons_zero, List.set_cons_succ]
          refine wpAnyH_take (i := 54) (oi := ⟨some 114, _, _, _, _, _⟩) (v := ?vv54) rfl (by kernel_rfl) (by kernel_rfl) (by kernel_rfl) (fun _ _ _ h => h) (Or.inl ⟨by rfl, ?yv54⟩) hHeld ?rv54
          case yv54 =>
            intro wx hSx
            go_simp
            try with_reducible rfl
          try simp only [Act.put, List.setIfInBounds_toArray, List.set_cons_zero, List.set_cons_succ]
          refine wpAnyH_take (i := 55) (oi := ⟨some 115, _, _, _, _, _⟩) (v := ?vv55) rfl (by kernel_rfl) (by kernel_rfl) (by kernel_rfl) (fun _ _ _ h => h) (Or.inl ⟨by rfl, ?yv55⟩) hHeld ?rv55
          case yv55 =>
            intro wx hSx
            go_simp
            try with_reducible rfl
          try simp only [Act.put, List.setIfInBounds_toArray, List.set_cons_zero, List.set_cons_succ]
          refine wpAnyH_take (i := 56) (oi := ⟨some 116, _, _, _, _, _⟩) (v := ?vv56) rfl (by kernel_rfl) (by kernel_rfl) (by kernel_rfl) (fun _ _ _ h => h) (Or.inl ⟨by rfl, ?yv56⟩) hHeld ?rv56
          case yv56 =>
            intro wx hSx
            go_simp
            try with_reducible rfl
          try simp only [Act.put, List.setIfInBounds_toArray, List.set_cons_zero, List.set_cons_succ]
          refine wpAnyH_take (i := 57) (oi := ⟨some 117, _, _, _, _, _⟩) (v := ?vv57) rfl (by kernel_rfl) (by kernel_rfl) (by kernel_rfl) (fun _ _ _ h => h) (Or.inl ⟨by rfl, ?yv57⟩) hHeld ?rv57
          case yv57 =>
            intro wx hSx
            go_simp
            try with_reducible rfl
          try simp only [Act.put, List.setIfInBounds_toArray, List.set_cons_zero, List.set_cons_succ]
          refine wpAnyH_take (i := 58) (oi := ⟨some 118, _, _, _, _, _⟩) (v := ?vv58) rfl (by kernel_rfl) (by kernel_rfl) (by kernel_rfl) (fun _ _ _ h => h) (Or.inl ⟨by rfl, ?yv58⟩) hHeld ?rv58
          case yv58 =>
            intro wx hSx
            go_simp
            try with_reducible rfl
          try simp only [Act.put, List.setIfInBounds_toArray, List.set_cons_zero, List.set_cons_succ]
          refine wpAnyH_take (i := 59) (oi := ⟨some 119, _, _, _, _, _⟩) (v := ?vv59) rfl (by kernel_rfl) (by kernel_rfl) (by kernel_rfl) (fun _ _ _ h => h) (Or.inl ⟨by rfl, ?yv59⟩) hHeld ?rv59
          case yv59 =>
            intro wx hSx
            obtain ⟨y0, y1, y2, y3⟩ := HX.out wx hSx
            go_simp
            try with_reducible rfl
          try simp only [Act.put, List.setIfInBounds_toArray, List.set_cons_zero, List.set_cons_succ]
          refine wpAnyH_take (i := 61) (oi := ⟨some 121, _, _, _, _, _⟩) (v := ?vv61) rfl (by kernel_rfl) (by kernel_rfl) (by kernel_rfl) (fun _ _ _ h => h) (Or.inl ⟨by rfl, ?yv61⟩) hHeld ?rv61
          case yv61 =>
            intro wx hSx
            go_simp
            try with_reducible rfl
          try simp only [Act.put, List.setIfInBounds_toArray, List.set_cons_zero, List.set_cons_succ]
          refine wpAnyH_take (i := 62) (oi := ⟨some 122, _, _, _, _, _⟩) (v := ?vv62) rfl (by kernel_rfl) (by kernel_rfl) (by kernel_rfl) (fun _ _ _ h => h) (Or.inl ⟨by rfl, ?yv62⟩) hHeld ?rv62
          case yv62 =>
            intro wx hSx
            go_simp
            try with_reducible rfl
          try simp only [Act.put, List.setIfInBounds_toArray, List.set_cons_zero, List.set_cons_succ]
          refine wpAnyH_take (i := 63) (oi := ⟨some 123, _, _, _, _, _⟩) (v := ?vv63) rfl (by kernel_rfl) (by kernel_rfl) (by kernel_rfl) (fun _ _ _ h => h) (Or.inl ⟨by rfl, ?yv63⟩) hHeld ?rv63
          case yv63 =>
            intro wx hSx
            go_simp
            try with_reducible rfl
          try simp only [Act.put, List.setIfInBounds_toArray, List.set_cons_zero, List.set_cons_succ]
          refine wpAnyH_take (i := 64) (oi := ⟨some 124, _, _, _, _, _⟩) (v := ?vv64) rfl (by kernel_rfl) (by kernel_rfl) (by kernel_rfl) (fun _ _ _ h => h) (Or.inl ⟨by rfl, ?yv64⟩) hHeld ?rv64
          case yv64 =>
            intro wx hSx
            obtain ⟨y0, y1, y2, y3⟩ := HZ.out wx hSx
            go_simp
            try with_reducible rfl
          try simp only [Act.put, List.setIfInBounds_toArray, List.set_cons_zero, List.set_cons_succ]
          refine wpAnyH_ready (rs := [60]) (by kernel_rfl) (by simp) ?_
          refine AllReadyH.cons (o := ⟨some 120, _, _, _, _, _⟩) rfl (fun K hK => ?_) AllReadyH.nil
          go_simp
          refine (HOX.out _).mono ?_
          rintro e wnv60 ⟨rfl, hgn⟩
          refine hK.out _ _ (hHeld.on hgn.below) (fun hHeld => ?_)
          clear hK K hgn
          try simp only [Act.put, List.setIfInBounds_toArray, List.set_cons_zero, List.set_cons_succ]
          refine wpAnyH_ready (rs := [65]) (by kernel_rfl) (by simp) ?_
          refine AllReadyH.cons (o := ⟨some 125, _, _, _, _, _⟩) rfl (fun K hK => ?_) AllReadyH.nil
          go_simp
          refine (HOZ.out _).mono ?_
          rintro e wnv65 ⟨rfl, hgn⟩
          refine hK.out _ _ (hHeld.on hgn.below) (fun hHeld => ?_)
          clear hK K hgn
          try simp only [Act.put, List.setIfInBounds_toArray, List.set_cons_zero, List.set_cons_succ]
          refine wpAnyH_ready (rs := [66]) (by kernel_rfl) (by simp) ?_
          refine AllReadyH.cons (o := ⟨some 126, _, _, _, _, _⟩) rfl (fun K hK => ?_) AllReadyH.nil
          go_simp
          refine (HCP.out _).mono ?_
          rintro e wnv66 ⟨rfl, hgn⟩
          refine hK.out _ _ (hHeld.on hgn.below) (fun hHeld => ?_)
          clear hK K hgn
          try simp only [Act.put, List.setIfInBounds_toArray, List.set_cons_zero, List.set_cons_succ]
          refine wpAnyH_take (i := 67) (oi := ⟨some 127, _, _, _, _, _⟩) (v := ?vv67) rfl (by kernel_rfl) (by kernel_rfl) (by kernel_rfl) (fun _ _ _ h => h) (Or.inl ⟨by rfl, ?yv67⟩) hHeld ?rv67
          case yv67 =>
            intro wx hSx
            go_simp
            try with_reducible rfl
          try simp only [Act.put, List.setIfInBounds_toArray, List.set_cons_zero, List.set_cons_succ]
          refine wpAnyH_take (i := 68) (oi := ⟨some 128, _, _, _, _, _⟩) (v := ?vv68) rfl (by kernel_rfl) (by kernel_rfl) (by kernel_rfl) (fun _ _ _ h => h) (Or.inl ⟨by rfl, ?yv68⟩) hHeld ?rv68
          case yv68 =>
            intro wx hSx
            go_simp
            try with_reducible rfl
          try simp only [Act.put, List.setIfInBounds_toArray, List.set_cons_zero, List.set_cons_succ]
          refine wpAnyH_take (i := 69) (oi := ⟨some 129, _, _, _, _, _⟩) (v := ?vv69) rfl (by kernel_rfl) (by kernel_rfl) (by kernel_rfl) (fun _ _ _ h => h) (Or.inl ⟨by rfl, ?yv69⟩) hHeld ?rv69
          case yv69 =>
            intro wx hSx
            go_simp
            try with_reducible rfl
          try simp only [Act.put, List.setIfInBounds_toArray, List.set_cons_zero, List.set_cons_succ]
          refine wpAnyH_done (by kernel_rfl) ?_ _
          have HH := Lib.hid hHeld
          clear hHeld
          go_wp2_with fail
          refine ⟨⟨i + 1, by go_num, by omega, HH⟩, ?_⟩
          simp [intOf]; omega
        · have m2 : decide (m ≤ 0) = false := decide_eq_false hm
          refine wpAnyH_take (i := 53) (oi := ⟨some 113, _, _, _, _, _⟩) (v := ?vx53) rfl (by kernel_rfl) (by kernel_rfl) (by kernel_rfl) (fun _ _ _ h => h) (Or.inl ⟨by rfl, ?yx53⟩) hHeld ?rx53
          case yx53 =>
            intro wx hSx
            go_simp
            try with_reducible rfl
          try simp only [Act.put, List.setIfInBounds_toArray, List.set_cons_zero, List.set_cons_succ]
          refine wpAnyH_take (i := 54) (oi := ⟨some 114, _, _, _, _, _⟩) (v := ?vx54) rfl (by kernel_rfl) (by kernel_rfl) (by kernel_rfl) (fun _ _ _ h => h) (Or.inl ⟨by rfl, ?yx54⟩) hHeld ?rx54
          case yx54 =>
            intro wx hSx
            go_simp
            try with_reducible rfl
          try simp only [Act.put, List.setIfInBounds_toArray, List.set_cons_zero, List.set_cons_succ]
          refine wpAnyH_take (i := 55) (oi := ⟨some 115, _, _, _, _, _⟩) (v := ?vx55) rfl (by kernel_rfl) (by kernel_rfl) (by kernel_rfl) (fun _ _ _ h => h) (Or.inl ⟨by rfl, ?yx55⟩) hHeld ?rx55
          case yx55 =>
            intro wx hSx
            go_simp
            try with_reducible rfl
          try simp only [Act.put, List.setIfInBounds_toArray, List.set_cons_zero, List.set_cons_succ]
          refine wpAnyH_take (i := 56) (oi := ⟨some 116, _, _, _, _, _⟩) (v := undef) rfl (by kernel_rfl) (by kernel_rfl) (by kernel_rfl) (fun _ _ _ h => h) (Or.inr ⟨by rfl, rfl⟩) hHeld ?rx56
          try simp only [Act.put, List.setIfInBounds_toArray, List.set_cons_zero, List.set_cons_succ]
          refine wpAnyH_take (i := 57) (oi := ⟨some 117, _, _, _, _, _⟩) (v := undef) rfl (by kernel_rfl) (by kernel_rfl) (by kernel_rfl) (fun _ _ _ h => h) (Or.inr ⟨by rfl, rfl⟩) hHeld ?rx57
          try simp only [Act.put, List.setIfInBounds_toArray, List.set_cons_zero, List.set_cons_succ]
          refine wpAnyH_take (i := 58) (oi := ⟨some 118, _, _, _, _, _⟩) (v := undef) rfl (by kernel_rfl) (by kernel_rfl) (by kernel_rfl) (fun _ _ _ h => h) (Or.inr ⟨by rfl, rfl⟩) hHeld ?rx58
          try simp only [Act.put, List.setIfInBounds_toArray, List.set_cons_zero, List.set_cons_succ]
          refine wpAnyH_take (i := 59) (oi := ⟨some 119, _, _, _, _, _⟩) (v := undef) rfl (by kernel_rfl) (by kernel_rfl) (by kernel_rfl) (fun _ _ _ h => h) (Or.inr ⟨by rfl, rfl⟩) hHeld ?rx59
          try simp only [Act.put, List.setIfInBounds_toArray, List.set_cons_zero, List.set_cons_succ]
          refine wpAnyH_take (i := 60) (oi := ⟨some 120, _, _, _, _, _⟩) (v := undef) rfl (by kernel_rfl) (by kernel_rfl) (by kernel_rfl) (fun _ _ _ h => h) (Or.inr ⟨by rfl, rfl⟩) hHeld ?rx60
          try simp only [Act.put, List.setIfInBounds_toArray, List.set_cons_zero, List.set_cons_succ]
          refine wpAnyH_take (i := 61) (oi := ⟨some 121, _, _, _, _, _⟩) (v := undef) rfl (by kernel_rfl) (by kernel_rfl) (by kernel_rfl) (fun _ _ _ h => h) (Or.inr ⟨by rfl, rfl⟩) hHeld ?rx61
          try simp only [Act.put, List.setIfInBounds_toArray, List.set_cons_zero, List.set_cons_succ]
          refine wpAnyH_take (i := 62) (oi := ⟨some 122, _, _, _, _, _⟩) (v := undef) rfl (by kernel_rfl) (by kernel_rfl) (by kernel_rfl) (fun _ _ _ h => h) (Or.inr ⟨by rfl, rfl⟩) hHeld ?rx62
          try simp only [Act.put, List.setIfInBounds_toArray, List.set_cons_zero, List.set_cons_succ]
          refine wpAnyH_take (i := 63) (oi := ⟨some 123, _, _, _, _, _⟩) (v := undef) rfl (by kernel_rfl) (by kernel_rfl) (by kernel_rfl) (fun _ _ _ h => h) (Or.inr ⟨by rfl, rfl⟩) hHeld ?rx63
          try simp only [Act.put, List.setIfInBounds_toArray, List.set_cons_zero, List.set_cons_succ]
          refine wpAnyH_take (i := 64) (oi := ⟨some 124, _, _, _, _, _⟩) (v := undef) rfl (by kernel_rfl) (by kernel_rfl) (by kernel_rfl) (fun _ _ _ h => h) (Or.inr ⟨by rfl, rfl⟩) hHeld ?rx64
          try simp only [Act.put, List.setIfInBounds_toArray, List.set_cons_zero, List.set_cons_succ]
          refine wpAnyH_take (i := 65) (oi := ⟨some 125, _, _, _, _, _⟩) (v := undef) rfl (by kernel_rfl) (by kernel_rfl) (by kernel_rfl) (fun _ _ _ h => h) (Or.inr ⟨by rfl, rfl⟩) hHeld ?rx65
          try simp only [Act.put, List.setIfInBounds_toArray, List.set_cons_zero, List.set_cons_succ]
          refine wpAnyH_take (i := 66) (oi := ⟨some 126, _, _, _, _, _⟩) (v := undef) rfl (by kernel_rfl) (by kernel_rfl) (by kernel_rfl) (fun _ _ _ h => h) (Or.inr ⟨by rfl, rfl⟩) hHeld ?rx66
          try simp only [Act.put, List.setIfInBounds_toArray, List.set_cons_zero, List.set_cons_succ]
          refine wpAnyH_take (i := 67) (oi := ⟨some 127, _, _, _, _, _⟩) (v := undef) rfl (by kernel_rfl) (by kernel_rfl) (by kernel_rfl) (fun _ _ _ h => h) (Or.inr ⟨by rfl, rfl⟩) hHeld ?rx67
          try simp only [Act.put, List.setIfInBounds_toArray, List.set_cons_zero, List.set_cons_succ]
          refine wpAnyH_take (i := 68) (oi := ⟨some 128, _, _, _, _, _⟩) (v := ?vx68) rfl (by kernel_rfl) (by kernel_rfl) (by kernel_rfl) (fun _ _ _ h => h) (Or.inl ⟨by rfl, ?yx68⟩) hHeld ?rx68
          case yx68 =>
            intro wx hSx
            go_simp
            try with_reducible rfl
          try simp only [Act.put, List.setIfInBounds_toArray, List.set_cons_zero, List.set_cons_succ]
          refine wpAnyH_take (i := 69) (oi := ⟨some 129, _, _, _, _, _⟩) (v := ?vx69) rfl (by kernel_rfl) (by kernel_rfl) (by kernel_rfl) (fun _ _ _ h => h) (Or.inl ⟨by rfl, ?yx69⟩) hHeld ?rx69
          case yx69 =>
            intro wx hSx
            go_simp
            try with_reducible rfl
          try simp only [Act.put, List.setIfInBounds_toArray, List.set_cons_zero, List.set_cons_succ]
          refine wpAnyH_done (by kernel_rfl) ?_ _
          have HH := Lib.hid hHeld
          clear hHeld
          go_wp2_with fail
          refine ⟨⟨i + 1, by go_num, by omega, HH⟩, ?_⟩
          simp [intOf]; omega
      · have m1 : decide (n ≤ 0) = false := decide_eq_false hn
        refine wpAnyH_take (i := 50) (oi := ⟨some 110, _, _, _, _, _⟩) (v := ?vy50) rfl (by kernel_rfl) (by kernel_rfl) (by kernel_rfl) (fun _ _ _ h => h) (Or.inl ⟨by rfl, ?yy50⟩) hHeld ?ry50
        case yy50 =>
          intro wx hSx
          go_simp
          try with_reducible rfl
        try simp only [Act.put, List.setIfInBounds_toArray, List.set_cons_zero, List.set_cons_succ]
        refine wpAnyH_take (i := 51) (oi := ⟨some 111, _, _, _, _, _⟩) (v := ?vy51) rfl (by kernel_rfl) (by kernel_rfl) (by kernel_rfl) (fun _ _ _ h => h) (Or.inl ⟨by rfl, ?yy51⟩) hHeld ?ry51
        case yy51 =>
          intro wx hSx
          go_simp
          try with_reducible rfl
        try simp only [Act.put, List.setIfInBounds_toArray, List.set_cons_zero, List.set_cons_succ]
        refine wpAnyH_take (i := 52) (oi := ⟨some 112, _, _, _, _, _⟩) (v := undef) rfl (by kernel_rfl) (by kernel_rfl) (by kernel_rfl) (fun _ _ _ h => h) (Or.inr ⟨by rfl, rfl⟩) hHeld ?ry52
        try simp only [Act.put, List.setIfInBounds_toArray, List.set_cons_zero, List.set_cons_succ]
        refine wpAnyH_take (i := 53) (oi := ⟨some 113, _, _, _, _, _⟩) (v := undef) rfl (by kernel_rfl) (by kernel_rfl) (by kernel_rfl) (fun _ _ _ h => h) (Or.inr ⟨by rfl, rfl⟩) hHeld ?ry53
        try simp only [Act.put, List.setIfInBounds_toArray, List.set_cons_zero, List.set_cons_succ]
        refine wpAnyH_take (i := 54) (oi := ⟨some 114, _, _, _, _, _⟩) (v := ?vy54) rfl (by kernel_rfl) (by kernel_rfl) (by kernel_rfl) (fun _ _ _ h => h) (Or.inl ⟨by rfl, ?yy54⟩) hHeld ?ry54
        case yy54 =>
          intro wx hSx
          go_simp
          try with_reducible rfl
        try simp only [Act.put, List.setIfInBounds_toArray, List.set_cons_zero, List.set_cons_succ]
        refine wpAnyH_take (i := 55) (oi := ⟨some 115, _, _, _, _, _⟩) (v := ?vy55) rfl (by kernel_rfl) (by kernel_rfl) (by kernel_rfl) (fun _ _ _ h => h) (Or.inl ⟨by rfl, ?yy55⟩) hHeld ?ry55
        case yy55 =>
          intro wx hSx
          go_simp
          try with_reducible rfl
        try simp only [Act.put, List.setIfInBounds_toArray, List.set_cons_zero, List.set_cons_succ]
        refine wpAnyH_take (i := 56) (oi := ⟨some 116, _, _, _, _, _⟩) (v := undef) rfl (by kernel_rfl) (by kernel_rfl) (by kernel_rfl) (fun _ _ _ h => h) (Or.inr ⟨by rfl, rfl⟩) hHeld ?ry56
        try simp only [Act.put, List.setIfInBounds_toArray, List.set_cons_zero, List.set_cons_succ]
        refine wpAnyH_take (i := 57) (oi := ⟨some 117, _, _, _, _, _⟩) (v := undef) rfl (by kernel_rfl) (by kernel_rfl) (by kernel_rfl) (fun _ _ _ h => h) (Or.inr ⟨by rfl, rfl⟩) hHeld ?ry57
        try simp only [Act.put, List.setIfInBounds_toArray, List.set_cons_zero, List.set_cons_succ]
        refine wpAnyH_take (i := 58) (oi := ⟨some 118, _, _, _, _, _⟩) (v := undef) rfl (by kernel_rfl) (by kernel_rfl) (by kernel_rfl) (fun _ _ _ h => h) (Or.inr ⟨by rfl, rfl⟩) hHeld ?ry58
        try simp only [Act.put, List.setIfInBounds_toArray, List.set_cons_zero, List.set_cons_succ]
        refine wpAnyH_take (i := 59) (oi := ⟨some 119, _, _, _, _, _⟩) (v := undef) rfl (by kernel_rfl) (by kernel_rfl) (by kernel_rfl) (fun _ _ _ h => h) (Or.inr ⟨by rfl, rfl⟩) hHeld ?ry59
        try simp only [Act.put, List.setIfInBounds_toArray, List.set_cons_zero, List.set_cons_succ]
        refine wpAnyH_take (i := 60) (oi := ⟨some 120, _, _, _, _, _⟩) (v := undef) rfl (by kernel_rfl) (by kernel_rfl) (by kernel_rfl) (fun _ _ _ h => h) (Or.inr ⟨by rfl, rfl⟩) hHeld ?ry60
        try simp only [Act.put, List.setIfInBounds_toArray, List.set_cons_zero, List.set_cons_succ]
        refine wpAnyH_take (i := 61) (oi := ⟨some 121, _, _, _, _, _⟩) (v := undef) rfl (by kernel_rfl) (by kernel_rfl) (by kernel_rfl) (fun _ _ _ h => h) (Or.inr ⟨by rfl, rfl⟩) hHeld ?ry61
        try simp only [Act.put, List.setIfInBounds_toArray, List.set_cons_zero, List.set_cons_succ]
        refine wpAnyH_take (i := 62) (oi := ⟨some 122, _, _, _, _, _⟩) (v := undef) rfl (by kernel_rfl) (by kernel_rfl) (by kernel_rfl) (fun _ _ _ h => h) (Or.inr ⟨by rfl, rfl⟩) hHeld ?ry62
        try simp only [Act.put, List.setIfInBounds_toArray, List.set_cons_zero, List.set_cons_succ]
        refine wpAnyH_take (i := 63) (oi := ⟨some 123, _, _, _, _, _⟩) (v := undef) rfl (by kernel_rfl) (by kernel_rfl) (by kernel_rfl) (fun _ _ _ h => h) (Or.inr ⟨by rfl, rfl⟩) hHeld ?ry63
        try simp only [Act.put, List.setIfInBounds_toArray, List.set_cons_zero, List.set_cons_succ]
        refine wpAnyH_take (i := 64) (oi := ⟨some 124, _, _, _, _, _⟩) (v := undef) rfl (by kernel_rfl) (by kernel_rfl) (by kernel_rfl) (fun _ _ _ h => h) (Or.inr ⟨by rfl, rfl⟩) hHeld ?ry64
        try simp only [Act.put, List.setIfInBounds_toArray, List.set_cons_zero, List.set_cons_succ]
        refine wpAnyH_take (i := 65) (oi := ⟨some 125, _, _, _, _, _⟩) (v := undef) rfl (by kernel_rfl) (by kernel_rfl) (by kernel_rfl) (fun _ _ _ h => h) (Or.inr ⟨by rfl, rfl⟩) hHeld ?ry65
        try simp only [Act.put, List.setIfInBounds_toArray, List.set_cons_zero, List.set_cons_succ]
        refine wpAnyH_take (i := 66) (oi := ⟨some 126, _, _, _, _, _⟩) (v := undef) rfl (by kernel_rfl) (by kernel_rfl) (by kernel_rfl) (fun _ _ _ h => h) (Or.inr ⟨by rfl, rfl⟩) hHeld ?ry66
        try simp only [Act.put, List.setIfInBounds_toArray, List.set_cons_zero, List.set_cons_succ]
        refine wpAnyH_take (i := 67) (oi := ⟨some 127, _, _, _, _, _⟩) (v := undef) rfl (by kernel_rfl) (by kernel_rfl) (by kernel_rfl) (fun _ _ _ h => h) (Or.inr ⟨by rfl, rfl⟩) hHeld ?ry67
        try simp only [Act.put, List.setIfInBounds_toArray, List.set_cons_zero, List.set_cons_succ]
        refine wpAnyH_take (i := 68) (oi := ⟨some 128, _, _, _, _, _⟩) (v := ?vy68) rfl (by kernel_rfl) (by kernel_rfl) (by kernel_rfl) (fun _ _ _ h => h) (Or.inl ⟨by rfl, ?yy68⟩) hHeld ?ry68
        case yy68 =>
          intro wx hSx
          go_simp
          try with_reducible rfl
        try simp only [Act.put, List.setIfInBounds_toArray, List.set_cons_zero, List.set_cons_succ]
        refine wpAnyH_take (i := 69) (oi := ⟨some 129, _, _, _, _, _⟩) (v := ?vy69) rfl (by kernel_rfl) (by kernel_rfl) (by kernel_rfl) (fun _ _ _ h => h) (Or.inl ⟨by rfl, ?yy69⟩) hHeld ?ry69
        case yy69 =>
          intro wx hSx
          go_simp
          try with_reducible rfl
        try simp only [Act.put, List.setIfInBounds_toArray, List.set_cons_zero, List.set_cons_succ]
        refine wpAnyH_done (by kernel_rfl) ?_ _
        have HH := Lib.hid hHeld
        clear hHeld
        go_wp2_with fail
        refine ⟨⟨i + 1, by go_num, by omega, HH⟩, ?_⟩
        simp [intOf]; omega
    · have q1 : decide ((i : Int) < 2) = false := decide_eq_false (by omega)
      go_wp2_with fail
      go_at_call 15
      refine (HLV.out _).mono ?_
      rintro e wl ⟨rfl, hbl⟩
      have HBL := Lib.hid (HA.out.below.trans (hbl.mono HA.out.below.size))
      clear hbl
      go_wp2_with fail
      go_ret
      exact ⟨rfl, HBL.out⟩
end Go.Proofs.Ytmialpaldkpmbaa
