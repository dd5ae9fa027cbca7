/-
  Package dag: the row of a dag's nodes, by their positions: collected, sorted.
-/
import Derived.Test.YtfbfdkibdjinaaaGreatDgE
import Derived.Test.YtfbfdkibdjinaaaGreatDgW
import Derived.Test.YtfbfdkibdjinaaaGreatSort
import Derived.BigQuiet
namespace Go.Proofs.YtfbfdkibdjinaaaGreat
set_option maxRecDepth 20000
open Go.RowKit
set_option linter.unusedVariables false
set_option linter.unusedSimpArgs false

set_option maxHeartbeats 1600000 in
theorem compare_gr (a b : Po) (w : World) : Calls Tryz.prog 88 #[.agg #[.int .i64 a.depth, .string a.id], .agg #[.int .i64 b.depth, .string b.id]] w fun e w' => e = .returned (.int .i64 (cmpP a b)) ∧ Gr w w' := by
  have hs1 : (w.alloc (.cells #[.int .i64 a.depth, .string a.id] 61)).heap.size = w.heap.size + 1 := by simp
  have H3 := Lib.hid (heap_alloc_new (w.alloc (.cells #[.int .i64 a.depth, .string a.id] 61)) (.cells #[.int .i64 b.depth, .string b.id] 61))
  have H2 := Lib.hid ((heap_alloc_old (w.alloc (.cells #[.int .i64 a.depth, .string a.id] 61)) (.cells #[.int .i64 b.depth, .string b.id] 61) (r := w.heap.size) (by rw [hs1]; omega)).trans (heap_alloc_new w _))
  have HB := Lib.hid (((Gr.refl w).alloc (.cells #[.int .i64 a.depth, .string a.id] 61)).alloc (.cells #[.int .i64 b.depth, .string b.id] 61))
  rw [hs1] at H3
  clear hs1
  have HQ1 := Lib.hid (fun W => Tryz.cmp_Compare_int a.depth b.depth W)
  have HQ2 := Lib.hid (fun W => Tryz.strings_Compare a.id b.id W)
  have HU := Lib.hid (cmpP_code a b)
  generalize Lib.compareInt a.depth b.depth = x at HQ1 HU
  generalize Lib.compareBytes a.id.data.toList b.id.data.toList = y at HQ2 HU
  go_enter Tryz.func88, Tryz.ntmps88
  go_upto_region 1 with (fail)
  generalize World.alloc _ _ = w1 at H2 H3 HB ⊢
  generalize w.heap.size + 1 = B3 at H3 ⊢
  generalize hB2 : w.heap.size = B2 at H2 ⊢
  have HS : w1.drew.cell? ⟨B2, 0, none⟩ = some (.int .i64 a.depth) ∧ w1.drew.cell? ⟨B2, 1, none⟩ = some (.string a.id) ∧ w1.drew.cell? ⟨B3, 0, none⟩ = some (.int .i64 b.depth) ∧ w1.drew.cell? ⟨B3, 1, none⟩ = some (.string b.id) ∧ Gr w w1.drew := ⟨cell_at H2.out 0, cell_at H2.out 1, cell_at H3.out 0, cell_at H3.out 1, HB.out.drew⟩
  refine wp_region_held_drew (S := fun w' => w'.cell? ⟨B2, 0, none⟩ = some (.int .i64 a.depth) ∧ w'.cell? ⟨B2, 1, none⟩ = some (.string a.id) ∧ w'.cell? ⟨B3, 0, none⟩ = some (.int .i64 b.depth) ∧ w'.cell? ⟨B3, 1, none⟩ = some (.string b.id) ∧ Gr w w') (by kernel_rfl) HS (fun hHeld => ?_)
  clear HS H2 H3 HB
  generalize w1.drew = wd at hHeld ⊢
  refine wpAnyH_take (i := 0) (oi := ⟨some 5, _, _, _, _, _⟩) (v := ?vc0) rfl (by kernel_rfl) (by kernel_rfl) (by kernel_rfl) (fun _ _ _ h => h) (Or.inl ⟨by rfl, ?yc0⟩) hHeld ?rc0
  case yc0 =>
    intro wx hSx
    go_simp
    try with_reducible rfl
  try simp only [Act.put, List.setIfInBounds_toArray, List.set_cons_zero, List.set_cons_succ]
  refine wpAnyH_take (i := 2) (oi := ⟨some 7, _, _, _, _, _⟩) (v := ?vc2) rfl (by kernel_rfl) (by kernel_rfl) (by kernel_rfl) (fun _ _ _ h => h) (Or.inl ⟨by rfl, ?yc2⟩) hHeld ?rc2
  case yc2 =>
    intro wx hSx
    go_simp
    try with_reducible rfl
  try simp only [Act.put, List.setIfInBounds_toArray, List.set_cons_zero, List.set_cons_succ]
  refine wpAnyH_take (i := 5) (oi := ⟨some 10, _, _, _, _, _⟩) (v := ?vc5) rfl (by kernel_rfl) (by kernel_rfl) (by kernel_rfl) (fun _ _ _ h => h) (Or.inl ⟨by rfl, ?yc5⟩) hHeld ?rc5
  case yc5 =>
    intro wx hSx
    go_simp
    try with_reducible rfl
  try simp only [Act.put, List.setIfInBounds_toArray, List.set_cons_zero, List.set_cons_succ]
  refine wpAnyH_take (i := 7) (oi := ⟨some 12, _, _, _, _, _⟩) (v := ?vc7) rfl (by kernel_rfl) (by kernel_rfl) (by kernel_rfl) (fun _ _ _ h => h) (Or.inl ⟨by rfl, ?yc7⟩) hHeld ?rc7
  case yc7 =>
    intro wx hSx
    go_simp
    try with_reducible rfl
  try simp only [Act.put, List.setIfInBounds_toArray, List.set_cons_zero, List.set_cons_succ]
  refine wpAnyH_take (i := 1) (oi := ⟨some 6, _, _, _, _, _⟩) (v := ?vc1) rfl (by kernel_rfl) (by kernel_rfl) (by kernel_rfl) (fun _ _ _ h => h) (Or.inl ⟨by rfl, ?yc1⟩) hHeld ?rc1
  case yc1 =>
    intro wx hSx
    obtain ⟨z1, z2, z3, z4, -⟩ := hSx
    go_simp
    try with_reducible rfl
  try simp only [Act.put, List.setIfInBounds_toArray, List.set_cons_zero, List.set_cons_succ]
  refine wpAnyH_take (i := 3) (oi := ⟨some 8, _, _, _, _, _⟩) (v := ?vc3) rfl (by kernel_rfl) (by kernel_rfl) (by kernel_rfl) (fun _ _ _ h => h) (Or.inl ⟨by rfl, ?yc3⟩) hHeld ?rc3
  case yc3 =>
    intro wx hSx
    obtain ⟨z1, z2, z3, z4, -⟩ := hSx
    go_simp
    try with_reducible rfl
  try simp only [Act.put, List.setIfInBounds_toArray, List.set_cons_zero, List.set_cons_succ]
  refine wpAnyH_take (i := 6) (oi := ⟨some 11, _, _, _, _, _⟩) (v := ?vc6) rfl (by kernel_rfl) (by kernel_rfl) (by kernel_rfl) (fun _ _ _ h => h) (Or.inl ⟨by rfl, ?yc6⟩) hHeld ?rc6
  case yc6 =>
    intro wx hSx
    obtain ⟨z1, z2, z3, z4, -⟩ := hSx
    go_simp
    try with_reducible rfl
  try simp only [Act.put, List.setIfInBounds_toArray, List.set_cons_zero, List.set_cons_succ]
  refine wpAnyH_take (i := 8) (oi := ⟨some 13, _, _, _, _, _⟩) (v := ?vc8) rfl (by kernel_rfl) (by kernel_rfl) (by kernel_rfl) (fun _ _ _ h => h) (Or.inl ⟨by rfl, ?yc8⟩) hHeld ?rc8
  case yc8 =>
    intro wx hSx
    obtain ⟨z1, z2, z3, z4, -⟩ := hSx
    go_simp
    try with_reducible rfl
  try simp only [Act.put, List.setIfInBounds_toArray, List.set_cons_zero, List.set_cons_succ]
  refine anyH_asks (i := 4) (oi := ⟨some 9, _, _, _, _, _⟩) (v := .int .i64 x) rfl (by kernel_rfl) (by kernel_rfl) (by kernel_rfl) (fun _ _ _ h => h) ⟨by rfl, fun wx hSx => ⟨_, _, ?ec4, (HQ1.out _).mono (fun _ _ h => ⟨h.1, h.2.symm⟩)⟩⟩ hHeld ?rc4
  case ec4 => go_simp
  try simp only [Act.put, List.setIfInBounds_toArray, List.set_cons_zero, List.set_cons_succ]
  refine anyH_asks (i := 9) (oi := ⟨some 14, _, _, _, _, _⟩) (v := .int .i64 y) rfl (by kernel_rfl) (by kernel_rfl) (by kernel_rfl) (fun _ _ _ h => h) ⟨by rfl, fun wx hSx => ⟨_, _, ?ec9, (HQ2.out _).mono (fun _ _ h => ⟨h.1, h.2.symm⟩)⟩⟩ hHeld ?rc9
  case ec9 => go_simp
  try simp only [Act.put, List.setIfInBounds_toArray, List.set_cons_zero, List.set_cons_succ]
  refine wpAnyH_ready (rs := [10]) (by kernel_rfl) (by simp) ?_
  refine AllReadyH.cons (o := ⟨some 15, _, _, _, _, _⟩) rfl (fun K hK => ?_) AllReadyH.nil
  have hNW : (wd.alloc (.cells #[.int .i64 x, .int .i64 y] 3)).cell? ⟨B2, 0, none⟩ = some (.int .i64 a.depth) ∧ (wd.alloc (.cells #[.int .i64 x, .int .i64 y] 3)).cell? ⟨B2, 1, none⟩ = some (.string a.id) ∧ (wd.alloc (.cells #[.int .i64 x, .int .i64 y] 3)).cell? ⟨B3, 0, none⟩ = some (.int .i64 b.depth) ∧ (wd.alloc (.cells #[.int .i64 x, .int .i64 y] 3)).cell? ⟨B3, 1, none⟩ = some (.string b.id) ∧ Gr w (wd.alloc (.cells #[.int .i64 x, .int .i64 y] 3)) := by
    obtain ⟨z1, z2, z3, z4, z5⟩ := hHeld
    have bn := below_new wd (.cells #[.int .i64 x, .int .i64 y] 3)
    exact ⟨(bn.cell (World.block_lt_of_cell? _ _ z1)).trans z1, (bn.cell (World.block_lt_of_cell? _ _ z2)).trans z2, (bn.cell (World.block_lt_of_cell? _ _ z3)).trans z3, (bn.cell (World.block_lt_of_cell? _ _ z4)).trans z4, z5.alloc _⟩
  have hn := heap_alloc_new wd (.cells #[.int .i64 x, .int .i64 y] 3)
  go_simp
  refine hK.out _ _ hNW (fun hHeld => ?_)
  clear hK K hNW
  try simp only [Act.put, List.setIfInBounds_toArray, List.set_cons_zero, List.set_cons_succ]
  refine wpAnyH_ready (rs := [11]) (by kernel_rfl) (by simp) ?_
  refine AllReadyH.cons (o := ⟨some 16, _, _, _, _, _⟩) rfl (fun K hK => ?_) AllReadyH.nil
  go_simp
  refine (or_any x y wd.heap.size _ (cell_at hn 0) (cell_at hn 1)).mono ?_
  rintro e wn ⟨rfl, rfl⟩
  refine hK.out _ _ hHeld (fun hHeld => ?_)
  clear hK K
  try simp only [Act.put, List.setIfInBounds_toArray, List.set_cons_zero, List.set_cons_succ]
  refine wpAnyH_take (i := 12) (oi := ⟨some 4, _, _, _, _, _⟩) (v := ?vc12) rfl (by kernel_rfl) (by kernel_rfl) (by kernel_rfl) (fun _ _ _ h => h) (Or.inl ⟨by rfl, ?yc12⟩) hHeld ?rc12
  case yc12 =>
    intro wx hSx
    go_simp
    try with_reducible rfl
  try simp only [Act.put, List.setIfInBounds_toArray, List.set_cons_zero, List.set_cons_succ]
  refine wpAnyH_done (by kernel_rfl) ?_ _
  go_wp2_with fail
  go_ret
  exact ⟨by rw [← HU.out]; rfl, hHeld.2.2.2.2⟩

def NdV.po (n : NdV) : Po := ⟨(n.d : Int), n.x.ev.id⟩
set_option maxHeartbeats 800000 in
theorem position_gr (n : NdV) (w : World) : Calls Tryz.prog 89 #[.agg #[.string n.x.ev.id, .string n.x.ev.room, .slice n.x.A n.x.ev.parents.length n.x.cap, .string n.x.ev.thread, .string n.x.ev.user, .int .i64 n.x.ev.does, .int .i64 (n.d : Int)]] w fun e w' => e = .returned (.agg #[.int .i64 (n.d : Int), .string n.x.ev.id]) ∧ Gr w w' := by
  have HG := Lib.hid (((Gr.refl w).alloc (.cells #[.string n.x.ev.id, .string n.x.ev.room, .slice n.x.A n.x.ev.parents.length n.x.cap, .string n.x.ev.thread, .string n.x.ev.user, .int .i64 n.x.ev.does, .int .i64 (n.d : Int)] 78)).alloc (.cells #[.int .i64 (n.d : Int), .string n.x.ev.id] 61))
  go_enter Tryz.func89, Tryz.ntmps89
  go_wp2_with fail
  have hs1 : (w.alloc (.cells #[.string n.x.ev.id, .string n.x.ev.room, .slice n.x.A n.x.ev.parents.length n.x.cap, .string n.x.ev.thread, .string n.x.ev.user, .int .i64 n.x.ev.does, .int .i64 (n.d : Int)] 78)).heap.size = w.heap.size + 1 := by simp
  have hn := heap_alloc_new (w.alloc (.cells #[.string n.x.ev.id, .string n.x.ev.room, .slice n.x.A n.x.ev.parents.length n.x.cap, .string n.x.ev.thread, .string n.x.ev.user, .int .i64 n.x.ev.does, .int .i64 (n.d : Int)] 78)) (.cells #[.int .i64 (n.d : Int), .string n.x.ev.id] 61)
  rw [hs1] at hn
  have k0 := cell_at hn 0
  have k1 := cell_at hn 1
  simp only [List.getElem?_toArray, List.getElem?_cons_succ, List.getElem?_cons_zero] at k0 k1
  refine bodyPost_ret (v := .agg #[.int .i64 (n.d : Int), .string n.x.ev.id]) ?_ rfl ⟨rfl, HG.out⟩
  simp only [results, Tryz.results89, go_sem, k0, k1]
  simp [go_sem, k0, k1]

set_option maxHeartbeats 1600000 in
theorem row1_gr (x y : NdV) (w : World) : Calls Tryz.prog 87 #[.agg #[.string x.x.ev.id, .string x.x.ev.room, .slice x.x.A x.x.ev.parents.length x.x.cap, .string x.x.ev.thread, .string x.x.ev.user, .int .i64 x.x.ev.does, .int .i64 (x.d : Int)], .agg #[.string y.x.ev.id, .string y.x.ev.room, .slice y.x.A y.x.ev.parents.length y.x.cap, .string y.x.ev.thread, .string y.x.ev.user, .int .i64 y.x.ev.does, .int .i64 (y.d : Int)]] w fun e w' => e = .returned (.int .i64 (cmpP x.po y.po)) ∧ Gr w w' := by
  have hs1 : (w.alloc (.cells #[.string x.x.ev.id, .string x.x.ev.room, .slice x.x.A x.x.ev.parents.length x.x.cap, .string x.x.ev.thread, .string x.x.ev.user, .int .i64 x.x.ev.does, .int .i64 (x.d : Int)] 78)).heap.size = w.heap.size + 1 := by simp
  have H3 := Lib.hid (heap_alloc_new (w.alloc (.cells #[.string x.x.ev.id, .string x.x.ev.room, .slice x.x.A x.x.ev.parents.length x.x.cap, .string x.x.ev.thread, .string x.x.ev.user, .int .i64 x.x.ev.does, .int .i64 (x.d : Int)] 78)) (.cells #[.string y.x.ev.id, .string y.x.ev.room, .slice y.x.A y.x.ev.parents.length y.x.cap, .string y.x.ev.thread, .string y.x.ev.user, .int .i64 y.x.ev.does, .int .i64 (y.d : Int)] 78))
  have H2 := Lib.hid ((heap_alloc_old (w.alloc (.cells #[.string x.x.ev.id, .string x.x.ev.room, .slice x.x.A x.x.ev.parents.length x.x.cap, .string x.x.ev.thread, .string x.x.ev.user, .int .i64 x.x.ev.does, .int .i64 (x.d : Int)] 78)) (.cells #[.string y.x.ev.id, .string y.x.ev.room, .slice y.x.A y.x.ev.parents.length y.x.cap, .string y.x.ev.thread, .string y.x.ev.user, .int .i64 y.x.ev.does, .int .i64 (y.d : Int)] 78) (r := w.heap.size) (by rw [hs1]; omega)).trans (heap_alloc_new w _))
  have HB := Lib.hid (((Gr.refl w).alloc (.cells #[.string x.x.ev.id, .string x.x.ev.room, .slice x.x.A x.x.ev.parents.length x.x.cap, .string x.x.ev.thread, .string x.x.ev.user, .int .i64 x.x.ev.does, .int .i64 (x.d : Int)] 78)).alloc (.cells #[.string y.x.ev.id, .string y.x.ev.room, .slice y.x.A y.x.ev.parents.length y.x.cap, .string y.x.ev.thread, .string y.x.ev.user, .int .i64 y.x.ev.does, .int .i64 (y.d : Int)] 78))
  rw [hs1] at H3
  clear hs1
  have HP1 := Lib.hid (fun W => position_gr x W)
  have HP2 := Lib.hid (fun W => position_gr y W)
  have HCM := Lib.hid (fun W => compare_gr x.po y.po W)
  unfold NdV.po at HCM
  go_enter Tryz.func87, Tryz.ntmps87
  go_upto_region 1 with (fail)
  generalize World.alloc _ _ = w1 at H2 H3 HB ⊢
  generalize w.heap.size + 1 = B3 at H3 ⊢
  generalize hB2 : w.heap.size = B2 at H2 ⊢
  refine wp_region_held_drew (S := fun w' => w'.heap[B2]? = some (.cells #[.string x.x.ev.id, .string x.x.ev.room, .slice x.x.A x.x.ev.parents.length x.x.cap, .string x.x.ev.thread, .string x.x.ev.user, .int .i64 x.x.ev.does, .int .i64 (x.d : Int)] 78 (0, 0)) ∧ w'.heap[B3]? = some (.cells #[.string y.x.ev.id, .string y.x.ev.room, .slice y.x.A y.x.ev.parents.length y.x.cap, .string y.x.ev.thread, .string y.x.ev.user, .int .i64 y.x.ev.does, .int .i64 (y.d : Int)] 78 (0, 0)) ∧ Gr w w') (by kernel_rfl) ⟨H2.out, H3.out, HB.out.drew⟩ (fun hHeld => ?_)
  clear H2 H3 HB
  generalize w1.drew = wd at hHeld ⊢
  refine wpAnyH_take (i := 0) (oi := ⟨some 5, _, _, _, _, _⟩) (v := ?vr0) rfl (by kernel_rfl) (by kernel_rfl) (by kernel_rfl) (fun _ _ _ h => h) (Or.inl ⟨by rfl, ?yr0⟩) hHeld ?rr0
  case yr0 =>
    intro wx hSx
    have p0 := cell_at hSx.1 0
    have p1 := cell_at hSx.1 1
    have p2 := cell_at hSx.1 2
    have p3 := cell_at hSx.1 3
    have p4 := cell_at hSx.1 4
    have p5 := cell_at hSx.1 5
    have p6 := cell_at hSx.1 6
    simp only [List.getElem?_toArray, List.getElem?_cons_succ, List.getElem?_cons_zero] at p0 p1 p2 p3 p4 p5 p6
    go_simp
    try with_reducible rfl
  try simp only [Act.put, List.setIfInBounds_toArray, List.set_cons_zero, List.set_cons_succ]
  refine wpAnyH_take (i := 2) (oi := ⟨some 7, _, _, _, _, _⟩) (v := ?vr2) rfl (by kernel_rfl) (by kernel_rfl) (by kernel_rfl) (fun _ _ _ h => h) (Or.inl ⟨by rfl, ?yr2⟩) hHeld ?rr2
  case yr2 =>
    intro wx hSx
    have p0 := cell_at hSx.2.1 0
    have p1 := cell_at hSx.2.1 1
    have p2 := cell_at hSx.2.1 2
    have p3 := cell_at hSx.2.1 3
    have p4 := cell_at hSx.2.1 4
    have p5 := cell_at hSx.2.1 5
    have p6 := cell_at hSx.2.1 6
    simp only [List.getElem?_toArray, List.getElem?_cons_succ, List.getElem?_cons_zero] at p0 p1 p2 p3 p4 p5 p6
    go_simp
    try with_reducible rfl
  try simp only [Act.put, List.setIfInBounds_toArray, List.set_cons_zero, List.set_cons_succ]
  refine wpAnyH_ready (rs := [1]) (by kernel_rfl) (by simp) ?_
  refine AllReadyH.cons (o := ⟨some 6, _, _, _, _, _⟩) rfl (fun K hK => ?_) AllReadyH.nil
  go_simp
  refine (HP1.out _).mono ?_
  rintro e wn ⟨rfl, hgn⟩
  have hbn := Gr.below hgn
  refine hK.out _ _ ⟨(hbn.block B2 (smem_lt hHeld.1)).trans hHeld.1, (hbn.block B3 (smem_lt hHeld.2.1)).trans hHeld.2.1, hHeld.2.2.trans hgn⟩ (fun hHeld => ?_)
  clear hK K hbn hgn
  try simp only [Act.put, List.setIfInBounds_toArray, List.set_cons_zero, List.set_cons_succ]
  generalize wn = wd at hHeld ⊢
  refine wpAnyH_ready (rs := [3]) (by kernel_rfl) (by simp) ?_
  refine AllReadyH.cons (o := ⟨some 8, _, _, _, _, _⟩) rfl (fun K hK => ?_) AllReadyH.nil
  go_simp
  refine (HP2.out _).mono ?_
  rintro e wn ⟨rfl, hgn⟩
  have hbn := Gr.below hgn
  refine hK.out _ _ ⟨(hbn.block B2 (smem_lt hHeld.1)).trans hHeld.1, (hbn.block B3 (smem_lt hHeld.2.1)).trans hHeld.2.1, hHeld.2.2.trans hgn⟩ (fun hHeld => ?_)
  clear hK K hbn hgn
  try simp only [Act.put, List.setIfInBounds_toArray, List.set_cons_zero, List.set_cons_succ]
  generalize wn = wd at hHeld ⊢
  refine wpAnyH_ready (rs := [4]) (by kernel_rfl) (by simp) ?_
  refine AllReadyH.cons (o := ⟨some 9, _, _, _, _, _⟩) rfl (fun K hK => ?_) AllReadyH.nil
  go_simp
  refine (HCM.out _).mono ?_
  rintro e wn ⟨rfl, hgn⟩
  have hbn := Gr.below hgn
  refine hK.out _ _ ⟨(hbn.block B2 (smem_lt hHeld.1)).trans hHeld.1, (hbn.block B3 (smem_lt hHeld.2.1)).trans hHeld.2.1, hHeld.2.2.trans hgn⟩ (fun hHeld => ?_)
  clear hK K hbn hgn
  try simp only [Act.put, List.setIfInBounds_toArray, List.set_cons_zero, List.set_cons_succ]
  generalize wn = wd at hHeld ⊢
  refine wpAnyH_take (i := 5) (oi := ⟨some 4, _, _, _, _, _⟩) (v := ?vr5) rfl (by kernel_rfl) (by kernel_rfl) (by kernel_rfl) (fun _ _ _ h => h) (Or.inl ⟨by rfl, ?yr5⟩) hHeld ?rr5
  case yr5 =>
    intro wx hSx
    go_simp
    try with_reducible rfl
  try simp only [Act.put, List.setIfInBounds_toArray, List.set_cons_zero, List.set_cons_succ]
  refine wpAnyH_done (by kernel_rfl) ?_ _
  go_wp2_with fail
  go_ret
  exact ⟨rfl, hHeld.2.2⟩

instance : Inhabited NdV := ⟨⟨⟨⟨⟨#[]⟩, ⟨#[]⟩, [], ⟨#[]⟩, ⟨#[]⟩, 0⟩, none, 0⟩, 0⟩⟩
def cmpN (x y : NdV) : Int := cmpP x.po y.po
theorem lt_cmpN (x y : NdV) : ltOf cmpN x y = beforeP x.po y.po := by
  unfold ltOf cmpN cmpP
  cases beforeP x.po y.po
  · cases beforeP y.po x.po <;> rfl
  · rfl
theorem swo_cmpN : Sort.SWO (ltOf cmpN) where
  irrefl x := by rw [lt_cmpN]; exact pos_irrefl _
  trans x y z h1 h2 := by rw [lt_cmpN] at *; exact pos_trans h1 h2
  ntrans x y z h1 h2 := by
    rw [lt_cmpN] at *
    rw [Bool.eq_false_iff]
    intro hc
    by_cases e : x.po = y.po
    · rw [e, h2] at hc; cases hc
    · rcases pos_total e with k | k
      · rw [h1] at k; cases k
      · rw [pos_trans k hc] at h2; cases h2
theorem flat_vsN (d : Array NdV) (j : Nat) (hj : j < d.size * 7) : (LN.vs d.toList)[j]? = some (Sort.flatK LN.cl 7 d)[j]! := by
  rw [Sort.get_flatK _ _ _ _ hj]
  have h1 : d.toList[j / 7]? = some d[j / 7]! := by
    rw [Array.getElem?_toList, getElem!_pos d (j / 7) (by omega), Array.getElem?_eq_getElem (by omega)]
  have h2 : (LN.cl d[j / 7]!)[j % 7]? = some (LN.cl d[j / 7]!)[j % 7]! := by
    have : j % 7 < (LN.cl d[j / 7]!).length := by rw [LN.len]; exact Nat.mod_lt _ (by decide)
    rw [List.getElem?_eq_getElem this, getElem!_pos (LN.cl d[j / 7]!) (j % 7) this]
  have := LN.vs_get h1 h2
  rw [show j / 7 * LN.c + j % 7 = j by rw [show LN.c = 7 from rfl]; omega] at this
  exact this
theorem holds_mineN {w : World} {B b off n cap : Nat} {xs : List NdV} (h : LN.Mine w B (.slice (some ⟨b, off, none⟩) n cap) xs) : Sort.HoldsK LN.cl 7 w b off xs.toArray := by
  intro j hj
  rw [Sort.size_flatK, List.size_toArray] at hj
  have hv := flat_vsN xs.toArray j (by rw [List.size_toArray]; exact hj)
  rw [List.toList_toArray] at hv
  rcases h with ⟨hv', _⟩ | ⟨g', off', cap', cur, hv', hg, hh, h1, h2, h3, h4⟩
  · cases hv'
  · injection hv' with e1 e2 e3
    injection e1 with e1
    injection e1 with e4 e5 _
    subst e4 e5 e3
    refine ⟨?_, by simp [World.frozen?, hh]⟩
    rw [cell_of_row w b (off + j) cur _ _ hh, ← Array.getElem?_toList]
    rw [← h4, List.getElem?_take, if_pos (by rw [show LN.c = 7 from rfl]; exact hj), List.getElem?_drop] at hv
    exact hv
theorem mine_sortedN {w : World} {B b off n cap q : Nat} {xs : List NdV} (h : LN.Mine w B (.slice (some ⟨b, off, none⟩) n cap) xs) (d : Array NdV) (hd : d.size = xs.length) (os : Array Obj) : LN.Mine (sortWorldK LN.cl 7 w b off q d os) B (.slice (some ⟨b, off, none⟩) n cap) d.toList ∧ Below B w (sortWorldK LN.cl 7 w b off q d os) := by
  rcases h with ⟨hv', _⟩ | ⟨g', off', cap', cur, hv', hg, hh, h1, h2, h3, h4⟩
  · cases hv'
  · injection hv' with e1 e2 e3
    injection e1 with e1
    injection e1 with e4 e5 _
    subst e4 e5 e3
    have hb := smem_lt hh
    have hp : ∀ k, (Sort.putRowK LN.cl 7 (Sort.ahead w q) b off d).heap[k]? = if k = b then some (.cells (Sort.putCells id off (Sort.flatK LN.cl 7 d) cur) LN.e (0, 0)) else w.heap[k]? := by
      intro k
      show (w.heap.modify b _)[k]? = _
      rw [Array.getElem?_modify]
      by_cases e : b = k
      · subst e
        rw [if_pos rfl, if_pos rfl, hh]
        rfl
      · rw [if_neg e, if_neg (fun e' => e e'.symm)]
    have hsz : (Sort.putRowK LN.cl 7 (Sort.ahead w q) b off d).heap.size = w.heap.size := by
      show (w.heap.modify b _).size = _
      simp
    have hall : ∀ k, k < w.heap.size → (sortWorldK LN.cl 7 w b off q d os).heap[k]? = if k = b then some (.cells (Sort.putCells id off (Sort.flatK LN.cl 7 d) cur) LN.e (0, 0)) else w.heap[k]? := fun k hk => by
      rw [← hp k]
      exact Sort.heap_grow_old _ _ (by rw [hsz]; exact hk)
    constructor
    · refine .inr ⟨b, off, cap, _, by rw [Array.length_toList, hd, e2], hg, by rw [hall b hb, if_pos rfl], by rw [Array.length_toList, hd]; exact h1, h2, by simpa [Sort.putCells] using h3, ?_⟩
      have hc : LN.c = 7 := rfl
      rw [Array.length_toList]
      apply List.ext_getElem?
      intro j
      rw [List.getElem?_take]
      by_cases hj : j < d.size * 7
      · rw [hc, if_pos hj, flat_vsN d j hj, List.getElem?_drop, Array.getElem?_toList]
        have hlt : off + j < cur.size := by
          rw [hc] at h3
          have : xs.length * 7 ≤ cap * 7 := Nat.mul_le_mul_right _ h1
          omega
        simp only [Sort.putCells, Array.getElem?_mapIdx, Array.getElem?_eq_getElem hlt, Option.map_some, Sort.size_flatK]
        rw [if_pos ⟨by omega, by omega⟩, show off + j - off = j by omega]
        rfl
      · rw [hc, if_neg hj, List.getElem?_eq_none (by rw [LN.vs_len, Array.length_toList, hc]; omega)]
    · refine ⟨rfl, rfl, rfl, ?_, fun k hk => ?_⟩
      · show w.heap.size ≤ (Sort.grow _ _).heap.size
        rw [Sort.size_grow, hsz]
        exact Nat.le_add_right _ _
      · rw [hall k (by omega), if_neg (by omega)]
theorem cmp_laysN (blk off size : Nat) (w : World) : CmpLays Tryz.prog 87 #[] LN.cl 7 cmpN blk off size w := fun _ _ _ _ x y => row1_gr x y _
theorem sort_nodes {w : World} {B b off n cap : Nat} {xs : List NdV} (h : LN.Mine w B (.slice (some ⟨b, off, none⟩) n cap) xs) (hn : xs.length = n) (hl : n ≤ 1000) :
    Calls Tryz.prog 106 #[.slice (some ⟨b, off, none⟩) n cap, .func (.func 87) #[] #[]] w fun e w' => e = .returned (.tuple #[]) ∧ ∃ ys, ys.Perm xs ∧ ys.Pairwise (fun x y => beforeP y.po x.po = false) ∧ LN.Mine w' B (.slice (some ⟨b, off, none⟩) n cap) ys ∧ Below B w w' := by
  have eg : ∀ args w, (callFunc 87 args).run Tryz.prog w = .ok (.enter 87 args) w := enters_of Tryz.func87 (by kernel_rfl) rfl
  have hb : b < w.heap.size := (h.lt b rfl).2
  have hsz : xs.toArray.size = n := by rw [List.size_toArray]; exact hn
  have hcon := AnyQ.slices_SortFunc Tryz.sortE 7 Tryz.isAgg78 Tryz.sizeOf78 LN.cl LN.len LN.one cmpN swo_cmpN 87 #[] b off cap xs.toArray w eg (cmp_laysN b off xs.toArray.size w) (holds_mineN h) hb (by omega)
  rw [hsz] at hcon
  refine hcon.mono ?_
  rintro e w' ⟨rfl, d', q, os, p1, p2, rfl⟩
  rw [← hsz] at p1 p2
  obtain ⟨h1, _, h3⟩ := p1
  have e1 : (xs.toArray.extract 0 xs.toArray.size) = xs.toArray := by simp
  have e2 : (d'.extract 0 xs.toArray.size) = d' := by rw [← h1]; simp
  rw [e1, e2] at h3
  have hm := mine_sortedN (q := q) h d' (by rw [h1, List.size_toArray]) os
  refine ⟨rfl, d'.toList, by simpa using h3, ?_, hm.1, hm.2⟩
  rw [List.pairwise_iff_getElem]
  intro i j hi hj hij
  have hi' : i < d'.size := by simpa using hi
  have hj' : j < d'.size := by simpa using hj
  have hle := p2 i j (Nat.zero_le _) hij (by omega)
  rw [lt_cmpN, getElem!_pos d' j hj', getElem!_pos d' i hi'] at hle
  simpa using hle
end Go.Proofs.YtfbfdkibdjinaaaGreat
