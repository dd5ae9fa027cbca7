/-
  Package dag's Heads and All, and what of them is kept.
-/
import Derived.Test.YtjiecjpepiknmaaGreatDgE
import Derived.Test.YtjiecjpepiknmaaGreatC4
import Derived.Test.YtjiecjpepiknmaaGreatSort
import Derived.BigQuiet
import Derived.Test.YtjiecjpepiknmaaGreatDgF
import Derived.Shelf.SlSortCmp.NoneTotal
import Derived.Test.YtjiecjpepiknmaaGreatDagHeads
import Derived.Maps.Views
namespace Go.Proofs.YtjiecjpepiknmaaGreat
set_option maxRecDepth 20000
open Go.RowKit
set_option linter.unusedVariables false
set_option linter.unusedSimpArgs false

set_option maxHeartbeats 1600000 in
theorem compare_gr (a b : Po) (w : World) : Calls Tryz.prog 121 #[.agg #[.int .i64 a.depth, .string a.id], .agg #[.int .i64 b.depth, .string b.id]] w fun e w' => e = .returned (.int .i64 (cmpP a b)) ∧ Gr w w' := by
  have hs1 : (w.alloc (.cells #[.int .i64 a.depth, .string a.id] 55)).heap.size = w.heap.size + 1 := by simp
  have H3 := Lib.hid (heap_alloc_new (w.alloc (.cells #[.int .i64 a.depth, .string a.id] 55)) (.cells #[.int .i64 b.depth, .string b.id] 55))
  have H2 := Lib.hid ((heap_alloc_old (w.alloc (.cells #[.int .i64 a.depth, .string a.id] 55)) (.cells #[.int .i64 b.depth, .string b.id] 55) (r := w.heap.size) (by rw [hs1]; omega)).trans (heap_alloc_new w _))
  have HB := Lib.hid (((Gr.refl w).alloc (.cells #[.int .i64 a.depth, .string a.id] 55)).alloc (.cells #[.int .i64 b.depth, .string b.id] 55))
  rw [hs1] at H3
  clear hs1
  have HQ1 := Lib.hid (fun W => Tryz.cmp_Compare_int a.depth b.depth W)
  have HQ2 := Lib.hid (fun W => Tryz.strings_Compare a.id b.id W)
  have HU := Lib.hid (cmpP_code a b)
  generalize Lib.compareInt a.depth b.depth = x at HQ1 HU
  generalize Lib.compareBytes a.id.data.toList b.id.data.toList = y at HQ2 HU
  go_enter Tryz.func121, Tryz.ntmps121
  go_upto_region 1 with (fail)
  generalize World.alloc _ _ = w1 at H2 H3 HB ⊢
  generalize w.heap.size + 1 = B3 at H3 ⊢
  generalize hB2 : w.heap.size = B2 at H2 ⊢
  have HS : w1.drew.cell? ⟨B2, 0, none⟩ = some (.int .i64 a.depth) ∧ w1.drew.cell? ⟨B2, 1, none⟩ = some (.string a.id) ∧ w1.drew.cell? ⟨B3, 0, none⟩ = some (.int .i64 b.depth) ∧ w1.drew.cell? ⟨B3, 1, none⟩ = some (.string b.id) ∧ Gr w w1.drew := ⟨cell_at H2.out 0, cell_at H2.out 1, cell_at H3.out 0, cell_at H3.out 1, HB.out.drew⟩
  refine wp_region_held_drew (S := fun w' => w'.cell? ⟨B2, 0, none⟩ = some (.int .i64 a.depth) ∧ w'.cell? ⟨B2, 1, none⟩ = some (.string a.id) ∧ w'.cell? ⟨B3, 0, none⟩ = some (.int .i64 b.depth) ∧ w'.cell? ⟨B3, 1, none⟩ = some (.string b.id) ∧ Gr w w') (by kernel_rfl) HS (fun hHeld => ?_)
  clear HS H2 H3 HB
  generalize w1.drew = wd at hHeld ⊢
  refine wpAnyH_take (i := 0) (oi := ⟨some 5, _, _, _, _, _⟩) (v := ?vc0) rfl (by kernel_rfl) (by kernel_rfl) (by kernel_rfl) (fun _ _ _ h => h) (Or.inl ⟨by rfl, ?yc0⟩) hHeld ?rc0
  case yc0 =>
    intro wx hSx
    go_simp
    try with_reducible rfl
  try simp only [Act.put, List.setIfInBounds_toArray, List.set_cons_zero, List.set_cons_succ]
  refine wpAnyH_take (i := 2) (oi := ⟨some 7, _, _, _, _, _⟩) (v := ?vc2) rfl (by kernel_rfl) (by kernel_rfl) (by kernel_rfl) (fun _ _ _ h => h) (Or.inl ⟨by rfl, ?yc2⟩) hHeld ?rc2
  case yc2 =>
    intro wx hSx
    go_simp
    try with_reducible rfl
  try simp only [Act.put, List.setIfInBounds_toArray, List.set_cons_zero, List.set_cons_succ]
  refine wpAnyH_take (i := 5) (oi := ⟨some 10, _, _, _, _, _⟩) (v := ?vc5) rfl (by kernel_rfl) (by kernel_rfl) (by kernel_rfl) (fun _ _ _ h => h) (Or.inl ⟨by rfl, ?yc5⟩) hHeld ?rc5
  case yc5 =>
    intro wx hSx
    go_simp
    try with_reducible rfl
  try simp only [Act.put, List.setIfInBounds_toArray, List.set_cons_zero, List.set_cons_succ]
  refine wpAnyH_take (i := 7) (oi := ⟨some 12, _, _, _, _, _⟩) (v := ?vc7) rfl (by kernel_rfl) (by kernel_rfl) (by kernel_rfl) (fun _ _ _ h => h) (Or.inl ⟨by rfl, ?yc7⟩) hHeld ?rc7
  case yc7 =>
    intro wx hSx
    go_simp
    try with_reducible rfl
  try simp only [Act.put, List.setIfInBounds_toArray, List.set_cons_zero, List.set_cons_succ]
  refine wpAnyH_take (i := 1) (oi := ⟨some 6, _, _, _, _, _⟩) (v := ?vc1) rfl (by kernel_rfl) (by kernel_rfl) (by kernel_rfl) (fun _ _ _ h => h) (Or.inl ⟨by rfl, ?yc1⟩) hHeld ?rc1
  case yc1 =>
    intro wx hSx
    obtain ⟨z1, z2, z3, z4, -⟩ := hSx
    go_simp
    try with_reducible rfl
  try simp only [Act.put, List.setIfInBounds_toArray, List.set_cons_zero, List.set_cons_succ]
  refine wpAnyH_take (i := 3) (oi := ⟨some 8, _, _, _, _, _⟩) (v := ?vc3) rfl (by kernel_rfl) (by kernel_rfl) (by kernel_rfl) (fun _ _ _ h => h) (Or.inl ⟨by rfl, ?yc3⟩) hHeld ?rc3
  case yc3 =>
    intro wx hSx
    obtain ⟨z1, z2, z3, z4, -⟩ := hSx
    go_simp
    try with_reducible rfl
  try simp only [Act.put, List.setIfInBounds_toArray, List.set_cons_zero, List.set_cons_succ]
  refine wpAnyH_take (i := 6) (oi := ⟨some 11, _, _, _, _, _⟩) (v := ?vc6) rfl (by kernel_rfl) (by kernel_rfl) (by kernel_rfl) (fun _ _ _ h => h) (Or.inl ⟨by rfl, ?yc6⟩) hHeld ?rc6
  case yc6 =>
    intro wx hSx
    obtain ⟨z1, z2, z3, z4, -⟩ := hSx
    go_simp
    try with_reducible rfl
  try simp only [Act.put, List.setIfInBounds_toArray, List.set_cons_zero, List.set_cons_succ]
  refine wpAnyH_take (i := 8) (oi := ⟨some 13, _, _, _, _, _⟩) (v := ?vc8) rfl (by kernel_rfl) (by kernel_rfl) (by kernel_rfl) (fun _ _ _ h => h) (Or.inl ⟨by rfl, ?yc8⟩) hHeld ?rc8
  case yc8 =>
    intro wx hSx
    obtain ⟨z1, z2, z3, z4, -⟩ := hSx
    go_simp
    try with_reducible rfl
  try simp only [Act.put, List.setIfInBounds_toArray, List.set_cons_zero, List.set_cons_succ]
  refine anyH_asks (i := 4) (oi := ⟨some 9, _, _, _, _, _⟩) (v := .int .i64 x) rfl (by kernel_rfl) (by kernel_rfl) (by kernel_rfl) (fun _ _ _ h => h) ⟨by rfl, fun wx hSx => ⟨_, _, ?ec4, (HQ1.out _).mono (fun _ _ h => ⟨h.1, h.2.symm⟩)⟩⟩ hHeld ?rc4
  case ec4 => go_simp
  try simp only [Act.put, List.setIfInBounds_toArray, List.set_cons_zero, List.set_cons_succ]
  refine anyH_asks (i := 9) (oi := ⟨some 14, _, _, _, _, _⟩) (v := .int .i64 y) rfl (by kernel_rfl) (by kernel_rfl) (by kernel_rfl) (fun _ _ _ h => h) ⟨by rfl, fun wx hSx => ⟨_, _, ?ec9, (HQ2.out _).mono (fun _ _ h => ⟨h.1, h.2.symm⟩)⟩⟩ hHeld ?rc9
  case ec9 => go_simp
  try simp only [Act.put, List.setIfInBounds_toArray, List.set_cons_zero, List.set_cons_succ]
  refine wpAnyH_ready (rs := [10]) (by kernel_rfl) (by simp) ?_
  refine AllReadyH.cons (o := ⟨some 15, _, _, _, _, _⟩) rfl (fun K hK => ?_) AllReadyH.nil
  have hNW : (wd.alloc (.cells #[.int .i64 x, .int .i64 y] 3)).cell? ⟨B2, 0, none⟩ = some (.int .i64 a.depth) ∧ (wd.alloc (.cells #[.int .i64 x, .int .i64 y] 3)).cell? ⟨B2, 1, none⟩ = some (.string a.id) ∧ (wd.alloc (.cells #[.int .i64 x, .int .i64 y] 3)).cell? ⟨B3, 0, none⟩ = some (.int .i64 b.depth) ∧ (wd.alloc (.cells #[.int .i64 x, .int .i64 y] 3)).cell? ⟨B3, 1, none⟩ = some (.string b.id) ∧ Gr w (wd.alloc (.cells #[.int .i64 x, .int .i64 y] 3)) := by
    obtain ⟨z1, z2, z3, z4, z5⟩ := hHeld
    have bn := below_new wd (.cells #[.int .i64 x, .int .i64 y] 3)
    exact ⟨(bn.cell (World.block_lt_of_cell? _ _ z1)).trans z1, (bn.cell (World.block_lt_of_cell? _ _ z2)).trans z2, (bn.cell (World.block_lt_of_cell? _ _ z3)).trans z3, (bn.cell (World.block_lt_of_cell? _ _ z4)).trans z4, z5.alloc _⟩
  have hn := heap_alloc_new wd (.cells #[.int .i64 x, .int .i64 y] 3)
  go_simp
  refine hK.out _ _ hNW (fun hHeld => ?_)
  clear hK K hNW
  try simp only [Act.put, List.setIfInBounds_toArray, List.set_cons_zero, List.set_cons_succ]
  refine wpAnyH_ready (rs := [11]) (by kernel_rfl) (by simp) ?_
  refine AllReadyH.cons (o := ⟨some 16, _, _, _, _, _⟩) rfl (fun K hK => ?_) AllReadyH.nil
  go_simp
  refine (or_any x y wd.heap.size _ (cell_at hn 0) (cell_at hn 1)).mono ?_
  rintro e wn ⟨rfl, rfl⟩
  refine hK.out _ _ hHeld (fun hHeld => ?_)
  clear hK K
  try simp only [Act.put, List.setIfInBounds_toArray, List.set_cons_zero, List.set_cons_succ]
  refine wpAnyH_take (i := 12) (oi := ⟨some 4, _, _, _, _, _⟩) (v := ?vc12) rfl (by kernel_rfl) (by kernel_rfl) (by kernel_rfl) (fun _ _ _ h => h) (Or.inl ⟨by rfl, ?yc12⟩) hHeld ?rc12
  case yc12 =>
    intro wx hSx
    go_simp
    try with_reducible rfl
  try simp only [Act.put, List.setIfInBounds_toArray, List.set_cons_zero, List.set_cons_succ]
  refine wpAnyH_done (by kernel_rfl) ?_ _
  go_wp2_with fail
  go_ret
  exact ⟨by rw [← HU.out]; rfl, hHeld.2.2.2.2⟩

def NdV.po (n : NdV) : Po := ⟨(n.d : Int), n.x.ev.id⟩
set_option maxHeartbeats 800000 in
theorem position_gr (n : NdV) (w : World) : Calls Tryz.prog 122 #[.agg #[.string n.x.ev.id, .string n.x.ev.room, .slice n.x.A n.x.ev.parents.length n.x.cap, .string n.x.ev.thread, .string n.x.ev.user, .int .i64 n.x.ev.does, .int .i64 (n.d : Int)]] w fun e w' => e = .returned (.agg #[.int .i64 (n.d : Int), .string n.x.ev.id]) ∧ Gr w w' := by
  have HG := Lib.hid (((Gr.refl w).alloc (.cells #[.string n.x.ev.id, .string n.x.ev.room, .slice n.x.A n.x.ev.parents.length n.x.cap, .string n.x.ev.thread, .string n.x.ev.user, .int .i64 n.x.ev.does, .int .i64 (n.d : Int)] 109)).alloc (.cells #[.int .i64 (n.d : Int), .string n.x.ev.id] 55))
  go_enter Tryz.func122, Tryz.ntmps122
  go_wp2_with fail
  have hs1 : (w.alloc (.cells #[.string n.x.ev.id, .string n.x.ev.room, .slice n.x.A n.x.ev.parents.length n.x.cap, .string n.x.ev.thread, .string n.x.ev.user, .int .i64 n.x.ev.does, .int .i64 (n.d : Int)] 109)).heap.size = w.heap.size + 1 := by simp
  have hn := heap_alloc_new (w.alloc (.cells #[.string n.x.ev.id, .string n.x.ev.room, .slice n.x.A n.x.ev.parents.length n.x.cap, .string n.x.ev.thread, .string n.x.ev.user, .int .i64 n.x.ev.does, .int .i64 (n.d : Int)] 109)) (.cells #[.int .i64 (n.d : Int), .string n.x.ev.id] 55)
  rw [hs1] at hn
  have k0 := cell_at hn 0
  have k1 := cell_at hn 1
  simp only [List.getElem?_toArray, List.getElem?_cons_succ, List.getElem?_cons_zero] at k0 k1
  refine bodyPost_ret (v := .agg #[.int .i64 (n.d : Int), .string n.x.ev.id]) ?_ rfl ⟨rfl, HG.out⟩
  simp only [results, Tryz.results122, go_sem, k0, k1]
  simp [go_sem, k0, k1]

set_option maxHeartbeats 1600000 in
theorem row1_gr (x y : NdV) (w : World) : Calls Tryz.prog 120 #[.agg #[.string x.x.ev.id, .string x.x.ev.room, .slice x.x.A x.x.ev.parents.length x.x.cap, .string x.x.ev.thread, .string x.x.ev.user, .int .i64 x.x.ev.does, .int .i64 (x.d : Int)], .agg #[.string y.x.ev.id, .string y.x.ev.room, .slice y.x.A y.x.ev.parents.length y.x.cap, .string y.x.ev.thread, .string y.x.ev.user, .int .i64 y.x.ev.does, .int .i64 (y.d : Int)]] w fun e w' => e = .returned (.int .i64 (cmpP x.po y.po)) ∧ Gr w w' := by
  have hs1 : (w.alloc (.cells #[.string x.x.ev.id, .string x.x.ev.room, .slice x.x.A x.x.ev.parents.length x.x.cap, .string x.x.ev.thread, .string x.x.ev.user, .int .i64 x.x.ev.does, .int .i64 (x.d : Int)] 109)).heap.size = w.heap.size + 1 := by simp
  have H3 := Lib.hid (heap_alloc_new (w.alloc (.cells #[.string x.x.ev.id, .string x.x.ev.room, .slice x.x.A x.x.ev.parents.length x.x.cap, .string x.x.ev.thread, .string x.x.ev.user, .int .i64 x.x.ev.does, .int .i64 (x.d : Int)] 109)) (.cells #[.string y.x.ev.id, .string y.x.ev.room, .slice y.x.A y.x.ev.parents.length y.x.cap, .string y.x.ev.thread, .string y.x.ev.user, .int .i64 y.x.ev.does, .int .i64 (y.d : Int)] 109))
  have H2 := Lib.hid ((heap_alloc_old (w.alloc (.cells #[.string x.x.ev.id, .string x.x.ev.room, .slice x.x.A x.x.ev.parents.length x.x.cap, .string x.x.ev.thread, .string x.x.ev.user, .int .i64 x.x.ev.does, .int .i64 (x.d : Int)] 109)) (.cells #[.string y.x.ev.id, .string y.x.ev.room, .slice y.x.A y.x.ev.parents.length y.x.cap, .string y.x.ev.thread, .string y.x.ev.user, .int .i64 y.x.ev.does, .int .i64 (y.d : Int)] 109) (r := w.heap.size) (by rw [hs1]; omega)).trans (heap_alloc_new w _))
  have HB := Lib.hid (((Gr.refl w).alloc (.cells #[.string x.x.ev.id, .string x.x.ev.room, .slice x.x.A x.x.ev.parents.length x.x.cap, .string x.x.ev.thread, .string x.x.ev.user, .int .i64 x.x.ev.does, .int .i64 (x.d : Int)] 109)).alloc (.cells #[.string y.x.ev.id, .string y.x.ev.room, .slice y.x.A y.x.ev.parents.length y.x.cap, .string y.x.ev.thread, .string y.x.ev.user, .int .i64 y.x.ev.does, .int .i64 (y.d : Int)] 109))
  rw [hs1] at H3
  clear hs1
  have HP1 := Lib.hid (fun W => position_gr x W)
  have HP2 := Lib.hid (fun W => position_gr y W)
  have HCM := Lib.hid (fun W => compare_gr x.po y.po W)
  unfold NdV.po at HCM
  go_enter Tryz.func120, Tryz.ntmps120
  go_upto_region 1 with (fail)
  generalize World.alloc _ _ = w1 at H2 H3 HB ⊢
  generalize w.heap.size + 1 = B3 at H3 ⊢
  generalize hB2 : w.heap.size = B2 at H2 ⊢
  refine wp_region_held_drew (S := fun w' => w'.heap[B2]? = some (.cells #[.string x.x.ev.id, .string x.x.ev.room, .slice x.x.A x.x.ev.parents.length x.x.cap, .string x.x.ev.thread, .string x.x.ev.user, .int .i64 x.x.ev.does, .int .i64 (x.d : Int)] 109 (0, 0)) ∧ w'.heap[B3]? = some (.cells #[.string y.x.ev.id, .string y.x.ev.room, .slice y.x.A y.x.ev.parents.length y.x.cap, .string y.x.ev.thread, .string y.x.ev.user, .int .i64 y.x.ev.does, .int .i64 (y.d : Int)] 109 (0, 0)) ∧ Gr w w') (by kernel_rfl) ⟨H2.out, H3.out, HB.out.drew⟩ (fun hHeld => ?_)
  clear H2 H3 HB
  generalize w1.drew = wd at hHeld ⊢
  refine wpAnyH_take (i := 0) (oi := ⟨some 5, _, _, _, _, _⟩) (v := ?vr0) rfl (by kernel_rfl) (by kernel_rfl) (by kernel_rfl) (fun _ _ _ h => h) (Or.inl ⟨by rfl, ?yr0⟩) hHeld ?rr0
  case yr0 =>
    intro wx hSx
    have p0 := cell_at hSx.1 0
    have p1 := cell_at hSx.1 1
    have p2 := cell_at hSx.1 2
    have p3 := cell_at hSx.1 3
    have p4 := cell_at hSx.1 4
    have p5 := cell_at hSx.1 5
    have p6 := cell_at hSx.1 6
    simp only [List.getElem?_toArray, List.getElem?_cons_succ, List.getElem?_cons_zero] at p0 p1 p2 p3 p4 p5 p6
    go_simp
    try with_reducible rfl
  try simp only [Act.put, List.setIfInBounds_toArray, List.set_cons_zero, List.set_cons_succ]
  refine wpAnyH_take (i := 2) (oi := ⟨some 7, _, _, _, _, _⟩) (v := ?vr2) rfl (by kernel_rfl) (by kernel_rfl) (by kernel_rfl) (fun _ _ _ h => h) (Or.inl ⟨by rfl, ?yr2⟩) hHeld ?rr2
  case yr2 =>
    intro wx hSx
    have p0 := cell_at hSx.2.1 0
    have p1 := cell_at hSx.2.1 1
    have p2 := cell_at hSx.2.1 2
    have p3 := cell_at hSx.2.1 3
    have p4 := cell_at hSx.2.1 4
    have p5 := cell_at hSx.2.1 5
    have p6 := cell_at hSx.2.1 6
    simp only [List.getElem?_toArray, List.getElem?_cons_succ, List.getElem?_cons_zero] at p0 p1 p2 p3 p4 p5 p6
    go_simp
    try with_reducible rfl
  try simp only [Act.put, List.setIfInBounds_toArray, List.set_cons_zero, List.set_cons_succ]
  refine wpAnyH_ready (rs := [1]) (by kernel_rfl) (by simp) ?_
  refine AllReadyH.cons (o := ⟨some 6, _, _, _, _, _⟩) rfl (fun K hK => ?_) AllReadyH.nil
  go_simp
  refine (HP1.out _).mono ?_
  rintro e wn ⟨rfl, hgn⟩
  have hbn := Gr.below hgn
  refine hK.out _ _ ⟨(hbn.block B2 (smem_lt hHeld.1)).trans hHeld.1, (hbn.block B3 (smem_lt hHeld.2.1)).trans hHeld.2.1, hHeld.2.2.trans hgn⟩ (fun hHeld => ?_)
  clear hK K hbn hgn
  try simp only [Act.put, List.setIfInBounds_toArray, List.set_cons_zero, List.set_cons_succ]
  generalize wn = wd at hHeld ⊢
  refine wpAnyH_ready (rs := [3]) (by kernel_rfl) (by simp) ?_
  refine AllReadyH.cons (o := ⟨some 8, _, _, _, _, _⟩) rfl (fun K hK => ?_) AllReadyH.nil
  go_simp
  refine (HP2.out _).mono ?_
  rintro e wn ⟨rfl, hgn⟩
  have hbn := Gr.below hgn
  refine hK.out _ _ ⟨(hbn.block B2 (smem_lt hHeld.1)).trans hHeld.1, (hbn.block B3 (smem_lt hHeld.2.1)).trans hHeld.2.1, hHeld.2.2.trans hgn⟩ (fun hHeld => ?_)
  clear hK K hbn hgn
  try simp only [Act.put, List.setIfInBounds_toArray, List.set_cons_zero, List.set_cons_succ]
  generalize wn = wd at hHeld ⊢
  refine wpAnyH_ready (rs := [4]) (by kernel_rfl) (by simp) ?_
  refine AllReadyH.cons (o := ⟨some 9, _, _, _, _, _⟩) rfl (fun K hK => ?_) AllReadyH.nil
  go_simp
  refine (HCM.out _).mono ?_
  rintro e wn ⟨rfl, hgn⟩
  have hbn := Gr.below hgn
  refine hK.out _ _ ⟨(hbn.block B2 (smem_lt hHeld.1)).trans hHeld.1, (hbn.block B3 (smem_lt hHeld.2.1)).trans hHeld.2.1, hHeld.2.2.trans hgn⟩ (fun hHeld => ?_)
  clear hK K hbn hgn
  try simp only [Act.put, List.setIfInBounds_toArray, List.set_cons_zero, List.set_cons_succ]
  generalize wn = wd at hHeld ⊢
  refine wpAnyH_take (i := 5) (oi := ⟨some 4, _, _, _, _, _⟩) (v := ?vr5) rfl (by kernel_rfl) (by kernel_rfl) (by kernel_rfl) (fun _ _ _ h => h) (Or.inl ⟨by rfl, ?yr5⟩) hHeld ?rr5
  case yr5 =>
    intro wx hSx
    go_simp
    try with_reducible rfl
  try simp only [Act.put, List.setIfInBounds_toArray, List.set_cons_zero, List.set_cons_succ]
  refine wpAnyH_done (by kernel_rfl) ?_ _
  go_wp2_with fail
  go_ret
  exact ⟨rfl, hHeld.2.2⟩

instance : Inhabited NdV := ⟨⟨⟨⟨⟨#[]⟩, ⟨#[]⟩, [], ⟨#[]⟩, ⟨#[]⟩, 0⟩, none, 0⟩, 0⟩⟩
def cmpN (x y : NdV) : Int := cmpP x.po y.po
theorem lt_cmpN (x y : NdV) : ltOf cmpN x y = beforeP x.po y.po := by
  unfold ltOf cmpN cmpP
  cases beforeP x.po y.po
  · cases beforeP y.po x.po <;> rfl
  · rfl
theorem swo_cmpN : Sort.SWO (ltOf cmpN) where
  irrefl x := by rw [lt_cmpN]; exact pos_irrefl _
  trans x y z h1 h2 := by rw [lt_cmpN] at *; exact pos_trans h1 h2
  ntrans x y z h1 h2 := by
    rw [lt_cmpN] at *
    rw [Bool.eq_false_iff]
    intro hc
    by_cases e : x.po = y.po
    · rw [e, h2] at hc; cases hc
    · rcases pos_total e with k | k
      · rw [h1] at k; cases k
      · rw [pos_trans k hc] at h2; cases h2
theorem flat_vsN (d : Array NdV) (j : Nat) (hj : j < d.size * 7) : (LN.vs d.toList)[j]? = some (Sort.flatK LN.cl 7 d)[j]! := by
  rw [Sort.get_flatK _ _ _ _ hj]
  have h1 : d.toList[j / 7]? = some d[j / 7]! := by
    rw [Array.getElem?_toList, getElem!_pos d (j / 7) (by omega), Array.getElem?_eq_getElem (by omega)]
  have h2 : (LN.cl d[j / 7]!)[j % 7]? = some (LN.cl d[j / 7]!)[j % 7]! := by
    have : j % 7 < (LN.cl d[j / 7]!).length := by rw [LN.len]; exact Nat.mod_lt _ (by decide)
    rw [List.getElem?_eq_getElem this, getElem!_pos (LN.cl d[j / 7]!) (j % 7) this]
  have := LN.vs_get h1 h2
  rw [show j / 7 * LN.c + j % 7 = j by rw [show LN.c = 7 from rfl]; omega] at this
  exact this
theorem holds_mineN {w : World} {B b off n cap : Nat} {xs : List NdV} (h : LN.Mine w B (.slice (some ⟨b, off, none⟩) n cap) xs) : Sort.HoldsK LN.cl 7 w b off xs.toArray := by
  intro j hj
  rw [Sort.size_flatK, List.size_toArray] at hj
  have hv := flat_vsN xs.toArray j (by rw [List.size_toArray]; exact hj)
  rw [List.toList_toArray] at hv
  rcases h with ⟨hv', _⟩ | ⟨g', off', cap', cur, hv', hg, hh, h1, h2, h3, h4⟩
  · cases hv'
  · injection hv' with e1 e2 e3
    injection e1 with e1
    injection e1 with e4 e5 _
    subst e4 e5 e3
    refine ⟨?_, by simp [World.frozen?, hh]⟩
    rw [cell_of_row w b (off + j) cur _ _ hh, ← Array.getElem?_toList]
    rw [← h4, List.getElem?_take, if_pos (by rw [show LN.c = 7 from rfl]; exact hj), List.getElem?_drop] at hv
    exact hv
theorem mine_sortedN {w : World} {B b off n cap q : Nat} {xs : List NdV} (h : LN.Mine w B (.slice (some ⟨b, off, none⟩) n cap) xs) (d : Array NdV) (hd : d.size = xs.length) (os : Array Obj) : LN.Mine (sortWorldK LN.cl 7 w b off q d os) B (.slice (some ⟨b, off, none⟩) n cap) d.toList ∧ Below B w (sortWorldK LN.cl 7 w b off q d os) := by
  rcases h with ⟨hv', _⟩ | ⟨g', off', cap', cur, hv', hg, hh, h1, h2, h3, h4⟩
  · cases hv'
  · injection hv' with e1 e2 e3
    injection e1 with e1
    injection e1 with e4 e5 _
    subst e4 e5 e3
    have hb := smem_lt hh
    have hp : ∀ k, (Sort.putRowK LN.cl 7 (Sort.ahead w q) b off d).heap[k]? = if k = b then some (.cells (Sort.putCells id off (Sort.flatK LN.cl 7 d) cur) LN.e (0, 0)) else w.heap[k]? := by
      intro k
      show (w.heap.modify b _)[k]? = _
      rw [Array.getElem?_modify]
      by_cases e : b = k
      · subst e
        rw [if_pos rfl, if_pos rfl, hh]
        rfl
      · rw [if_neg e, if_neg (fun e' => e e'.symm)]
    have hsz : (Sort.putRowK LN.cl 7 (Sort.ahead w q) b off d).heap.size = w.heap.size := by
      show (w.heap.modify b _).size = _
      simp
    have hall : ∀ k, k < w.heap.size → (sortWorldK LN.cl 7 w b off q d os).heap[k]? = if k = b then some (.cells (Sort.putCells id off (Sort.flatK LN.cl 7 d) cur) LN.e (0, 0)) else w.heap[k]? := fun k hk => by
      rw [← hp k]
      exact Sort.heap_grow_old _ _ (by rw [hsz]; exact hk)
    constructor
    · refine .inr ⟨b, off, cap, _, by rw [Array.length_toList, hd, e2], hg, by rw [hall b hb, if_pos rfl], by rw [Array.length_toList, hd]; exact h1, h2, by simpa [Sort.putCells] using h3, ?_⟩
      have hc : LN.c = 7 := rfl
      rw [Array.length_toList]
      apply List.ext_getElem?
      intro j
      rw [List.getElem?_take]
      by_cases hj : j < d.size * 7
      · rw [hc, if_pos hj, flat_vsN d j hj, List.getElem?_drop, Array.getElem?_toList]
        have hlt : off + j < cur.size := by
          rw [hc] at h3
          have : xs.length * 7 ≤ cap * 7 := Nat.mul_le_mul_right _ h1
          omega
        simp only [Sort.putCells, Array.getElem?_mapIdx, Array.getElem?_eq_getElem hlt, Option.map_some, Sort.size_flatK]
        rw [if_pos ⟨by omega, by omega⟩, show off + j - off = j by omega]
        rfl
      · rw [hc, if_neg hj, List.getElem?_eq_none (by rw [LN.vs_len, Array.length_toList, hc]; omega)]
    · refine ⟨rfl, rfl, rfl, ?_, fun k hk => ?_⟩
      · show w.heap.size ≤ (Sort.grow _ _).heap.size
        rw [Sort.size_grow, hsz]
        exact Nat.le_add_right _ _
      · rw [hall k (by omega), if_neg (by omega)]
theorem cmp_laysN (blk off size : Nat) (w : World) : CmpLays Tryz.prog 120 #[] LN.cl 7 cmpN blk off size w := fun _ _ _ _ x y => row1_gr x y _
theorem sort_nodes {w : World} {B b off n cap : Nat} {xs : List NdV} (h : LN.Mine w B (.slice (some ⟨b, off, none⟩) n cap) xs) (hn : xs.length = n) (hl : n ≤ 1000) :
    Calls Tryz.prog 148 #[.slice (some ⟨b, off, none⟩) n cap, .func (.func 120) #[] #[]] w fun e w' => e = .returned (.tuple #[]) ∧ ∃ ys, ys.Perm xs ∧ ys.Pairwise (fun x y => beforeP y.po x.po = false) ∧ LN.Mine w' B (.slice (some ⟨b, off, none⟩) n cap) ys ∧ Below B w w' := by
  have eg : ∀ args w, (callFunc 120 args).run Tryz.prog w = .ok (.enter 120 args) w := enters_of Tryz.func120 (by kernel_rfl) rfl
  have hb : b < w.heap.size := (h.lt b rfl).2
  have hsz : xs.toArray.size = n := by rw [List.size_toArray]; exact hn
  have hcon := AnyQ.slices_SortFunc Tryz.sortE 7 Tryz.isAgg109 Tryz.sizeOf109 LN.cl LN.len LN.one cmpN swo_cmpN 120 #[] b off cap xs.toArray w eg (cmp_laysN b off xs.toArray.size w) (holds_mineN h) hb (by omega)
  rw [hsz] at hcon
  refine hcon.mono ?_
  rintro e w' ⟨rfl, d', q, os, p1, p2, rfl⟩
  rw [← hsz] at p1 p2
  obtain ⟨h1, _, h3⟩ := p1
  have e1 : (xs.toArray.extract 0 xs.toArray.size) = xs.toArray := by simp
  have e2 : (d'.extract 0 xs.toArray.size) = d' := by rw [← h1]; simp
  rw [e1, e2] at h3
  have hm := mine_sortedN (q := q) h d' (by rw [h1, List.size_toArray]) os
  refine ⟨rfl, d'.toList, by simpa using h3, ?_, hm.1, hm.2⟩
  rw [List.pairwise_iff_getElem]
  intro i j hi hj hij
  have hi' : i < d'.size := by simpa using hi
  have hj' : j < d'.size := by simpa using hj
  have hle := p2 i j (Nat.zero_le _) hij (by omega)
  rw [lt_cmpN, getElem!_pos d' j hj', getElem!_pos d' i hi'] at hle
  simpa using hle
end Go.Proofs.YtjiecjpepiknmaaGreat

namespace Go.Proofs.YtjiecjpepiknmaaGreat
set_option maxRecDepth 20000
open Go.RowKit
set_option linter.unusedVariables false
set_option linter.unusedSimpArgs false
section
variable {w : World} {g mb : Nat} {room : ByteArray} {ns : List NdV} {D : Dv}
theorem collect_any (h : DgS w g room mb ns D) (hl : ns.length ≤ 1000) (Bm : Nat) (hBm : w.cell? ⟨Bm, 0, none⟩ = some (.map (some mb))) :
    Calls Tryz.prog 147 #[.func (.func 149) #[] #[.pointer (some ⟨Bm, 0, none⟩)]] w fun e w' => ∃ A cap xs, e = .returned (.slice A xs.length cap) ∧ xs.Perm ns ∧ LN.Mine w' w.heap.size (.slice A xs.length cap) xs ∧ Below w.heap.size w w' := by
  have hsz : Maps.size D ≤ 1000 := by
    obtain ⟨es, rfl, hp⟩ := h.is
    rw [Maps.size_eq, hp.length_eq, List.length_map]
    exact hl
  have HA := Lib.hid (callsIn_wide.1 (appendSeq_in (ns := ns) Fence.wide 3 trivial trivial rfl (Nat.le_refl _) Bm mb ns.length D w (World.block_lt_of_cell? _ _ hBm) hBm (h.map.nodes h.is) hsz))
  have HP := Lib.hid (fun ps => all_perm (ps := ps) h.is h.ids)
  clear h hBm
  go_enter Tryz.func147, Tryz.ntmps147
  go_wp2_with fail
  go_at_call 165
  refine HA.out.mono ?_
  rintro e w1 ⟨v, ps, rfl, hall, hm, hb⟩
  have HX := Lib.hid (HP.out ps hall)
  generalize ps.map (fun p => p.2.1) = xs at HX hm
  obtain ⟨A, cap, rfl, -⟩ := id hm.shape
  go_wp2_with fail
  go_ret
  exact ⟨A, cap, xs, rfl, HX.out, hm, hb⟩
theorem sortedFunc_any (h : DgS w g room mb ns D) (hl : ns.length ≤ 1000) (Bm : Nat) (hBm : w.cell? ⟨Bm, 0, none⟩ = some (.map (some mb))) :
    Calls Tryz.prog 118 #[.func (.func 149) #[] #[.pointer (some ⟨Bm, 0, none⟩)], .func (.func 120) #[] #[]] w fun e w' => ∃ A cap xs, e = .returned (.slice A xs.length cap) ∧ xs.Perm ns ∧ xs.Pairwise (fun x y => beforeP y.po x.po = false) ∧ LN.Mine w' w.heap.size (.slice A xs.length cap) xs ∧ Below w.heap.size w w' := by
  have HC := Lib.hid (collect_any h hl Bm hBm)
  have HL := Lib.hid hl
  clear h hBm hl
  go_enter Tryz.func118, Tryz.ntmps118
  go_wp2_with fail
  go_at_call 147
  refine HC.out.mono ?_
  rintro e w1 ⟨A, cap, xs, rfl, hp, hm, hb⟩
  have HX := Lib.hid hp
  have HB := Lib.hid hb
  have HM := Lib.hid hm
  have hlen : xs.length ≤ 1000 := by rw [hp.length_eq]; exact HL.out
  clear hp hm hb HC
  rcases id HM.out with ⟨hv, hxs⟩ | ⟨gg, off, cp, cur, hv, -⟩
  · subst hxs
    clear hv
    have HN := Lib.hid (fun W => AnyF.slices_SortFunc_none Tryz.sortE A cap (.func (.func 120) #[] #[]) W)
    go_wp2_with fail
    go_at_call 148
    refine (HN.out _).mono ?_
    rintro e w2 ⟨rfl, rfl⟩
    go_wp2_with fail
    go_ret
    exact ⟨A, cap, [], rfl, HX.out, List.Pairwise.nil, HM.out, HB.out⟩
  · injection hv with hA _ hcp
    subst hA
    clear hcp
    have HS := Lib.hid (sort_nodes (n := xs.length) (cap := cap) (xs := xs) HM.out rfl hlen)
    go_wp2_with fail
    go_at_call 148
    refine HS.out.mono ?_
    rintro e w2 ⟨rfl, ys, hp2, hpw, hm2, hb2⟩
    go_wp2_with fail
    go_ret
    have hle := hp2.length_eq
    exact ⟨some ⟨gg, off, none⟩, cap, ys, by rw [hle]; rfl, hp2.trans HX.out, hpw, by rw [hle]; exact hm2, HB.out.trans hb2⟩
theorem row_any (h : DgS w g room mb ns D) (hl : ns.length ≤ 1000) : Calls Tryz.prog 89 #[.pointer (some ⟨g, 0, none⟩)] w fun e w' => ∃ A cap xs, e = .returned (.slice A xs.length cap) ∧ xs.Perm ns ∧ xs.Pairwise (fun x y => beforeP y.po x.po = false) ∧ LN.Mine w' w.heap.size (.slice A xs.length cap) xs ∧ Below w.heap.size w w' := by
  have c1 := h.c1
  have HV := Lib.hid (callsIn_wide.1 (values_in Fence.wide 1 trivial rfl (some mb) w))
  have hb := below_new w (.cells #[.map (some mb)] 103)
  have HS := Lib.hid (sortedFunc_any (h.below hb) hl w.heap.size (cell_at (heap_alloc_new w (.cells #[.map (some mb)] 103)) 0))
  have HB := Lib.hid hb
  clear h hb
  go_enter Tryz.func89, Tryz.ntmps89
  go_wp2_with fail
  go_at_call 119
  refine HV.out.mono ?_
  rintro e w1 ⟨rfl, rfl⟩
  go_wp2_with fail
  go_at_call 118
  refine HS.out.mono ?_
  rintro e w2 ⟨A, cap, xs, rfl, hp, hpw, hm, hb2⟩
  go_wp2_with fail
  go_ret
  have hsz := HB.out.size
  exact ⟨A, cap, xs, rfl, hp, hpw, hm.mono hsz, HB.out.trans (hb2.mono hsz)⟩
theorem row_all (h : DgS w g room mb ns D) {xs : List NdV} (hp : xs.Perm ns) (hpw : xs.Pairwise (fun x y => beforeP y.po x.po = false)) : nevs xs = allL (nevs ns) := by
  obtain ⟨h1, h2⟩ := allL_row h.val
  refine sorted_unique (l := nevs ns) ?_ h1 (fun e => ?_)
  · unfold Sorted
    rw [List.pairwise_map]
    have hnd : (xs.map (fun n => n.x.ev.id)).Nodup := by
      have h3 := h.ids
      rw [List.map_map] at h3
      exact ((hp.map _).nodup_iff).2 h3
    rw [List.nodup_iff_pairwise_ne, List.pairwise_map] at hnd
    refine (hpw.and hnd).imp_of_mem (fun {a b} ha hb hab => ?_)
    have ea : posL (nevs ns) a.x.ev.id = a.po := by
      unfold posL NdV.po
      rw [← h.depth (hp.mem_iff.1 ha)]
    have eb : posL (nevs ns) b.x.ev.id = b.po := by
      unfold posL NdV.po
      rw [← h.depth (hp.mem_iff.1 hb)]
    rw [ea, eb]
    have hne : a.po ≠ b.po := fun e => hab.2 (by unfold NdV.po at e; injection e)
    rcases pos_total hne with k | k
    · exact k
    · rw [hab.1] at k; cases k
  · rw [h2 e]
    constructor
    · intro he
      obtain ⟨n, hn, rfl⟩ := List.mem_map.1 he
      exact List.mem_map.2 ⟨n, hp.mem_iff.1 hn, rfl⟩
    · intro he
      obtain ⟨n, hn, rfl⟩ := List.mem_map.1 he
      exact List.mem_map.2 ⟨n, hp.mem_iff.2 hn, rfl⟩
end
theorem make_evs (n : Nat) (hn : n ≤ 1000) : ∃ cs : Array Value, cs.size = n * 6 ∧ ∀ w, (Instr.makeSlice 23 (.int .i64 0) (.int .i64 (n : Int))).run Tryz.prog w = .ok (.slice (some ⟨w.heap.size, 0, none⟩) 0 n) (w.alloc (.cells cs 33)) := by
  obtain ⟨i0, hi0, hz0, hz1, hz2⟩ := info_parts knV.info
  have hb : (i0.bytes : Int) * (n : Int) ≤ 281474976710656 := by rw [hz2]; omega
  refine ⟨madeCells (Value.agg #[.string ⟨#[]⟩, .string ⟨#[]⟩, .slice none 0 0, .string ⟨#[]⟩, .string ⟨#[]⟩, .int .i64 0]).cells (n * 6), size_madeCells _ _, fun w => ?_⟩
  have hr := run_make (P := Tryz.prog) w 23 33 i0 _ Tryz.underlying23 hi0 hz0 .i64 .i64 0 (n : Int) (Int.le_refl _) (by omega) hb (by omega)
  rw [hz1, Int.toNat_natCast] at hr
  exact hr
theorem mine_evs (w : World) (n : Nat) (hn : n ≤ 1000) (cs : Array Value) (hc : cs.size = n * 6) : LV.Mine (w.alloc (.cells cs 33)) w.heap.size (.slice (some ⟨w.heap.size, 0, none⟩) 0 n) [] :=
  .inr ⟨w.heap.size, 0, n, cs, rfl, Nat.le_refl _, heap_alloc_new w _, Nat.zero_le _, by unfold maxLen; omega, by rw [show LV.c = 6 from rfl]; omega, by simp [Lies.vs]⟩
/-- While copies are gathered. -/
structure AlS (w wr : World) (u : Value) (ys : List EvV) : Prop where
  below : Below w.heap.size w wr
  row : LV.Mine wr w.heap.size u ys
  each : ∀ y ∈ ys, LT.Mine wr w.heap.size y.pv y.ev.parents
theorem AlS.on {w wr w2 : World} {u : Value} {ys : List EvV} (h : AlS w wr u ys) (hb : Below wr.heap.size wr w2) : AlS w w2 u ys :=
  ⟨h.below.trans (hb.mono h.below.size), h.row.below hb, fun y hy => (h.each y hy).below hb⟩
theorem AlS.put {w wr w2 : World} {u u' : Value} {ys : List EvV} {y : EvV} (h : AlS w wr u ys) (hy : LT.Mine wr w.heap.size y.pv y.ev.parents) (hm : LV.Mine w2 w.heap.size u' (ys ++ [y])) (hg : wr.grownBy w2 u.ownBlock) : AlS w w2 u' (ys ++ [y]) := by
  refine ⟨h.below.grown hg h.below.size (fun k hk => (h.row.lt k hk).1), hm, fun z hz => ?_⟩
  rcases List.mem_append.1 hz with hz | hz
  · exact (h.each z hz).grown hg (fun k hk => (h.each z hz).apart h.row (by decide) k hk)
  · rw [List.mem_singleton.1 hz]
    exact hy.grown hg (fun k hk => hy.apart h.row (by decide) k hk)
theorem nd_at {w : World} {A : Option Addr} {k cap i : Nat} {xs : List NdV} {n : NdV} (h : LN.Slice w (.slice A k cap) xs) (hi : xs[i]? = some n) : ∃ b off, A = some ⟨b, off, none⟩ ∧ b < w.heap.size ∧ w.rangeAt b (off + i * 7) n.cells := h.at hi

set_option maxHeartbeats 1600000 in
theorem all_any7 {w : World} {g mb : Nat} {room : ByteArray} {ns : List NdV} {D : Dv} (h : DgS w g room mb ns D) (hl : ns.length ≤ 1000) : Calls Tryz.prog 56 #[.pointer (some ⟨g, 0, none⟩)] w fun e w' => ∃ v ys, e = .returned v ∧ AlS w w' v ys ∧ evs ys = allL (nevs ns) := by
  have c1 := h.c1
  have hs : Maps.size D = ns.length := by
    obtain ⟨es, rfl, hp⟩ := h.is
    rw [Maps.size_eq, hp.length_eq, List.length_map]
  have hlen : ∀ ty, (Builtin.len_ #[103] ty #[.map (some mb)]).run Tryz.prog w = .ok (.int .i64 (ns.length : Int)) w := fun ty => by
    rw [← hs]
    exact World.ownsMap.len h.map Tryz.underlying103 ty
  obtain ⟨cs, hcs, hmk⟩ := make_evs ns.length hl
  have HA0 := Lib.hid (show AlS w (w.alloc (.cells cs 33)) (.slice (some ⟨w.heap.size, 0, none⟩) 0 ns.length) [] from ⟨below_new w _, mine_evs w ns.length hl cs hcs, fun y hy => by cases hy⟩)
  have HD := Lib.hid h
  have HR := Lib.hid (row_any (h.below (below_new w (.cells cs 33))) hl)
  clear h hs hcs
  go_enter Tryz.func56, Tryz.ntmps56
  go_upto_region 2 with (fail)
  clear hlen hmk c1
  generalize w.alloc _ = w1 at HA0 HR ⊢
  generalize Value.slice (some ⟨w.heap.size, 0, none⟩) 0 ns.length = u0 at HA0 ⊢
  go_wp2_with fail
  go_at_call 89
  refine HR.out.mono ?_
  rintro e w2 ⟨A, cap, xs, rfl, hp, hpw, hm, hb2⟩
  have HX := Lib.hid (row_all HD.out hp hpw)
  have HPM := Lib.hid hp
  have hxl : xs.length ≤ 1000 := by rw [hp.length_eq]; exact hl
  have HW1 := Lib.hid HA0.out.below
  have hw1 : w.heap.size ≤ w1.heap.size := HA0.out.below.size
  replace HA0 := Lib.hid (HA0.out.on hb2)
  have HM := Lib.hid hm
  have hcap : xs.length ≤ cap ∧ cap ≤ 9223372036854775807 := by
    obtain ⟨_, _, he, h5, hm5, -⟩ := hm.shape
    injection he with _ he2 he3
    unfold maxLen at hm5
    omega
  clear hp hpw hm hb2 HR
  obtain ⟨A0, c0, hu, -⟩ := id HA0.out.row.shape
  have hu0 : u0 = .slice A0 0 c0 := hu
  clear hu
  subst hu0
  go_wp2_with fail
  go_loopw [3, 15] (fun u i wr => ∃ (a : Nat) (ys : List EvV) (Ao : Option Addr) (co : Nat), u = .slice Ao ys.length co ∧ i = .int .i64 (a : Int) ∧ a ≤ xs.length ∧ ys.length ≤ a ∧ Hid (AlS w wr u ys) ∧ Hid (evs ys = (nevs xs).take a) ∧ Hid (LN.Mine wr w.heap.size (.slice A xs.length cap) xs)) (fun _ i _ => xs.length - (intOf i).toNat)
  case atStart => exact ⟨0, [], A0, c0, rfl, rfl, Nat.zero_le _, Nat.le_refl _, HA0, Lib.hid rfl, Lib.hid (HM.out.mono hw1)⟩
  case round =>
    obtain ⟨a, ys, Ao, co, rfl, rfl, ha, hya, HAR, HTK, HBR⟩ := hrel
    by_cases hlt : a < xs.length
    · have q1 : decide ((a : Int) < (xs.length : Int)) = true := decide_eq_true (by omega)
      have hn : xs[a]? = some xs[a] := List.getElem?_eq_getElem hlt
      generalize xs[a] = n at hn
      have hmem : n ∈ ns := HPM.out.mem_iff.1 (List.mem_of_getElem? hn)
      have HTS : Hid ((nevs xs).take (a + 1) = (nevs xs).take a ++ [n.x.ev]) := Lib.hid (by rw [List.take_add_one, List.getElem?_map, hn]; rfl)
      obtain ⟨bx, ox, hA, hbx, hrx⟩ := nd_at HBR.out.slice hn
      have hix := index_any (P := Tryz.prog) knN (by decide) (b := bx) (off := ox) (cap := cap) hlt
      simp only [LN] at hix
      have hr0 := hrx
      rw [hA]
      have x0 : wr.cell? ⟨bx, ox + a * 7, none⟩ = some (.string n.x.ev.id) := hr0 0 _ rfl
      have x1 : wr.cell? ⟨bx, ox + a * 7 + 1, none⟩ = some (.string n.x.ev.room) := hr0 1 _ rfl
      have x2 : wr.cell? ⟨bx, ox + a * 7 + 2, none⟩ = some (.slice n.x.A n.x.ev.parents.length n.x.cap) := hr0 2 _ rfl
      have x3 : wr.cell? ⟨bx, ox + a * 7 + 3, none⟩ = some (.string n.x.ev.thread) := hr0 3 _ rfl
      have x4 : wr.cell? ⟨bx, ox + a * 7 + 4, none⟩ = some (.string n.x.ev.user) := hr0 4 _ rfl
      have x5 : wr.cell? ⟨bx, ox + a * 7 + 5, none⟩ = some (.int .i64 n.x.ev.does) := hr0 5 _ rfl
      have x6 : wr.cell? ⟨bx, ox + a * 7 + 6, none⟩ = some (.int .i64 (n.d : Int)) := hr0 6 _ rfl
      have HMY := Lib.hid (HD.out.node hmem).1
      have HPA := Lib.hid (HD.out.par n hmem)
      have HWR : Hid (Below w.heap.size w wr) := Lib.hid HAR.out.below
      have HBX := Lib.hid (heap_alloc_new wr (.cells #[.string n.x.ev.id, .string n.x.ev.room, .slice n.x.A n.x.ev.parents.length n.x.cap, .string n.x.ev.thread, .string n.x.ev.user, .int .i64 n.x.ev.does, .int .i64 (n.d : Int)] 109))
      have HB4 := Lib.hid (below_new wr (.cells #[.string n.x.ev.id, .string n.x.ev.room, .slice n.x.A n.x.ev.parents.length n.x.cap, .string n.x.ev.thread, .string n.x.ev.user, .int .i64 n.x.ev.does, .int .i64 (n.d : Int)] 109))
      clear hr0 hrx hn hmem
      go_upto_region 5 with (fail)
      generalize wr.alloc _ = w4 at HBX HB4 ⊢
      have HA4 := Lib.hid (HAR.out.on HB4.out)
      have HBR4 := Lib.hid (HBR.out.below HB4.out)
      have HOW := Lib.hid (own_any n.x w4 ((HPA.out.slice.below HWR.out).below HB4.out) HMY.out)
      generalize wr.heap.size = B5 at HBX ⊢
      clear x0 x1 x2 x3 x4 x5 x6 HB4 HAR HBR HWR
      have s0 : w4.cell? ⟨B5, 0, none⟩ = some (.string n.x.ev.id) := cell_at HBX.out 0
      have s1 : w4.cell? ⟨B5, 1, none⟩ = some (.string n.x.ev.room) := cell_at HBX.out 1
      have s2 : w4.cell? ⟨B5, 2, none⟩ = some (.slice n.x.A n.x.ev.parents.length n.x.cap) := cell_at HBX.out 2
      have s3 : w4.cell? ⟨B5, 3, none⟩ = some (.string n.x.ev.thread) := cell_at HBX.out 3
      have s4 : w4.cell? ⟨B5, 4, none⟩ = some (.string n.x.ev.user) := cell_at HBX.out 4
      have s5 : w4.cell? ⟨B5, 5, none⟩ = some (.int .i64 n.x.ev.does) := cell_at HBX.out 5
      have s6 : w4.cell? ⟨B5, 6, none⟩ = some (.int .i64 (n.d : Int)) := cell_at HBX.out 6
      unfold EvV.val EvV.pv at HOW
      go_wp2_with fail
      go_at_call 86
      refine HOW.out.mono ?_
      rintro e w5 ⟨y, rfl, hy, hmy, b5⟩
      have HY := Lib.hid hy
      have hsz4 := HA4.out.below.size
      have HMYY := Lib.hid (show LT.Mine w5 w.heap.size y.pv y.ev.parents from hmy.mono hsz4)
      have HA5 := Lib.hid (HA4.out.on b5)
      have HBR5 := Lib.hid (HBR4.out.below b5)
      clear hy hmy b5 HOW s0 s1 s2 s3 s4 s5 s6 HA4 HBR4
      have hlit := Lib.hid (show LV.Slice (w5.alloc (.cells #[.string y.ev.id, .string y.ev.room, .slice y.A y.ev.parents.length y.cap, .string y.ev.thread, .string y.ev.user, .int .i64 y.ev.does] 33)) (.slice (some ⟨w5.heap.size, 0, none⟩) 1 1) [y] from lit_slice (L := LV) w5 y w5.heap.size rfl #[.string y.ev.id, .string y.ev.room, .slice y.A y.ev.parents.length y.cap, .string y.ev.thread, .string y.ev.user, .int .i64 y.ev.does] rfl)
      have hb6 := below_new w5 (.cells #[.string y.ev.id, .string y.ev.room, .slice y.A y.ev.parents.length y.cap, .string y.ev.thread, .string y.ev.user, .int .i64 y.ev.does] 33)
      have HA6 := Lib.hid (HA5.out.on hb6)
      have HMY6 := Lib.hid (HMYY.out.below hb6)
      have HBR6 := Lib.hid (HBR5.out.below hb6)
      have hsz6 : w.heap.size ≤ (w5.alloc (.cells #[.string y.ev.id, .string y.ev.room, .slice y.A y.ev.parents.length y.cap, .string y.ev.thread, .string y.ev.user, .int .i64 y.ev.does] 33)).heap.size := HA6.out.below.size
      clear hb6 HA5 HMYY HBR5
      go_wp2_with (at_builtin; refine wpList_puts rfl knV (.tmp 19) (.tmp 23) 23 rfl (v := .slice Ao ys.length co) rfl HA6.out.row hsz6 (.slice (some ⟨w5.heap.size, 0, none⟩) 1 1) [y] 1 rfl rfl (hlit.out.srcN knV rfl) (by omega) ?_; intro A7 cap7 w7 hm7 hg7 hb7; have HA7 := Lib.hid (HA6.out.put HMY6.out hm7 hg7); have HM7 := Lib.hid (HBR6.out.grown hg7 (fun k hk => HBR6.out.apart HA6.out.row (by decide) k hk)); clear hm7 hg7 hb7)
      rw [hA] at HM7
      refine ⟨⟨a + 1, ys ++ [y], A7, cap7, by rw [List.length_append]; rfl, by go_num, by omega, by rw [List.length_append]; simp only [List.length_cons, List.length_nil]; omega, HA7, Lib.hid (by rw [HTS.out, ← HTK.out, evs, List.map_append, List.map_cons, List.map_nil, HY.out]), HM7⟩, ?_⟩
      simp [intOf]; omega
    · have q1 : decide ((a : Int) < (xs.length : Int)) = false := decide_eq_false (by omega)
      have HEND : Hid (evs ys = allL (nevs ns)) := Lib.hid (by rw [HTK.out, ← HX.out, List.take_of_length_le (by rw [List.length_map]; omega)])
      go_wp2_with fail
      go_ret
      exact ⟨_, ys, rfl, HAR.out, HEND.out⟩
end Go.Proofs.YtjiecjpepiknmaaGreat

namespace Go.Proofs.YtjiecjpepiknmaaGreat
set_option maxRecDepth 20000
open Go.RowKit
set_option linter.unusedVariables false
set_option linter.unusedSimpArgs false
theorem codeAlls : DagAlls codeDags := ⟨fun {w g room l} h hl => by
  obtain ⟨mb, ns, D, h, rfl⟩ := h
  refine (all_any7 h (by rw [nevs_len] at hl; omega)).mono ?_
  rintro e w' ⟨v, ys, rfl, ha, hev⟩
  have hst := h.still ha.below
  have hno : ∀ k, w.heap.size ≤ k → ¬ ownC w' g k := fun k hk ho => by
    have h3 := h.old ((h.own k).2 (((h.below ha.below).own k).1 ho))
    omega
  refine ⟨v, rfl, ys, ha.row, fun k hk => hno k (ha.row.lt k hk).1, fun y hy => ⟨⟨(ha.each y hy).slice, ?_⟩, ha.each y hy, fun k hk => hno k ((ha.each y hy).lt k hk).1⟩, hev, hst.1, hst.2⟩
  have hm : y.ev ∈ allL (nevs ns) := by rw [← hev]; exact List.mem_map.2 ⟨y, hy, rfl⟩
  obtain ⟨n, hn, he⟩ := List.mem_map.1 (((allL_row h.val).2 y.ev).1 hm)
  rw [← he]
  exact may_ok (h.node hn).1⟩
end Go.Proofs.YtjiecjpepiknmaaGreat

namespace Go.Proofs.YtjiecjpepiknmaaGreat
set_option maxRecDepth 20000
open Go.RowKit Go.Maps Go.ChangeMaps
set_option linter.unusedVariables false
set_option linter.unusedSimpArgs false

/-- The map says of each text whether it is there. -/
structure PaS (w : World) (mb n : Nat) (b : ByteArray → Bool) : Prop where
  is : ∃ D : Dv, OwnN w mb n D ∧ ∀ k, D.atKey (kl k) (.held (.bool false)) = .held (.bool (b k))
theorem zeroB (w : World) : (zeroValue 4).run Tryz.prog w = .ok (.bool false) w := by kernel_rfl
theorem PaS.made (w : World) : PaS (w.alloc (.map #[] 0)) w.heap.size 0 (fun _ => false) := ⟨.map [], World.ownsMap_made w _ _ _, fun k => WideAt.atKey_none _ (fun p hp => by cases hp)⟩
theorem PaS.keep {w w' : World} {mb n : Nat} {b : ByteArray → Bool} (h : PaS w mb n b) (hb : w'.heap[mb]? = w.heap[mb]?) : PaS w' mb n b := by
  obtain ⟨D, h1, h2⟩ := h.is
  exact ⟨D, h1.keep hb, h2⟩
theorem PaS.more {w : World} {mb n n' : Nat} {b : ByteArray → Bool} (h : PaS w mb n b) (hn : n ≤ n') : PaS w mb n' b := by
  obtain ⟨D, h1, h2⟩ := h.is
  exact ⟨D, World.ownsMap.mono h1 hn, h2⟩
theorem PaS.same {w : World} {mb n : Nat} {b b' : ByteArray → Bool} (h : PaS w mb n b) (hn : ∀ k, b k = b' k) : PaS w mb n b' := by
  obtain ⟨D, h1, h2⟩ := h.is
  exact ⟨D, h1, fun k => by rw [h2, hn]⟩
theorem PaS.lt {w : World} {mb n : Nat} {b : ByteArray → Bool} (h : PaS w mb n b) : mb < w.heap.size := by
  obtain ⟨D, h1, _⟩ := h.is
  exact h1.lt
theorem PaS.look {w : World} {mb n : Nat} {b : ByteArray → Bool} (h : PaS w mb n b) {k : ByteArray} (hk : k.size ≤ maxLen) : (Instr.lookup 113 (.map (some mb)) (.string k) false).run Tryz.prog w = .ok (.bool (b k)) w := by
  obtain ⟨D, h1, h2⟩ := h.is
  obtain ⟨v, ps, hr, hv⟩ := World.ownsMap.lookup h1 keyed Tryz.underlying113 (zeroB w) (zd := .held (.bool false)) (zp := []) rfl (keyIs hk)
  rw [h2] at hv
  injection hv with hv
  injection hv with hv _
  injection hv with hv
  rw [hr, hv]
theorem PaS.put {w : World} {mb n : Nat} {b : ByteArray → Bool} (h : PaS w mb n b) (hn : n < maxLen) {p : ByteArray} (hp : p.size ≤ maxLen) : ∃ w', (Instr.mapUpdate 113 (.map (some mb)) (.string p) (.bool true)).run Tryz.prog w = .ok () w' ∧ PaS w' mb (n + 1) (fun k => b k || decide (p = k)) ∧ w.grownBy w' (some mb) := by
  obtain ⟨D, h1, h2⟩ := h.is
  obtain ⟨w', hr, ho, hg⟩ := World.ownsMap.update h1 keyed Tryz.underlying113 hn (key := .string p) (val := .bool true) (d := .held (.bool true)) (ps := []) (keyIs hp) rfl
  refine ⟨w', hr, ⟨_, ho, fun k => ?_⟩, hg⟩
  by_cases hk : k = p
  · subst hk
    rw [Maps.atKey_put_same (World.ownsMap.isMap h1) (kl_key _)]
    simp
  · rw [Maps.atKey_put_other (fun e => hk (kl_inj e)), h2]
    rw [decide_eq_false (fun e => hk e.symm), Bool.or_false]
/-- A row is no map. -/
theorem mine_map {α : Type} {L : Lies α} {w : World} {B mb n : Nat} {v : Value} {xs : List α} {b : ByteArray → Bool} (h : L.Mine w B v xs) (hm : PaS w mb n b) : ∀ k, v.ownBlock = some k → some k ≠ some mb := by
  intro k hk he
  injection he with he
  subst he
  obtain ⟨D, ⟨es, clock, hb, _⟩, _⟩ := hm.is
  rcases h with ⟨rfl, _⟩ | ⟨g, off, cap, cur, rfl, _, hh, _⟩
  · cases hk
  · simp only [Value.ownBlock, Option.some.injEq] at hk
    subst hk
    rw [hb] at hh
    cases hh
/-- While texts are passed. -/
structure HeS (w wr : World) (mb n : Nat) (b : ByteArray → Bool) (v : Value) (xs : List NdV) : Prop where
  below : Below w.heap.size w wr
  new : w.heap.size ≤ mb
  map : PaS wr mb n b
  row : LN.Mine wr w.heap.size v xs
theorem HeS.on {w wr w2 : World} {mb n : Nat} {b : ByteArray → Bool} {v : Value} {xs : List NdV} (h : HeS w wr mb n b v xs) (hb : Below wr.heap.size wr w2) : HeS w w2 mb n b v xs :=
  ⟨h.below.trans (hb.mono h.below.size), h.new, h.map.keep (hb.block mb h.map.lt), h.row.below hb⟩
theorem HeS.put {w wr : World} {mb n : Nat} {b : ByteArray → Bool} {v : Value} {xs : List NdV} (h : HeS w wr mb n b v xs) (hn : n < maxLen) {p : ByteArray} (hp : p.size ≤ maxLen) : ∃ w', (Instr.mapUpdate 113 (.map (some mb)) (.string p) (.bool true)).run Tryz.prog wr = .ok () w' ∧ HeS w w' mb (n + 1) (fun k => b k || decide (p = k)) v xs := by
  obtain ⟨w', hr, h1, hg⟩ := h.map.put hn hp
  exact ⟨w', hr, h.below.grown hg h.below.size (fun k hk => by injection hk with hk; rw [← hk]; exact h.new), h.new, h1, h.row.grown hg (mine_map h.row h.map)⟩
theorem HeS.same {w wr : World} {mb n n' : Nat} {b b' : ByteArray → Bool} {v : Value} {xs : List NdV} (h : HeS w wr mb n b v xs) (hn : n ≤ n') (hb : ∀ k, b k = b' k) : HeS w wr mb n' b' v xs := ⟨h.below, h.new, (h.map.more hn).same hb, h.row⟩
theorem HeS.grown {w wr w2 : World} {mb n : Nat} {b : ByteArray → Bool} {v : Value} {xs : List NdV} {row : Option Nat} (h : HeS w wr mb n b v xs) (hg : wr.grownBy w2 row) (hr : ∀ k, row = some k → w.heap.size ≤ k) (hm : some mb ≠ row) (hx : ∀ k, v.ownBlock = some k → some k ≠ row) : HeS w w2 mb n b v xs :=
  ⟨h.below.grown hg h.below.size hr, h.new, h.map.keep (hg.block mb h.map.lt hm), h.row.grown hg hx⟩
theorem isHead_row {l a : List Ev} (h : ∀ e, e ∈ a ↔ e ∈ l) (k : ByteArray) : isHead a k = isHead l k := by
  unfold isHead
  rw [Bool.eq_iff_iff, List.all_eq_true, List.all_eq_true]
  exact ⟨fun h1 e he => h1 e ((h e).2 he), fun h1 e he => h1 e ((h e).1 he)⟩

set_option maxHeartbeats 1600000 in
theorem heads_any7 {w : World} {g mb : Nat} {room : ByteArray} {ns : List NdV} {D : Dv} (h : DgS w g room mb ns D) (hl : ns.length ≤ 1000) : Calls Tryz.prog 59 #[.pointer (some ⟨g, 0, none⟩)] w fun e w' => ∃ v, e = .returned v ∧ HdS w w' v (headsL (nevs ns)) := by
  have HD := Lib.hid h
  have HR := Lib.hid (row_any h hl)
  clear h
  go_enter Tryz.func59, Tryz.ntmps59
  go_wp2_with fail
  go_at_call 89
  refine HR.out.mono ?_
  rintro e w2 ⟨A, cap, xs, rfl, hp, hpw, hm, hb2⟩
  have HX := Lib.hid (row_all HD.out hp hpw)
  have HPM := Lib.hid hp
  have hxl : xs.length ≤ 1000 := by rw [hp.length_eq]; exact hl
  have hcap : xs.length ≤ cap ∧ cap ≤ 9223372036854775807 := by
    obtain ⟨_, _, he, h5, hm5, -⟩ := hm.shape
    injection he with _ he2 he3
    unfold maxLen at hm5
    omega
  have HH0 := Lib.hid (show HeS w (w2.alloc (.map #[] 0)) w2.heap.size 0 (fun _ => false) (.slice A xs.length cap) xs from ⟨hb2.trans ((below_new w2 _).mono hb2.size), hb2.size, PaS.made w2, hm.below (below_new w2 _)⟩)
  have hmm := @run_makeMap Tryz.prog
  clear hp hpw hm hb2 HR
  go_upto_region 3 with (fail)
  clear hmm
  generalize w2.alloc _ = w3 at HH0 ⊢
  generalize w2.heap.size = M at HH0 ⊢
  go_wp2_with fail
  go_loopw [18] (fun i wr => ∃ a : Nat, i = .int .i64 (a : Int) ∧ a ≤ xs.length ∧ Hid (HeS w wr M (a * 10) (fun k => !headTo (nevs xs) k a) (.slice A xs.length cap) xs)) (fun i _ => xs.length - (intOf i).toNat)
  case atStart => exact ⟨0, rfl, Nat.zero_le _, Lib.hid (HH0.out.same (Nat.zero_le _) (fun k => rfl))⟩
  case round =>
    obtain ⟨a, rfl, ha, HA⟩ := hrel
    by_cases hlt : a < xs.length
    · have q1 : decide ((a : Int) < (xs.length : Int)) = true := decide_eq_true (by omega)
      have hn : xs[a]? = some xs[a] := List.getElem?_eq_getElem hlt
      generalize xs[a] = n at hn
      have hmem : n ∈ ns := HPM.out.mem_iff.1 (List.mem_of_getElem? hn)
      have HNE : Hid ((nevs xs)[a]? = some n.x.ev) := Lib.hid (by rw [List.getElem?_map, hn]; rfl)
      obtain ⟨bx, ox, hA, hbx, hrx⟩ := nd_at HA.out.row.slice hn
      have hix := index_any (P := Tryz.prog) knN (by decide) (b := bx) (off := ox) (cap := cap) hlt
      simp only [LN] at hix
      have hr0 := hrx
      rw [hA]
      have x0 : wr.cell? ⟨bx, ox + a * 7, none⟩ = some (.string n.x.ev.id) := hr0 0 _ rfl
      have x1 : wr.cell? ⟨bx, ox + a * 7 + 1, none⟩ = some (.string n.x.ev.room) := hr0 1 _ rfl
      have x2 : wr.cell? ⟨bx, ox + a * 7 + 2, none⟩ = some (.slice n.x.A n.x.ev.parents.length n.x.cap) := hr0 2 _ rfl
      have x3 : wr.cell? ⟨bx, ox + a * 7 + 3, none⟩ = some (.string n.x.ev.thread) := hr0 3 _ rfl
      have x4 : wr.cell? ⟨bx, ox + a * 7 + 4, none⟩ = some (.string n.x.ev.user) := hr0 4 _ rfl
      have x5 : wr.cell? ⟨bx, ox + a * 7 + 5, none⟩ = some (.int .i64 n.x.ev.does) := hr0 5 _ rfl
      have x6 : wr.cell? ⟨bx, ox + a * 7 + 6, none⟩ = some (.int .i64 (n.d : Int)) := hr0 6 _ rfl
      have HOK := Lib.hid (may_ok (HD.out.node hmem).1)
      have HPA := Lib.hid (HD.out.par n hmem).slice
      have HPN := Lib.hid (may_short (HD.out.node hmem).1)
      have HBX := Lib.hid (heap_alloc_new wr (.cells #[.string n.x.ev.id, .string n.x.ev.room, .slice n.x.A n.x.ev.parents.length n.x.cap, .string n.x.ev.thread, .string n.x.ev.user, .int .i64 n.x.ev.does, .int .i64 (n.d : Int)] 109))
      have HB4 := Lib.hid (below_new wr (.cells #[.string n.x.ev.id, .string n.x.ev.room, .slice n.x.A n.x.ev.parents.length n.x.cap, .string n.x.ev.thread, .string n.x.ev.user, .int .i64 n.x.ev.does, .int .i64 (n.d : Int)] 109))
      clear hr0 hrx hn hmem
      go_upto_region 6 with (fail)
      generalize wr.alloc _ = w4 at HBX HB4 ⊢
      have HA4 := Lib.hid (HA.out.on HB4.out)
      generalize wr.heap.size = B5 at HBX ⊢
      clear x0 x1 x2 x3 x4 x5 x6 HB4 HA
      have s2 : w4.cell? ⟨B5, 2, none⟩ = some (.slice n.x.A n.x.ev.parents.length n.x.cap) := cell_at HBX.out 2
      unfold EvV.pv at HPA
      obtain ⟨-, -, -, -, hps, -, -, hpl⟩ := id HPN.out
      have HPS := Lib.hid hps
      clear hps
      clear hbx wr
      go_wp2_with fail
      go_loopw [26] (fun i wr => ∃ j : Nat, i = .int .i64 (j : Int) ∧ j ≤ n.x.ev.parents.length ∧ Hid (HeS w wr M (a * 10 + j) (fun k => !headJ (nevs xs) k a n.x.ev j) (.slice A xs.length cap) xs)) (fun i _ => n.x.ev.parents.length - (intOf i).toNat)
      case atStart => exact ⟨0, rfl, Nat.zero_le _, Lib.hid (HA4.out.same (Nat.le_refl _) (fun k => by rw [headJ_zero]))⟩
      case round =>
        obtain ⟨j, rfl, hj, HJ⟩ := hrel
        by_cases hjl : j < n.x.ev.parents.length
        · have q2 : decide ((j : Int) < (n.x.ev.parents.length : Int)) = true := decide_eq_true (by omega)
          have hp : n.x.ev.parents[j]? = some n.x.ev.parents[j] := List.getElem?_eq_getElem hjl
          generalize n.x.ev.parents[j] = p at hp
          have HP := Lib.hid hp
          obtain ⟨b8, o8, hA8, hb8, hr8⟩ := text_at HPA.out hp
          have hi8 := index_any (P := Tryz.prog) knT (by decide) (b := b8) (off := o8) (cap := n.x.cap) hjl
          simp only [LT, Nat.mul_one] at hi8
          have y0 : wr.cell? ⟨b8, o8 + j, none⟩ = some (.string p) := (HJ.out.below.cell (p := ⟨b8, o8 + j, none⟩) hb8).trans hr8
          obtain ⟨w9, hru, h9⟩ := HJ.out.put (by unfold maxLen; omega) (p := p) (by have := HPS.out p (List.mem_of_getElem? hp); unfold maxLen; omega)
          have H9 := Lib.hid h9
          clear h9 hp hr8
          rw [hA8]
          go_wp2_with fail
          refine ⟨⟨j + 1, by go_num, by omega, Lib.hid (H9.out.same (Nat.le_refl _) (fun k => by rw [headJ_succ HP.out]; cases headJ (nevs xs) k a n.x.ev j <;> cases decide (p = k) <;> rfl))⟩, ?_⟩
          simp [intOf]; omega
        · have q2 : decide ((j : Int) < (n.x.ev.parents.length : Int)) = false := decide_eq_false (by omega)
          obtain rfl : j = n.x.ev.parents.length := by omega
          rw [hA] at HJ
          go_wp2_with fail
          refine ⟨⟨a + 1, by go_num, by omega, Lib.hid (HJ.out.same (n' := (a + 1) * 10) (by omega) (fun k => by rw [headJ_all HNE.out]))⟩, ?_⟩
          simp [intOf]; omega
    · have q1 : decide ((a : Int) < (xs.length : Int)) = false := decide_eq_false (by omega)
      obtain rfl : a = xs.length := by omega
      have HIS : Hid (∀ k, headTo (nevs xs) k xs.length = isHead (nevs ns) k) := Lib.hid (fun k => by
        rw [← isHead_row (a := nevs xs) (l := nevs ns) (fun e => by rw [HX.out]; exact (allL_row HD.out.val).2 e) k, ← headTo_all, List.length_map])
      have HA9 := Lib.hid (HA.out.same (b' := fun k => !isHead (nevs ns) k) (Nat.le_refl _) (fun k => by rw [HIS.out]))
      have HO0 : Hid (HdS w wr (.slice none 0 0) []) := Lib.hid ⟨HA.out.below, Lies.Mine.nil _ _⟩
      clear HA HIS
      go_upto_region 13 with (fail)
      generalize wr = w6 at HA9 HO0 ⊢
      go_wp2_with fail
      go_loopw [9, 36] (fun u i wr => ∃ (a : Nat) (ts : List ByteArray) (Ao : Option Addr) (co : Nat), u = .slice Ao ts.length co ∧ i = .int .i64 (a : Int) ∧ a ≤ xs.length ∧ ts.length ≤ a ∧ Hid (HeS w wr M (xs.length * 10) (fun k => !isHead (nevs ns) k) (.slice A xs.length cap) xs) ∧ Hid (HdS w wr u ts) ∧ Hid (ts = headsTo (nevs ns) (nevs xs) a)) (fun _ i _ => xs.length - (intOf i).toNat)
      case atStart => exact ⟨0, [], none, 0, rfl, rfl, Nat.zero_le _, Nat.le_refl _, HA9, HO0, Lib.hid rfl⟩
      case round =>
        obtain ⟨a, ts, Ao, co, rfl, rfl, ha, hta, HA, HO, HT⟩ := hrel
        by_cases hlt : a < xs.length
        · have q1 : decide ((a : Int) < (xs.length : Int)) = true := decide_eq_true (by omega)
          have hn : xs[a]? = some xs[a] := List.getElem?_eq_getElem hlt
          generalize xs[a] = n at hn
          have hmem : n ∈ ns := HPM.out.mem_iff.1 (List.mem_of_getElem? hn)
          have HNE : Hid ((nevs xs)[a]? = some n.x.ev) := Lib.hid (by rw [List.getElem?_map, hn]; rfl)
          obtain ⟨bx, ox, hA, hbx, hrx⟩ := nd_at HA.out.row.slice hn
          have hix := index_any (P := Tryz.prog) knN (by decide) (b := bx) (off := ox) (cap := cap) hlt
          simp only [LN] at hix
          have hr0 := hrx
          rw [hA]
          have x0 : wr.cell? ⟨bx, ox + a * 7, none⟩ = some (.string n.x.ev.id) := hr0 0 _ rfl
          have x1 : wr.cell? ⟨bx, ox + a * 7 + 1, none⟩ = some (.string n.x.ev.room) := hr0 1 _ rfl
          have x2 : wr.cell? ⟨bx, ox + a * 7 + 2, none⟩ = some (.slice n.x.A n.x.ev.parents.length n.x.cap) := hr0 2 _ rfl
          have x3 : wr.cell? ⟨bx, ox + a * 7 + 3, none⟩ = some (.string n.x.ev.thread) := hr0 3 _ rfl
          have x4 : wr.cell? ⟨bx, ox + a * 7 + 4, none⟩ = some (.string n.x.ev.user) := hr0 4 _ rfl
          have x5 : wr.cell? ⟨bx, ox + a * 7 + 5, none⟩ = some (.int .i64 n.x.ev.does) := hr0 5 _ rfl
          have x6 : wr.cell? ⟨bx, ox + a * 7 + 6, none⟩ = some (.int .i64 (n.d : Int)) := hr0 6 _ rfl
          have hid := (may_short (HD.out.node hmem).1).1
          have HC := Lib.hid (fun W => clone_any n.x.ev.id W (by omega))
          have HBX := Lib.hid (heap_alloc_new wr (.cells #[.string n.x.ev.id, .string n.x.ev.room, .slice n.x.A n.x.ev.parents.length n.x.cap, .string n.x.ev.thread, .string n.x.ev.user, .int .i64 n.x.ev.does, .int .i64 (n.d : Int)] 109))
          have HB4 := Lib.hid (below_new wr (.cells #[.string n.x.ev.id, .string n.x.ev.room, .slice n.x.A n.x.ev.parents.length n.x.cap, .string n.x.ev.thread, .string n.x.ev.user, .int .i64 n.x.ev.does, .int .i64 (n.d : Int)] 109))
          clear hr0 hrx hn hmem
          go_upto_region 16 with (fail)
          generalize wr.alloc _ = w4 at HBX HB4 ⊢
          have HA4 := Lib.hid (HA.out.on HB4.out)
          have HO4 := Lib.hid (HO.out.on HB4.out)
          generalize wr.heap.size = B5 at HBX ⊢
          clear x0 x1 x2 x3 x4 x5 x6 HB4 HA HO
          have s0 : w4.cell? ⟨B5, 0, none⟩ = some (.string n.x.ev.id) := cell_at HBX.out 0
          have hlk : (Instr.lookup 113 (.map (some M)) (.string n.x.ev.id) false).run Tryz.prog w4 = .ok (.bool (!isHead (nevs ns) n.x.ev.id)) w4 := HA4.out.map.look (by unfold maxLen; omega)
          cases hh : isHead (nevs ns) n.x.ev.id
          · have HH := Lib.hid hh
            rw [hh] at hlk
            clear hh
            go_wp2_with fail
            rw [hA] at HA4
            refine ⟨⟨a + 1, ts, Ao, co, rfl, by go_num, by omega, by omega, HA4, HO4, Lib.hid (by rw [headsTo_no HNE.out HH.out]; exact HT.out)⟩, ?_⟩
            simp [intOf]; omega
          · have HH := Lib.hid hh
            rw [hh] at hlk
            clear hh
            go_wp2_with fail
            go_at_call 88
            refine (HC.out _).mono ?_
            rintro e w5 ⟨rfl, b5⟩
            have HA5 := Lib.hid (HA4.out.on b5)
            have HO5 := Lib.hid (HO4.out.on b5)
            clear b5 s0 hlk HA4 HO4
            have hlit := Lib.hid (show LT.Slice (w5.alloc (.cells #[.string n.x.ev.id] 9)) (.slice (some ⟨w5.heap.size, 0, none⟩) 1 1) [n.x.ev.id] from lit_slice (L := LT) w5 n.x.ev.id w5.heap.size rfl #[.string n.x.ev.id] rfl)
            have hb6 := below_new w5 (.cells #[.string n.x.ev.id] 9)
            have HA6 := Lib.hid (HA5.out.on hb6)
            have HO6 := Lib.hid (HO5.out.on hb6)
            have hsz6 : w.heap.size ≤ (w5.alloc (.cells #[.string n.x.ev.id] 9)).heap.size := HO6.out.below.size
            clear hb6 HA5 HO5
            go_wp2_with (at_builtin; refine wpList_puts rfl knT (.tmp 47) (.tmp 50) 31 rfl (v := .slice Ao ts.length co) rfl HO6.out.row hsz6 (.slice (some ⟨w5.heap.size, 0, none⟩) 1 1) [n.x.ev.id] 1 rfl rfl (hlit.out.srcN knT rfl) (by omega) ?_; intro A7 cap7 w7 m7 g7 o7; have H7 : Hid (HdS w w7 (.slice A7 (ts.length + 1) cap7) (ts ++ [n.x.ev.id])) := Lib.hid ⟨HO6.out.below.grown g7 hsz6 (fun k hk => (HO6.out.row.lt k hk).1), m7⟩; have H8 := Lib.hid (HA6.out.grown g7 (fun k hk => (HO6.out.row.lt k hk).1) (fun e => mine_map HO6.out.row HA6.out.map M e.symm rfl) (fun k hk => HA6.out.row.apart HO6.out.row (by decide) k hk)); clear m7 g7 o7)
            rw [hA] at H8
            refine ⟨⟨a + 1, ts ++ [n.x.ev.id], A7, cap7, by rw [List.length_append]; rfl, by go_num, by omega, by rw [List.length_append]; simp only [List.length_cons, List.length_nil]; omega, H8, H7, Lib.hid (by rw [headsTo_yes HNE.out HH.out, ← HT.out])⟩, ?_⟩
            simp [intOf]; omega
        · have q1 : decide ((a : Int) < (xs.length : Int)) = false := decide_eq_false (by omega)
          obtain rfl : a = xs.length := by omega
          have HF : Hid (ts = headsL (nevs ns)) := Lib.hid (by rw [HT.out, ← headsTo_all, ← HX.out, List.length_map])
          go_wp2_with fail
          go_ret
          exact ⟨_, rfl, by rw [← HF.out]; exact HO.out⟩
theorem codeHds : DagHds codeDags := ⟨fun {w g room l} h hl => by
  obtain ⟨mb, ns, D, h, rfl⟩ := h
  refine (heads_any7 h (by rw [nevs_len] at hl; omega)).mono ?_
  rintro e w' ⟨v, rfl, ho⟩
  have hst := h.still ho.below
  refine ⟨v, rfl, ho.row, fun k hk hw => ?_, hst.1, hst.2⟩
  have h2 := (ho.row.lt k hk).1
  have h3 := h.old ((h.own k).2 (((h.below ho.below).own k).1 hw))
  omega⟩
end Go.Proofs.YtjiecjpepiknmaaGreat

namespace Go.Proofs.YtjiecjpepiknmaaGreat
set_option maxRecDepth 20000
open Go.RowKit
set_option linter.unusedVariables false
set_option linter.unusedSimpArgs false
section
variable {w : World} {g mb : Nat} {room : ByteArray} {ns : List NdV} {D : Dv}
theorem room_code7 (h : DgS w g room mb ns D) : Calls Tryz.prog 54 #[.pointer (some ⟨g, 0, none⟩)] w fun e w' => e = .returned (.string room) ∧ Below w.heap.size w w' := by
  have c0 : w.cell? ⟨g, 0, none⟩ = some (.string room) := cell_at h.hd 0
  have hs := h.rs
  have HC := Lib.hid (fun W => clone_any room W (by omega))
  clear h hs
  go_enter Tryz.func54, Tryz.ntmps54
  go_wp2_with fail
  go_at_call 88
  refine (HC.out _).mono ?_
  rintro e w1 ⟨rfl, hb⟩
  go_wp2_with fail
  go_ret
  exact ⟨rfl, hb⟩
end
theorem codeRms : DagRms codeDags := ⟨fun {w g room l} h hl => by
  obtain ⟨mb, ns, D, h, rfl⟩ := h
  refine (room_code7 h).mono ?_
  rintro e w' ⟨rfl, hb⟩
  exact ⟨rfl, h.still hb⟩⟩
end Go.Proofs.YtjiecjpepiknmaaGreat
