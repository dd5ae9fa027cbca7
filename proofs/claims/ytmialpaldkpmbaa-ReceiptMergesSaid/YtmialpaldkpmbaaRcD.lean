/-
  Package receipt: Compare, what All and Public hand to the library, New, Len, Get, Put.
-/
import Derived.Test.YtmialpaldkpmbaaRcC
namespace Go.Proofs.Ytmialpaldkpmbaa
set_option maxRecDepth 20000
open Go.RowKit Go.Maps Go.ChangeMaps
set_option linter.unusedVariables false
set_option linter.unusedSimpArgs false
/-- Two boxes, while what is new is made. -/
structure TwG (w wr : World) (B1 : Nat) (o1 : Obj) (B2 : Nat) (o2 : Obj) : Prop where
  b1 : wr.heap[B1]? = some o1
  b2 : wr.heap[B2]? = some o2
  gr : Gr w wr
theorem TwoB.tw {w wr : World} {B1 B2 : Nat} {o1 o2 : Obj} (h : TwoB w wr B1 o1 B2 o2) : TwG w wr B1 o1 B2 o2 := ⟨h.bo.box, h.res, h.gr⟩
theorem TwG.on {w wr w2 : World} {B1 B2 : Nat} {o1 o2 : Obj} (h : TwG w wr B1 o1 B2 o2) (hg : Gr wr w2) : TwG w w2 B1 o1 B2 o2 := ⟨(hg.below.block B1 (smem_lt h.b1)).trans h.b1, (hg.below.block B2 (smem_lt h.b2)).trans h.b2, h.gr.trans hg⟩

set_option maxHeartbeats 1600000 in
theorem rcCompare_any (a b : Rk) (w : World) : Calls Try.prog 27 #[a.val, b.val] w fun e w' => e = .returned (.int .i64 (cmpK a b)) ∧ Gr w w' := by
  have HT := Lib.hid (TwoB.start w (.cells #[.string a.room, .string a.user, .string a.thread, .bool a.priv] 43 (0, 0)) (.cells #[.string b.room, .string b.user, .string b.thread, .bool b.priv] 43 (0, 0)))
  have HQ1 := Lib.hid (fun W => Try.strings_Compare a.room b.room W)
  have HQ2 := Lib.hid (fun W => Try.strings_Compare a.user b.user W)
  have HQ3 := Lib.hid (fun W => Try.strings_Compare a.thread b.thread W)
  have HQ4 := Lib.hid (fun W => rank_any a.priv W)
  have HQ5 := Lib.hid (fun W => rank_any b.priv W)
  have HQ6 := Lib.hid (fun W => Try.cmp_Compare_int (rankI a.priv) (rankI b.priv) W)
  have HU := Lib.hid (cmpK_orL a b)
  generalize Lib.compareBytes a.room.data.toList b.room.data.toList = x1 at HQ1 HU
  generalize Lib.compareBytes a.user.data.toList b.user.data.toList = x2 at HQ2 HU
  generalize Lib.compareBytes a.thread.data.toList b.thread.data.toList = x3 at HQ3 HU
  generalize Lib.compareInt (rankI a.priv) (rankI b.priv) = x6 at HQ6 HU
  generalize rankI a.priv = x4 at HQ4 HQ6
  generalize rankI b.priv = x5 at HQ5 HQ6
  unfold Rk.val
  go_enter Try.func27, Try.ntmps27
  go_upto_region 1 with (fail)
  generalize World.alloc _ _ = w1 at HT ⊢
  generalize w.heap.size + 1 = B3 at HT ⊢
  generalize hB2 : w.heap.size = B2 at HT ⊢
  refine wp_region_held_drew (S := fun W => TwG w W B2 (.cells #[.string a.room, .string a.user, .string a.thread, .bool a.priv] 43 (0, 0)) B3 (.cells #[.string b.room, .string b.user, .string b.thread, .bool b.priv] 43 (0, 0))) (by kernel_rfl) (HT.out.tw.on ((Gr.refl _).drew)) (fun hHeld => ?_)
  clear HT
  generalize w1.drew = wd at hHeld ⊢
  refine wpAnyH_take (i := 0) (oi := ⟨some 5, _, _, _, _, _⟩) (v := ?vc0) rfl (by kernel_rfl) (by kernel_rfl) (by kernel_rfl) (fun _ _ _ h => h) (Or.inl ⟨by rfl, ?yc0⟩) hHeld ?rc0
  case yc0 =>
    intro wx hSx
    go_simp
    try with_reducible rfl
  try simp only [Act.put, List.setIfInBounds_toArray, List.set_cons_zero, List.set_cons_succ]
  refine wpAnyH_take (i := 2) (oi := ⟨some 7, _, _, _, _, _⟩) (v := ?vc2) rfl (by kernel_rfl) (by kernel_rfl) (by kernel_rfl) (fun _ _ _ h => h) (Or.inl ⟨by rfl, ?yc2⟩) hHeld ?rc2
  case yc2 =>
    intro wx hSx
    go_simp
    try with_reducible rfl
  try simp only [Act.put, List.setIfInBounds_toArray, List.set_cons_zero, List.set_cons_succ]
  refine wpAnyH_take (i := 5) (oi := ⟨some 10, _, _, _, _, _⟩) (v := ?vc5) rfl (by kernel_rfl) (by kernel_rfl) (by kernel_rfl) (fun _ _ _ h => h) (Or.inl ⟨by rfl, ?yc5⟩) hHeld ?rc5
  case yc5 =>
    intro wx hSx
    go_simp
    try with_reducible rfl
  try simp only [Act.put, List.setIfInBounds_toArray, List.set_cons_zero, List.set_cons_succ]
  refine wpAnyH_take (i := 7) (oi := ⟨some 12, _, _, _, _, _⟩) (v := ?vc7) rfl (by kernel_rfl) (by kernel_rfl) (by kernel_rfl) (fun _ _ _ h => h) (Or.inl ⟨by rfl, ?yc7⟩) hHeld ?rc7
  case yc7 =>
    intro wx hSx
    go_simp
    try with_reducible rfl
  try simp only [Act.put, List.setIfInBounds_toArray, List.set_cons_zero, List.set_cons_succ]
  refine wpAnyH_take (i := 10) (oi := ⟨some 15, _, _, _, _, _⟩) (v := ?vc10) rfl (by kernel_rfl) (by kernel_rfl) (by kernel_rfl) (fun _ _ _ h => h) (Or.inl ⟨by rfl, ?yc10⟩) hHeld ?rc10
  case yc10 =>
    intro wx hSx
    go_simp
    try with_reducible rfl
  try simp only [Act.put, List.setIfInBounds_toArray, List.set_cons_zero, List.set_cons_succ]
  refine wpAnyH_take (i := 12) (oi := ⟨some 17, _, _, _, _, _⟩) (v := ?vc12) rfl (by kernel_rfl) (by kernel_rfl) (by kernel_rfl) (fun _ _ _ h => h) (Or.inl ⟨by rfl, ?yc12⟩) hHeld ?rc12
  case yc12 =>
    intro wx hSx
    go_simp
    try with_reducible rfl
  try simp only [Act.put, List.setIfInBounds_toArray, List.set_cons_zero, List.set_cons_succ]
  refine wpAnyH_take (i := 15) (oi := ⟨some 20, _, _, _, _, _⟩) (v := ?vc15) rfl (by kernel_rfl) (by kernel_rfl) (by kernel_rfl) (fun _ _ _ h => h) (Or.inl ⟨by rfl, ?yc15⟩) hHeld ?rc15
  case yc15 =>
    intro wx hSx
    go_simp
    try with_reducible rfl
  try simp only [Act.put, List.setIfInBounds_toArray, List.set_cons_zero, List.set_cons_succ]
  refine wpAnyH_take (i := 18) (oi := ⟨some 23, _, _, _, _, _⟩) (v := ?vc18) rfl (by kernel_rfl) (by kernel_rfl) (by kernel_rfl) (fun _ _ _ h => h) (Or.inl ⟨by rfl, ?yc18⟩) hHeld ?rc18
  case yc18 =>
    intro wx hSx
    go_simp
    try with_reducible rfl
  try simp only [Act.put, List.setIfInBounds_toArray, List.set_cons_zero, List.set_cons_succ]
  refine wpAnyH_take (i := 1) (oi := ⟨some 6, _, _, _, _, _⟩) (v := ?vc1) rfl (by kernel_rfl) (by kernel_rfl) (by kernel_rfl) (fun _ _ _ h => h) (Or.inl ⟨by rfl, ?yc1⟩) hHeld ?rc1
  case yc1 =>
    intro wx hSx
    have z := cell_at hSx.b1 0
    simp only [List.getElem?_toArray, List.getElem?_cons_succ, List.getElem?_cons_zero] at z
    go_simp
    try with_reducible rfl
  try simp only [Act.put, List.setIfInBounds_toArray, List.set_cons_zero, List.set_cons_succ]
  refine wpAnyH_take (i := 3) (oi := ⟨some 8, _, _, _, _, _⟩) (v := ?vc3) rfl (by kernel_rfl) (by kernel_rfl) (by kernel_rfl) (fun _ _ _ h => h) (Or.inl ⟨by rfl, ?yc3⟩) hHeld ?rc3
  case yc3 =>
    intro wx hSx
    have z := cell_at hSx.b2 0
    simp only [List.getElem?_toArray, List.getElem?_cons_succ, List.getElem?_cons_zero] at z
    go_simp
    try with_reducible rfl
  try simp only [Act.put, List.setIfInBounds_toArray, List.set_cons_zero, List.set_cons_succ]
  refine wpAnyH_take (i := 6) (oi := ⟨some 11, _, _, _, _, _⟩) (v := ?vc6) rfl (by kernel_rfl) (by kernel_rfl) (by kernel_rfl) (fun _ _ _ h => h) (Or.inl ⟨by rfl, ?yc6⟩) hHeld ?rc6
  case yc6 =>
    intro wx hSx
    have z := cell_at hSx.b1 1
    simp only [List.getElem?_toArray, List.getElem?_cons_succ, List.getElem?_cons_zero] at z
    go_simp
    try with_reducible rfl
  try simp only [Act.put, List.setIfInBounds_toArray, List.set_cons_zero, List.set_cons_succ]
  refine wpAnyH_take (i := 8) (oi := ⟨some 13, _, _, _, _, _⟩) (v := ?vc8) rfl (by kernel_rfl) (by kernel_rfl) (by kernel_rfl) (fun _ _ _ h => h) (Or.inl ⟨by rfl, ?yc8⟩) hHeld ?rc8
  case yc8 =>
    intro wx hSx
    have z := cell_at hSx.b2 1
    simp only [List.getElem?_toArray, List.getElem?_cons_succ, List.getElem?_cons_zero] at z
    go_simp
    try with_reducible rfl
  try simp only [Act.put, List.setIfInBounds_toArray, List.set_cons_zero, List.set_cons_succ]
  refine wpAnyH_take (i := 11) (oi := ⟨some 16, _, _, _, _, _⟩) (v := ?vc11) rfl (by kernel_rfl) (by kernel_rfl) (by kernel_rfl) (fun _ _ _ h => h) (Or.inl ⟨by rfl, ?yc11⟩) hHeld ?rc11
  case yc11 =>
    intro wx hSx
    have z := cell_at hSx.b1 2
    simp only [List.getElem?_toArray, List.getElem?_cons_succ, List.getElem?_cons_zero] at z
    go_simp
    try with_reducible rfl
  try simp only [Act.put, List.setIfInBounds_toArray, List.set_cons_zero, List.set_cons_succ]
  refine wpAnyH_take (i := 13) (oi := ⟨some 18, _, _, _, _, _⟩) (v := ?vc13) rfl (by kernel_rfl) (by kernel_rfl) (by kernel_rfl) (fun _ _ _ h => h) (Or.inl ⟨by rfl, ?yc13⟩) hHeld ?rc13
  case yc13 =>
    intro wx hSx
    have z := cell_at hSx.b2 2
    simp only [List.getElem?_toArray, List.getElem?_cons_succ, List.getElem?_cons_zero] at z
    go_simp
    try with_reducible rfl
  try simp only [Act.put, List.setIfInBounds_toArray, List.set_cons_zero, List.set_cons_succ]
  refine wpAnyH_take (i := 16) (oi := ⟨some 21, _, _, _, _, _⟩) (v := ?vc16) rfl (by kernel_rfl) (by kernel_rfl) (by kernel_rfl) (fun _ _ _ h => h) (Or.inl ⟨by rfl, ?yc16⟩) hHeld ?rc16
  case yc16 =>
    intro wx hSx
    have z := cell_at hSx.b1 3
    simp only [List.getElem?_toArray, List.getElem?_cons_succ, List.getElem?_cons_zero] at z
    go_simp
    try with_reducible rfl
  try simp only [Act.put, List.setIfInBounds_toArray, List.set_cons_zero, List.set_cons_succ]
  refine wpAnyH_take (i := 19) (oi := ⟨some 24, _, _, _, _, _⟩) (v := ?vc19) rfl (by kernel_rfl) (by kernel_rfl) (by kernel_rfl) (fun _ _ _ h => h) (Or.inl ⟨by rfl, ?yc19⟩) hHeld ?rc19
  case yc19 =>
    intro wx hSx
    have z := cell_at hSx.b2 3
    simp only [List.getElem?_toArray, List.getElem?_cons_succ, List.getElem?_cons_zero] at z
    go_simp
    try with_reducible rfl
  try simp only [Act.put, List.setIfInBounds_toArray, List.set_cons_zero, List.set_cons_succ]
  refine anyH_asks (i := 4) (oi := ⟨some 9, _, _, _, _, _⟩) (v := .int .i64 x1) rfl (by kernel_rfl) (by kernel_rfl) (by kernel_rfl) (fun _ _ _ h => h) ⟨by rfl, fun wx hSx => ⟨_, _, ?ec4, (HQ1.out _).mono (fun _ _ h => ⟨h.1, h.2.symm⟩)⟩⟩ hHeld ?rc4
  case ec4 => go_simp
  try simp only [Act.put, List.setIfInBounds_toArray, List.set_cons_zero, List.set_cons_succ]
  refine anyH_asks (i := 9) (oi := ⟨some 14, _, _, _, _, _⟩) (v := .int .i64 x2) rfl (by kernel_rfl) (by kernel_rfl) (by kernel_rfl) (fun _ _ _ h => h) ⟨by rfl, fun wx hSx => ⟨_, _, ?ec9, (HQ2.out _).mono (fun _ _ h => ⟨h.1, h.2.symm⟩)⟩⟩ hHeld ?rc9
  case ec9 => go_simp
  try simp only [Act.put, List.setIfInBounds_toArray, List.set_cons_zero, List.set_cons_succ]
  refine anyH_asks (i := 14) (oi := ⟨some 19, _, _, _, _, _⟩) (v := .int .i64 x3) rfl (by kernel_rfl) (by kernel_rfl) (by kernel_rfl) (fun _ _ _ h => h) ⟨by rfl, fun wx hSx => ⟨_, _, ?ec14, (HQ3.out _).mono (fun _ _ h => ⟨h.1, h.2.symm⟩)⟩⟩ hHeld ?rc14
  case ec14 => go_simp
  try simp only [Act.put, List.setIfInBounds_toArray, List.set_cons_zero, List.set_cons_succ]
  refine anyH_asks (i := 17) (oi := ⟨some 22, _, _, _, _, _⟩) (v := .int .i64 x4) rfl (by kernel_rfl) (by kernel_rfl) (by kernel_rfl) (fun _ _ _ h => h) ⟨by rfl, fun wx hSx => ⟨_, _, ?ec17, (HQ4.out _).mono (fun _ _ h => ⟨h.1, h.2.symm⟩)⟩⟩ hHeld ?rc17
  case ec17 => go_simp
  try simp only [Act.put, List.setIfInBounds_toArray, List.set_cons_zero, List.set_cons_succ]
  refine anyH_asks (i := 20) (oi := ⟨some 25, _, _, _, _, _⟩) (v := .int .i64 x5) rfl (by kernel_rfl) (by kernel_rfl) (by kernel_rfl) (fun _ _ _ h => h) ⟨by rfl, fun wx hSx => ⟨_, _, ?ec20, (HQ5.out _).mono (fun _ _ h => ⟨h.1, h.2.symm⟩)⟩⟩ hHeld ?rc20
  case ec20 => go_simp
  try simp only [Act.put, List.setIfInBounds_toArray, List.set_cons_zero, List.set_cons_succ]
  refine anyH_asks (i := 21) (oi := ⟨some 26, _, _, _, _, _⟩) (v := .int .i64 x6) rfl (by kernel_rfl) (by kernel_rfl) (by kernel_rfl) (fun _ _ _ h => h) ⟨by rfl, fun wx hSx => ⟨_, _, ?ec21, (HQ6.out _).mono (fun _ _ h => ⟨h.1, h.2.symm⟩)⟩⟩ hHeld ?rc21
  case ec21 => go_simp
  try simp only [Act.put, List.setIfInBounds_toArray, List.set_cons_zero, List.set_cons_succ]
  refine wpAnyH_ready (rs := [22]) (by kernel_rfl) (by simp) ?_
  refine AllReadyH.cons (o := ⟨some 27, _, _, _, _, _⟩) rfl (fun K hK => ?_) AllReadyH.nil
  have hn := Lib.hid (lit_many (L := LI2) wd [x1, x2, x3, x6] wd.heap.size 4 rfl rfl (by decide) #[.int .i64 x1, .int .i64 x2, .int .i64 x3, .int .i64 x6] rfl)
  have hNW := hHeld.on ((Gr.refl wd).alloc (.cells #[.int .i64 x1, .int .i64 x2, .int .i64 x3, .int .i64 x6] 3))
  replace hn := Lib.hid (show LI2.Slice (wd.alloc (.cells #[.int .i64 x1, .int .i64 x2, .int .i64 x3, .int .i64 x6] 3)) (.slice (some ⟨wd.heap.size, 0, none⟩) 4 4) [x1, x2, x3, x6] from hn.out)
  go_simp
  refine hK.out _ _ hNW (fun hHeld => ?_)
  clear hK K hNW
  try simp only [Act.put, List.setIfInBounds_toArray, List.set_cons_zero, List.set_cons_succ]
  refine wpAnyH_ready (rs := [23]) (by kernel_rfl) (by simp) ?_
  refine AllReadyH.cons (o := ⟨some 28, _, _, _, _, _⟩) rfl (fun K hK => ?_) AllReadyH.nil
  go_simp
  refine (orL_any _ _ _ hn.out).mono ?_
  rintro e wn ⟨rfl, rfl⟩
  refine hK.out _ _ hHeld (fun hHeld => ?_)
  clear hK K
  try simp only [Act.put, List.setIfInBounds_toArray, List.set_cons_zero, List.set_cons_succ]
  refine wpAnyH_take (i := 24) (oi := ⟨some 4, _, _, _, _, _⟩) (v := ?vc24) rfl (by kernel_rfl) (by kernel_rfl) (by kernel_rfl) (fun _ _ _ h => h) (Or.inl ⟨by rfl, ?yc24⟩) hHeld ?rc24
  case yc24 =>
    intro wx hSx
    go_simp
    try with_reducible rfl
  try simp only [Act.put, List.setIfInBounds_toArray, List.set_cons_zero, List.set_cons_succ]
  refine wpAnyH_done (by kernel_rfl) ?_ _
  go_wp2_with fail
  go_ret
  exact ⟨by rw [← HU.out]; rfl, hHeld.gr⟩

set_option maxHeartbeats 800000 in
theorem all1_any (a b : Mk) (w : World) : Calls Try.prog 31 #[a.val, b.val] w fun e w' => e = .returned (.int .i64 (cmpK a.k b.k)) ∧ Gr w w' := by
  have HT := Lib.hid (TwoB.start w (.cells #[.string a.k.room, .string a.k.user, .string a.k.thread, .bool a.k.priv, .int .i64 a.po.depth, .string a.po.id] 60 (0, 0)) (.cells #[.string b.k.room, .string b.k.user, .string b.k.thread, .bool b.k.priv, .int .i64 b.po.depth, .string b.po.id] 60 (0, 0)))
  have HQ := Lib.hid (fun W => rcCompare_any a.k b.k W)
  unfold Rk.val at HQ
  unfold Mk.val
  generalize cmpK a.k b.k = x at HQ ⊢
  go_enter Try.func31, Try.ntmps31
  go_upto_region 1 with (fail)
  generalize World.alloc _ _ = w1 at HT ⊢
  generalize w.heap.size + 1 = B3 at HT ⊢
  generalize hB2 : w.heap.size = B2 at HT ⊢
  have a0 : w1.cell? ⟨B2, 0, none⟩ = some (.string a.k.room) := cell_at HT.out.bo.box 0
  have a1 : w1.cell? ⟨B2, 1, none⟩ = some (.string a.k.user) := cell_at HT.out.bo.box 1
  have a2 : w1.cell? ⟨B2, 2, none⟩ = some (.string a.k.thread) := cell_at HT.out.bo.box 2
  have a3 : w1.cell? ⟨B2, 3, none⟩ = some (.bool a.k.priv) := cell_at HT.out.bo.box 3
  have b0 : w1.cell? ⟨B3, 0, none⟩ = some (.string b.k.room) := cell_at HT.out.res 0
  have b1 : w1.cell? ⟨B3, 1, none⟩ = some (.string b.k.user) := cell_at HT.out.res 1
  have b2 : w1.cell? ⟨B3, 2, none⟩ = some (.string b.k.thread) := cell_at HT.out.res 2
  have b3 : w1.cell? ⟨B3, 3, none⟩ = some (.bool b.k.priv) := cell_at HT.out.res 3
  go_wp2_with fail
  go_at_call 27
  refine (HQ.out _).mono ?_
  rintro e w2 ⟨rfl, hg⟩
  have HG := Lib.hid (HT.out.gr.trans hg)
  clear HT hg
  go_wp2_with fail
  go_ret
  exact ⟨rfl, HG.out⟩

theorem public1_any (m : Mk) (w : World) : Calls Try.prog 33 #[m.val] w fun e w' => e = .returned (.bool m.k.priv) ∧ Gr w w' := by
  have HG := Lib.hid ((Gr.refl w).alloc (.cells #[.string m.k.room, .string m.k.user, .string m.k.thread, .bool m.k.priv, .int .i64 m.po.depth, .string m.po.id] 60))
  unfold Mk.val
  go_enter Try.func33, Try.ntmps33
  go_wp2_with fail
  go_ret
  exact ⟨rfl, HG.out⟩

set_option maxHeartbeats 800000 in
theorem rcNew_any (w : World) : Calls Try.prog 21 #[] w fun e w' => ∃ r : RI, e = .returned (.pointer (some ⟨r.g, 0, none⟩)) ∧ r.l = [] ∧ CRs w' r ∧ Below w.heap.size w w' ∧ ∀ k, r.own k → w.heap.size ≤ k := by
  have hmm := @run_makeMap Try.prog
  go_enter Try.func21, Try.ntmps21
  go_wp2_with fail
  go_ret
  have h0 := World.ownsMap_made (H := Value) w Try.prog 43 heldR
  have hb : Below w.heap.size w ((w.alloc (.map #[] 0)).alloc (.cells #[.map (some w.heap.size)] 63)) := ((Below.refl _ w).alloc (Nat.le_refl _) _).alloc (by simp) _
  refine ⟨⟨w.heap.size + 1, w.heap.size, [], .map []⟩, rfl, rfl, ⟨?_, h0.alloc _, MdM.nil, row_nilM, fun m hm => by cases hm⟩, hb, fun k hk => ?_⟩
  · have := heap_alloc_new (w.alloc (.map #[] 0)) (.cells #[.map (some w.heap.size)] 63)
    rw [show (w.alloc (.map #[] 0)).heap.size = w.heap.size + 1 by simp] at this
    exact this
  · rcases hk with e | e <;> (simp only at e; omega)

set_option maxHeartbeats 800000 in
theorem rcLen_any {w : World} {r : RI} (h : CRs w r) : Calls Try.prog 14 #[.pointer (some ⟨r.g, 0, none⟩)] w fun e w' => e = .returned (.int .i64 (r.l.length : Int)) ∧ w' = w := by
  have c0 : w.cell? ⟨r.g, 0, none⟩ = some (.map (some r.mb)) := cell_at h.hd 0
  have hlen := World.ownsMap.len h.map Try.underlying61
  have HL := Lib.hid h.len
  clear h
  generalize Maps.size r.D = n at hlen HL
  go_enter Try.func14, Try.ntmps14
  go_wp2_with fail
  go_ret
  exact ⟨by rw [← HL.out]; rfl, rfl⟩
/-- A key's position, or the zero one. -/
def gotP (l : List Mk) (k : Rk) : Po := (getM l k).getD ⟨0, ⟨#[]⟩⟩
theorem CRs.look {w : World} {r : RI} (h : CRs w r) {k : Rk} (hk : k.ok) : (Instr.lookup 61 (.map (some r.mb)) k.val true).run Try.prog w = .ok (.tuple #[(gotP r.l k).val, .bool (getM r.l k).isSome]) w := by
  obtain ⟨x, ps, hr, hv⟩ := World.ownsMap.look_ok h.map keyedK Try.underlying61 (zeroIsP w) (zd := .held zeroP) (zp := []) rfl (keyIsK hk)
  rw [h.is.get h.row h.okk hk] at hv
  rw [hr, h.is.has h.okk hk]
  unfold gotP
  cases hg : getM r.l k with
  | none =>
    rw [hg] at hv
    injection hv with hv
    injection hv with hv _
    injection hv with hv
    rw [hv]
    rfl
  | some p =>
    rw [hg] at hv
    injection hv with hv
    injection hv with hv _
    injection hv with hv
    rw [hv]
    rfl
end Go.Proofs.Ytmialpaldkpmbaa
