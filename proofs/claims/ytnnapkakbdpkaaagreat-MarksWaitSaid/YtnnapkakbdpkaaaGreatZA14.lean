/-
  What the statements stand on, part ZA14.
-/
import Derived.Test.YtnnapkakbdpkaaaGreatZA13
set_option linter.unusedVariables false
set_option linter.unusedSimpArgs false
namespace Go.Proofs.YtnnapkakbdpkaaaGreat
set_option maxRecDepth 20000
open Go.RowKit Go.Maps Go.ChangeMaps
theorem rcClone_any (s : ByteArray) (w : World) (hs : s.size ≤ 281474976710656) :
  Calls Tryz.prog 81 #[.string s] w fun e w' => e = .returned (.string s) ∧ Below w.heap.size w w' := by
 go_enter Tryz.func81, Tryz.ntmps81
 go_wp2_with fail
 refine (Tryz.stringslite_Clone s _ hs).mono ?_
 rintro e w' ⟨rfl, hb⟩
 go_wp2
 go_ret
 exact ⟨rfl, hb⟩
theorem stored {w : World} {B : Nat} {cur : Array Value} {t : TypeId} (hr : w.heap[B]? = some (.cells cur t (0, 0))) (vs : List Value) (hn : vs.length = cur.size) : ∀ W, W = w.setCells B 0 vs → W.heap[B]? = some (.cells vs.toArray t (0, 0)) ∧ w.grownBy W (some B) := by
 rintro W rfl
 obtain ⟨cur', z1, z2, z3⟩ := sm_at B t vs 0 w cur hr (by omega)
 refine ⟨?_, sm_grown w B 0 vs⟩
 rw [z1]
 have : cur' = vs.toArray := by
  apply Array.toList_inj.1
  rw [z3, Nat.zero_add, hn, List.drop_of_length_le (by rw [Array.length_toList]; exact Nat.le_refl _)]
  simp
 rw [this]
structure BoS (w wr : World) (B : Nat) (o : Obj) : Prop where
 box : wr.heap[B]? = some o
 below : Below w.heap.size w wr
section
variable {w wr w2 : World} {B B2 : Nat} {o o2 : Obj}
theorem BoS.on (h : BoS w wr B o) (hb : Below wr.heap.size wr w2) : BoS w w2 B o := ⟨(hb.block B (smem_lt h.box)).trans h.box, h.below.trans (hb.mono h.below.size)⟩
theorem BoS.put (h : BoS w wr B o) (hg : wr.grownBy w2 (some B2)) (hne : B ≠ B2) (hlo : w.heap.size ≤ B2) : BoS w w2 B o :=
 ⟨(hg.block B (smem_lt h.box) (fun e => hne (by injection e))).trans h.box, h.below.grown hg h.below.size (fun k hk => by injection hk with hk; omega)⟩
theorem BoS.drew (h : BoS w wr B o) : BoS w wr.drew B o := ⟨h.box, h.below.drew⟩
structure TwoB (w wr : World) (B1 : Nat) (o1 : Obj) (B2 : Nat) (o2 : Obj) : Prop where
 bo : BoS w wr B1 o1
 res : wr.heap[B2]? = some o2
 ne : B1 ≠ B2
 lo1 : w.heap.size ≤ B1
 lo2 : w.heap.size ≤ B2
 gr : Gr w wr
theorem TwoB.start (w : World) (o1 o2 : Obj) : TwoB w ((w.alloc o1).alloc o2) w.heap.size o1 (w.heap.size + 1) o2 := by
 have s1 : ∀ (u : World) (o : Obj), (u.alloc o).heap.size = u.heap.size + 1 := fun u o => by simp
 have h2 := heap_alloc_new w o1
 have h3 := heap_alloc_new (w.alloc o1) o2
 rw [s1] at h3
 refine ⟨⟨?_, ((Gr.refl w).alloc o1 |>.alloc o2).below⟩, h3, by omega, Nat.le_refl _, by omega, (Gr.refl w).alloc o1 |>.alloc o2⟩
 rw [heap_alloc_old _ _ (by rw [s1]; omega)]
 exact h2
end
set_option maxHeartbeats 1600000 in
theorem ownPos_any (p : Po) (w : World) (hp : p.id.size ≤ 281474976710656) :
  Calls Tryz.prog 116 #[p.val] w fun e w' => e = .returned p.val ∧ Below w.heap.size w w' := by
 have HT := Lib.hid (TwoB.start w (.cells #[.int .i64 p.depth, .string p.id] 83 (0, 0)) (.cells #[.int .i64 0, .string ⟨#[]⟩] 83 (0, 0)))
 have HC := Lib.hid (fun W => rcClone_any p.id W hp)
 unfold Po.val
 clear hp
 go_enter Tryz.func116, Tryz.ntmps116
 go_upto_region 1 with (fail)
 generalize World.alloc _ _ = w1 at HT ⊢
 generalize w.heap.size + 1 = B2 at HT ⊢
 generalize hB1 : w.heap.size = B1 at HT ⊢
 refine wp_region_held_drew (S := fun W => BoS w W B1 (.cells #[.int .i64 p.depth, .string p.id] 83 (0, 0))) (by kernel_rfl) HT.out.bo.drew (fun hHeld => ?_)
 have hres : w1.drew.heap[B2]? = _ := HT.out.res
 have hne := HT.out.ne
 have hlo2 := HT.out.lo2
 clear HT
 generalize w1.drew = wd at hHeld hres ⊢
 refine wpAnyH_take (i := 0) (oi := ⟨some 3, _, _, _, _, _⟩) (v := ?vo0) rfl (by kernel_rfl) (by kernel_rfl) (by kernel_rfl) (fun _ _ _ h => h) (Or.inl ⟨by rfl, ?yo0⟩) hHeld ?ro0
 case yo0 =>
  intro wx hSx
  go_simp
  try with_reducible rfl
 try simp only [actS]
 refine wpAnyH_take (i := 2) (oi := ⟨some 5, _, _, _, _, _⟩) (v := ?vo2) rfl (by kernel_rfl) (by kernel_rfl) (by kernel_rfl) (fun _ _ _ h => h) (Or.inl ⟨by rfl, ?yo2⟩) hHeld ?ro2
 case yo2 =>
  intro wx hSx
  go_simp
  try with_reducible rfl
 try simp only [actS]
 refine wpAnyH_take (i := 1) (oi := ⟨some 4, _, _, _, _, _⟩) (v := ?vo1) rfl (by kernel_rfl) (by kernel_rfl) (by kernel_rfl) (fun _ _ _ h => h) (Or.inl ⟨by rfl, ?yo1⟩) hHeld ?ro1
 case yo1 =>
  intro wx hSx
  have z := cell_at hSx.box 0
  simp only [List.getElem?_toArray, List.getElem?_cons_succ, List.getElem?_cons_zero] at z
  go_simp
  try with_reducible rfl
 try simp only [actS]
 refine wpAnyH_take (i := 3) (oi := ⟨some 6, _, _, _, _, _⟩) (v := ?vo3) rfl (by kernel_rfl) (by kernel_rfl) (by kernel_rfl) (fun _ _ _ h => h) (Or.inl ⟨by rfl, ?yo3⟩) hHeld ?ro3
 case yo3 =>
  intro wx hSx
  have z := cell_at hSx.box 1
  simp only [List.getElem?_toArray, List.getElem?_cons_succ, List.getElem?_cons_zero] at z
  go_simp
  try with_reducible rfl
 try simp only [actS]
 refine wpAnyH_ready (rs := [4]) (by kernel_rfl) (by simp) ?_
 refine AllReadyH.cons (o := ⟨some 7, _, _, _, _, _⟩) rfl (fun K hK => ?_) AllReadyH.nil
 go_simp
 refine (HC.out _).mono ?_
 rintro e wn ⟨rfl, hbn⟩
 replace hres := (hbn.block B2 (smem_lt hres)).trans hres
 refine hK.out _ _ (hHeld.on hbn) (fun hHeld => ?_)
 clear hK K hbn
 try simp only [actS]
 refine wpAnyH_take (i := 5) (oi := ⟨some 8, _, _, _, _, _⟩) (v := ?vo5) rfl (by kernel_rfl) (by kernel_rfl) (by kernel_rfl) (fun _ _ _ h => h) (Or.inl ⟨by rfl, ?yo5⟩) hHeld ?ro5
 case yo5 =>
  intro wx hSx
  go_simp
  try with_reducible rfl
 try simp only [actS]
 refine wpAnyH_ready (rs := [6]) (by kernel_rfl) (by simp) ?_
 refine AllReadyH.cons (o := ⟨none, _, _, _, _, _⟩) rfl (fun K hK => ?_) AllReadyH.nil
 have r0 : wn.cell? ⟨B2, 0, none⟩ = some (.int .i64 0) := cell_at hres 0
 have r1 : wn.cell? ⟨B2, 1, none⟩ = some (.string ⟨#[]⟩) := cell_at hres 1
 have z0 : wn.frozen? ⟨B2, 0, none⟩ = false := free_at hres 0
 have z1 : wn.frozen? ⟨B2, 1, none⟩ = false := free_at hres 1
 have HAN := stored hres [.int .i64 p.depth, .string p.id] rfl _ rfl
 simp only [World.setCells] at HAN
 go_simp
 generalize World.setCell _ _ _ = w9 at HAN ⊢
 refine hK.out _ _ (hHeld.put HAN.2 hne hlo2) (fun hHeld => ?_)
 clear hK K r0 z0 r1 z1
 have k0 := cell_at HAN.1 0
 have k1 := cell_at HAN.1 1
 simp only [List.getElem?_toArray, List.getElem?_cons_succ, List.getElem?_cons_zero] at k0 k1
 refine wpAnyH_done (by kernel_rfl) ?_ _
 go_wp2_with fail
 refine bodyPost_ret (v := .agg #[.int .i64 p.depth, .string p.id]) ?_ rfl ⟨rfl, hHeld.below⟩
 simp [results, Tryz.results116, go_sem, k0, k1]
set_option maxHeartbeats 1600000 in
theorem rcOwn_any (m : Mk) (w : World) (hm : m.ok) :
  Calls Tryz.prog 103 #[m.val] w fun e w' => e = .returned m.val ∧ Below w.heap.size w w' := by
 have HT := Lib.hid (TwoB.start w (.cells #[.string m.k.room, .string m.k.user, .string m.k.thread, .bool m.k.priv, .int .i64 m.po.depth, .string m.po.id] 130 (0, 0)) (.cells #[.string ⟨#[]⟩, .string ⟨#[]⟩, .string ⟨#[]⟩, .bool false, .int .i64 0, .string ⟨#[]⟩] 130 (0, 0)))
 have HC1 := Lib.hid (fun W => rcClone_any m.k.room W hm.1.1)
 have HC2 := Lib.hid (fun W => rcClone_any m.k.user W hm.1.2.1)
 have HC3 := Lib.hid (fun W => rcClone_any m.k.thread W hm.1.2.2)
 have HC4 := Lib.hid (fun W => ownPos_any m.po W hm.2)
 unfold Po.val at HC4
 unfold Mk.val
 clear hm
 go_enter Tryz.func103, Tryz.ntmps103
 go_upto_region 1 with (fail)
 generalize World.alloc _ _ = w1 at HT ⊢
 generalize w.heap.size + 1 = B2 at HT ⊢
 generalize hB1 : w.heap.size = B1 at HT ⊢
 refine wp_region_held_drew (S := fun W => BoS w W B1 (.cells #[.string m.k.room, .string m.k.user, .string m.k.thread, .bool m.k.priv, .int .i64 m.po.depth, .string m.po.id] 130 (0, 0))) (by kernel_rfl) HT.out.bo.drew (fun hHeld => ?_)
 have hres : w1.drew.heap[B2]? = _ := HT.out.res
 have hne := HT.out.ne
 have hlo2 := HT.out.lo2
 clear HT
 generalize w1.drew = wd at hHeld hres ⊢
 refine wpAnyH_take (i := 0) (oi := ⟨some 3, _, _, _, _, _⟩) (v := ?vo0) rfl (by kernel_rfl) (by kernel_rfl) (by kernel_rfl) (fun _ _ _ h => h) (Or.inl ⟨by rfl, ?yo0⟩) hHeld ?ro0
 case yo0 =>
  intro wx hSx
  go_simp
  try with_reducible rfl
 try simp only [actS]
 refine wpAnyH_take (i := 1) (oi := ⟨some 4, _, _, _, _, _⟩) (v := ?vo1) rfl (by kernel_rfl) (by kernel_rfl) (by kernel_rfl) (fun _ _ _ h => h) (Or.inl ⟨by rfl, ?yo1⟩) hHeld ?ro1
 case yo1 =>
  intro wx hSx
  go_simp
  try with_reducible rfl
 try simp only [actS]
 refine wpAnyH_take (i := 4) (oi := ⟨some 7, _, _, _, _, _⟩) (v := ?vo4) rfl (by kernel_rfl) (by kernel_rfl) (by kernel_rfl) (fun _ _ _ h => h) (Or.inl ⟨by rfl, ?yo4⟩) hHeld ?ro4
 case yo4 =>
  intro wx hSx
  go_simp
  try with_reducible rfl
 try simp only [actS]
 refine wpAnyH_take (i := 5) (oi := ⟨some 8, _, _, _, _, _⟩) (v := ?vo5) rfl (by kernel_rfl) (by kernel_rfl) (by kernel_rfl) (fun _ _ _ h => h) (Or.inl ⟨by rfl, ?yo5⟩) hHeld ?ro5
 case yo5 =>
  intro wx hSx
  go_simp
  try with_reducible rfl
 try simp only [actS]
 refine wpAnyH_take (i := 8) (oi := ⟨some 11, _, _, _, _, _⟩) (v := ?vo8) rfl (by kernel_rfl) (by kernel_rfl) (by kernel_rfl) (fun _ _ _ h => h) (Or.inl ⟨by rfl, ?yo8⟩) hHeld ?ro8
 case yo8 =>
  intro wx hSx
  go_simp
  try with_reducible rfl
 try simp only [actS]
 refine wpAnyH_take (i := 9) (oi := ⟨some 12, _, _, _, _, _⟩) (v := ?vo9) rfl (by kernel_rfl) (by kernel_rfl) (by kernel_rfl) (fun _ _ _ h => h) (Or.inl ⟨by rfl, ?yo9⟩) hHeld ?ro9
 case yo9 =>
  intro wx hSx
  go_simp
  try with_reducible rfl
 try simp only [actS]
 refine wpAnyH_take (i := 12) (oi := ⟨some 15, _, _, _, _, _⟩) (v := ?vo12) rfl (by kernel_rfl) (by kernel_rfl) (by kernel_rfl) (fun _ _ _ h => h) (Or.inl ⟨by rfl, ?yo12⟩) hHeld ?ro12
 case yo12 =>
  intro wx hSx
  go_simp
  try with_reducible rfl
 try simp only [actS]
 refine wpAnyH_take (i := 13) (oi := ⟨some 16, _, _, _, _, _⟩) (v := ?vo13) rfl (by kernel_rfl) (by kernel_rfl) (by kernel_rfl) (fun _ _ _ h => h) (Or.inl ⟨by rfl, ?yo13⟩) hHeld ?ro13
 case yo13 =>
  intro wx hSx
  go_simp
  try with_reducible rfl
 try simp only [actS]
 refine wpAnyH_take (i := 16) (oi := ⟨some 19, _, _, _, _, _⟩) (v := ?vo16) rfl (by kernel_rfl) (by kernel_rfl) (by kernel_rfl) (fun _ _ _ h => h) (Or.inl ⟨by rfl, ?yo16⟩) hHeld ?ro16
 case yo16 =>
  intro wx hSx
  go_simp
  try with_reducible rfl
 try simp only [actS]
 refine wpAnyH_take (i := 2) (oi := ⟨some 5, _, _, _, _, _⟩) (v := ?vo2) rfl (by kernel_rfl) (by kernel_rfl) (by kernel_rfl) (fun _ _ _ h => h) (Or.inl ⟨by rfl, ?yo2⟩) hHeld ?ro2
 case yo2 =>
  intro wx hSx
  have z := cell_at hSx.box 0
  simp only [List.getElem?_toArray, List.getElem?_cons_succ, List.getElem?_cons_zero] at z
  go_simp
  try with_reducible rfl
 try simp only [actS]
 refine wpAnyH_take (i := 6) (oi := ⟨some 9, _, _, _, _, _⟩) (v := ?vo6) rfl (by kernel_rfl) (by kernel_rfl) (by kernel_rfl) (fun _ _ _ h => h) (Or.inl ⟨by rfl, ?yo6⟩) hHeld ?ro6
 case yo6 =>
  intro wx hSx
  have z := cell_at hSx.box 1
  simp only [List.getElem?_toArray, List.getElem?_cons_succ, List.getElem?_cons_zero] at z
  go_simp
  try with_reducible rfl
 try simp only [actS]
 refine wpAnyH_take (i := 10) (oi := ⟨some 13, _, _, _, _, _⟩) (v := ?vo10) rfl (by kernel_rfl) (by kernel_rfl) (by kernel_rfl) (fun _ _ _ h => h) (Or.inl ⟨by rfl, ?yo10⟩) hHeld ?ro10
 case yo10 =>
  intro wx hSx
  have z := cell_at hSx.box 2
  simp only [List.getElem?_toArray, List.getElem?_cons_succ, List.getElem?_cons_zero] at z
  go_simp
  try with_reducible rfl
 try simp only [actS]
 refine wpAnyH_take (i := 14) (oi := ⟨some 17, _, _, _, _, _⟩) (v := ?vo14) rfl (by kernel_rfl) (by kernel_rfl) (by kernel_rfl) (fun _ _ _ h => h) (Or.inl ⟨by rfl, ?yo14⟩) hHeld ?ro14
 case yo14 =>
  intro wx hSx
  have z := cell_at hSx.box 3
  simp only [List.getElem?_toArray, List.getElem?_cons_succ, List.getElem?_cons_zero] at z
  go_simp
  try with_reducible rfl
 try simp only [actS]
 refine wpAnyH_take (i := 17) (oi := ⟨some 20, _, _, _, _, _⟩) (v := ?vo17) rfl (by kernel_rfl) (by kernel_rfl) (by kernel_rfl) (fun _ _ _ h => h) (Or.inl ⟨by rfl, ?yo17⟩) hHeld ?ro17
 case yo17 =>
  intro wx hSx
  have z := cell_at hSx.box 4
  have z' := cell_at hSx.box 5
  simp only [List.getElem?_toArray, List.getElem?_cons_succ, List.getElem?_cons_zero] at z z'
  go_simp
  try with_reducible rfl
 try simp only [actS]
 refine wpAnyH_ready (rs := [3]) (by kernel_rfl) (by simp) ?_
 refine AllReadyH.cons (o := ⟨some 6, _, _, _, _, _⟩) rfl (fun K hK => ?_) AllReadyH.nil
 go_simp
 refine (HC1.out _).mono ?_
 rintro e wn3 ⟨rfl, hbn⟩
 replace hres := (hbn.block B2 (smem_lt hres)).trans hres
 refine hK.out _ _ (hHeld.on hbn) (fun hHeld => ?_)
 clear hK K hbn
 try simp only [actS]
 refine wpAnyH_ready (rs := [7]) (by kernel_rfl) (by simp) ?_
 refine AllReadyH.cons (o := ⟨some 10, _, _, _, _, _⟩) rfl (fun K hK => ?_) AllReadyH.nil
 go_simp
 refine (HC2.out _).mono ?_
 rintro e wn7 ⟨rfl, hbn⟩
 replace hres := (hbn.block B2 (smem_lt hres)).trans hres
 refine hK.out _ _ (hHeld.on hbn) (fun hHeld => ?_)
 clear hK K hbn
 try simp only [actS]
 refine wpAnyH_ready (rs := [11]) (by kernel_rfl) (by simp) ?_
 refine AllReadyH.cons (o := ⟨some 14, _, _, _, _, _⟩) rfl (fun K hK => ?_) AllReadyH.nil
 go_simp
 refine (HC3.out _).mono ?_
 rintro e wn11 ⟨rfl, hbn⟩
 replace hres := (hbn.block B2 (smem_lt hres)).trans hres
 refine hK.out _ _ (hHeld.on hbn) (fun hHeld => ?_)
 clear hK K hbn
 try simp only [actS]
 refine wpAnyH_take (i := 15) (oi := ⟨some 18, _, _, _, _, _⟩) (v := ?vo15) rfl (by kernel_rfl) (by kernel_rfl) (by kernel_rfl) (fun _ _ _ h => h) (Or.inl ⟨by rfl, ?yo15⟩) hHeld ?ro15
 case yo15 =>
  intro wx hSx
  go_simp
  try with_reducible rfl
 try simp only [actS]
 refine wpAnyH_ready (rs := [18]) (by kernel_rfl) (by simp) ?_
 refine AllReadyH.cons (o := ⟨some 21, _, _, _, _, _⟩) rfl (fun K hK => ?_) AllReadyH.nil
 go_simp
 refine (HC4.out _).mono ?_
 rintro e wn18 ⟨rfl, hbn⟩
 replace hres := (hbn.block B2 (smem_lt hres)).trans hres
 refine hK.out _ _ (hHeld.on hbn) (fun hHeld => ?_)
 clear hK K hbn
 try simp only [actS]
 refine wpAnyH_take (i := 19) (oi := ⟨some 22, _, _, _, _, _⟩) (v := ?vo19) rfl (by kernel_rfl) (by kernel_rfl) (by kernel_rfl) (fun _ _ _ h => h) (Or.inl ⟨by rfl, ?yo19⟩) hHeld ?ro19
 case yo19 =>
  intro wx hSx
  go_simp
  try with_reducible rfl
 try simp only [actS]
 refine wpAnyH_ready (rs := [20]) (by kernel_rfl) (by simp) ?_
 refine AllReadyH.cons (o := ⟨none, _, _, _, _, _⟩) rfl (fun K hK => ?_) AllReadyH.nil
 have r0 : wn18.cell? ⟨B2, 0, none⟩ = some (.string ⟨#[]⟩) := cell_at hres 0
 have r1 : wn18.cell? ⟨B2, 1, none⟩ = some (.string ⟨#[]⟩) := cell_at hres 1
 have r2 : wn18.cell? ⟨B2, 2, none⟩ = some (.string ⟨#[]⟩) := cell_at hres 2
 have r3 : wn18.cell? ⟨B2, 3, none⟩ = some (.bool false) := cell_at hres 3
 have r4 : wn18.cell? ⟨B2, 4, none⟩ = some (.int .i64 0) := cell_at hres 4
 have r5 : wn18.cell? ⟨B2, 5, none⟩ = some (.string ⟨#[]⟩) := cell_at hres 5
 have z0 : wn18.frozen? ⟨B2, 0, none⟩ = false := free_at hres 0
 have z1 : wn18.frozen? ⟨B2, 1, none⟩ = false := free_at hres 1
 have z2 : wn18.frozen? ⟨B2, 2, none⟩ = false := free_at hres 2
 have z3 : wn18.frozen? ⟨B2, 3, none⟩ = false := free_at hres 3
 have z4 : wn18.frozen? ⟨B2, 4, none⟩ = false := free_at hres 4
 have z5 : wn18.frozen? ⟨B2, 5, none⟩ = false := free_at hres 5
 have HAN := stored hres [.string m.k.room, .string m.k.user, .string m.k.thread, .bool m.k.priv, .int .i64 m.po.depth, .string m.po.id] rfl _ rfl
 simp only [World.setCells] at HAN
 go_simp
 generalize World.setCell _ _ _ = w9 at HAN ⊢
 refine hK.out _ _ (hHeld.put HAN.2 hne hlo2) (fun hHeld => ?_)
 clear hK K r0 z0 r1 z1 r2 z2 r3 z3 r4 z4 r5 z5
 have k0 := cell_at HAN.1 0
 have k1 := cell_at HAN.1 1
 have k2 := cell_at HAN.1 2
 have k3 := cell_at HAN.1 3
 have k4 := cell_at HAN.1 4
 have k5 := cell_at HAN.1 5
 simp only [List.getElem?_toArray, List.getElem?_cons_succ, List.getElem?_cons_zero] at k0 k1 k2 k3 k4 k5
 refine wpAnyH_done (by kernel_rfl) ?_ _
 go_wp2_with fail
 refine bodyPost_ret (v := .agg #[.string m.k.room, .string m.k.user, .string m.k.thread, .bool m.k.priv, .int .i64 m.po.depth, .string m.po.id]) ?_ rfl ⟨rfl, hHeld.below⟩
 simp [results, Tryz.results103, go_sem, k0, k1, k2, k3, k4, k5]
theorem rank_any (p : Bool) (w : World) : Calls Tryz.prog 167 #[.bool p] w fun e w' => e = .returned (.int .i64 (rankI p)) ∧ w' = w := by
 cases p
 ·go_enter Tryz.func167, Tryz.ntmps167
  go_wp2_with fail
  go_ret
  exact ⟨rfl, rfl⟩
 ·go_enter Tryz.func167, Tryz.ntmps167
  go_wp2_with fail
  go_ret
  exact ⟨rfl, rfl⟩
def orL : List Int → Int
 | [] => 0
 | x :: xs => if x = 0 then orL xs else x
theorem orL_hit {x : Int} : ∀ {xs : List Int} {k : Nat}, (∀ (j : Nat) y, j < k → xs[j]? = some y → y = 0) → xs[k]? = some x → x ≠ 0 → orL xs = x
 | [], k, _, h, _ => by simp at h
 | y :: r, 0, _, h, hx => by
  simp only [List.getElem?_cons_zero, Option.some.injEq] at h
  subst h
  exact if_neg hx
 | y :: r, k + 1, h0, h, hx => by
  rw [List.getElem?_cons_succ] at h
  unfold orL
  rw [if_pos (h0 0 y (by omega) rfl)]
  exact orL_hit (fun j z hj hz => h0 (j + 1) z (by omega) hz) h hx
theorem orL_miss : ∀ {xs : List Int}, (∀ (j : Nat) y, xs[j]? = some y → y = 0) → orL xs = 0
 | [], _ => rfl
 | y :: r, h => by
  unfold orL
  rw [if_pos (h 0 y rfl)]
  exact orL_miss (fun j z hz => h (j + 1) z hz)
theorem int_at {w : World} {A : Option Addr} {n cap i : Nat} {xs : List Int} {x : Int} (h : LI2.Slice w (.slice A n cap) xs) (hi : xs[i]? = some x) : ∃ b off, A = some ⟨b, off, none⟩ ∧ b < w.heap.size ∧ w.cell? ⟨b, off + i, none⟩ = some (.int .i64 x) := by
 obtain ⟨b, off, hA, hb, hr⟩ := h.at hi
 refine ⟨b, off, hA, hb, ?_⟩
 have := hr 0 (.int .i64 x) rfl
 rw [show LI2.c = 1 from rfl, Nat.mul_one, Nat.add_zero] at this
 exact this
set_option maxHeartbeats 800000 in
theorem orL_any (xs : List Int) (v : Value) (w : World) (h : LI2.Slice w v xs) :
  Calls Tryz.prog 113 #[v] w fun e w' => e = .returned (.int .i64 (orL xs)) ∧ w' = w := by
 obtain ⟨A, cap, rfl, h1, h2, -⟩ := id h
 unfold maxLen at h2
 have HR := Lib.hid h
 clear h
 go_enter Tryz.func113, Tryz.ntmps113
 go_wp2_with fail
 go_loopw [8] (fun i wr => wr = w ∧ ∃ a : Nat, i = .int .i64 (a : Int) ∧ a ≤ xs.length ∧ Hid (∀ (j : Nat) y, j < a → xs[j]? = some y → y = 0)) (fun i _ => xs.length - (intOf i).toNat)
 case atStart => exact ⟨rfl, 0, rfl, Nat.zero_le _, Lib.hid (fun j y hj => by omega)⟩
 case round =>
  obtain ⟨rfl, a, rfl, ha, HN⟩ := hrel
  by_cases hax : a < xs.length
  ·have q1 : decide ((a : Int) < (xs.length : Int)) = true := decide_eq_true (by omega)
   have hx : xs[a]? = some xs[a] := List.getElem?_eq_getElem hax
   generalize xs[a] = x at hx
   have HX := Lib.hid hx
   obtain ⟨bo, oo, rfl, hbo, hco⟩ := int_at HR.out hx
   have hiy := index_any (P := Tryz.prog) knI2 (by decide) (b := bo) (off := oo) (cap := cap) hax
   simp only [LI2] at hiy
   rw [Nat.mul_one] at hiy
   clear hx
   by_cases h0 : x = 0
   ·have HN2 : Hid (∀ (j : Nat) y, j < a + 1 → xs[j]? = some y → y = 0) := Lib.hid (fun j y hj hy => by
     by_cases hja : j = a
     ·subst hja
      rw [HX.out] at hy
      injection hy with hy
      rw [← hy]; exact h0
     ·exact HN.out j y (by omega) hy)
    clear HX
    subst h0
    go_wp2_with fail
    refine ⟨⟨trivial, a + 1, by go_num, by omega, HN2⟩, ?_⟩
    simp [intOf]; omega
   ·have q : (x == 0) = false := by rw [beq_eq_false_iff_ne]; exact h0
    have HF : Hid (orL xs = x) := Lib.hid (orL_hit HN.out HX.out h0)
    clear h0
    go_wp2_with fail
    go_ret
    exact ⟨by rw [HF.out]; rfl, rfl⟩
  ·have q1 : decide ((a : Int) < (xs.length : Int)) = false := decide_eq_false (by omega)
   have HF : Hid (orL xs = 0) := Lib.hid (orL_miss (fun j y hy => HN.out j y (by have := (List.getElem?_eq_some_iff.1 hy).1; omega) hy))
   go_wp2_with fail
   go_ret
   exact ⟨by rw [HF.out]; rfl, rfl⟩
theorem cmpK_orL (a b : Rk) : orL [Lib.compareBytes a.room.data.toList b.room.data.toList, Lib.compareBytes a.user.data.toList b.user.data.toList, Lib.compareBytes a.thread.data.toList b.thread.data.toList, Lib.compareInt (rankI a.priv) (rankI b.priv)] = cmpK a b := by
 rw [← cmpK_code]
 unfold orI
 simp only [orL]
 repeat' split
 all_goals simp_all
end Go.Proofs.YtnnapkakbdpkaaaGreat

namespace Go.Proofs.YtnnapkakbdpkaaaGreat
set_option maxRecDepth 20000
open Go.RowKit Go.Maps Go.ChangeMaps
structure TwG (w wr : World) (B1 : Nat) (o1 : Obj) (B2 : Nat) (o2 : Obj) : Prop where
 b1 : wr.heap[B1]? = some o1
 b2 : wr.heap[B2]? = some o2
 gr : Gr w wr
theorem TwoB.tw {w wr : World} {B1 B2 : Nat} {o1 o2 : Obj} (h : TwoB w wr B1 o1 B2 o2) : TwG w wr B1 o1 B2 o2 := ⟨h.bo.box, h.res, h.gr⟩
theorem TwG.on {w wr w2 : World} {B1 B2 : Nat} {o1 o2 : Obj} (h : TwG w wr B1 o1 B2 o2) (hg : Gr wr w2) : TwG w w2 B1 o1 B2 o2 := ⟨(hg.below.block B1 (smem_lt h.b1)).trans h.b1, (hg.below.block B2 (smem_lt h.b2)).trans h.b2, h.gr.trans hg⟩
set_option maxHeartbeats 1600000 in
theorem rcCompare_any (a b : Rk) (w : World) : Calls Tryz.prog 162 #[a.val, b.val] w fun e w' => e = .returned (.int .i64 (cmpK a b)) ∧ Gr w w' := by
 have HT := Lib.hid (TwoB.start w (.cells #[.string a.room, .string a.user, .string a.thread, .bool a.priv] 87 (0, 0)) (.cells #[.string b.room, .string b.user, .string b.thread, .bool b.priv] 87 (0, 0)))
 have HQ1 := Lib.hid (fun W => Tryz.strings_Compare a.room b.room W)
 have HQ2 := Lib.hid (fun W => Tryz.strings_Compare a.user b.user W)
 have HQ3 := Lib.hid (fun W => Tryz.strings_Compare a.thread b.thread W)
 have HQ4 := Lib.hid (fun W => rank_any a.priv W)
 have HQ5 := Lib.hid (fun W => rank_any b.priv W)
 have HQ6 := Lib.hid (fun W => Tryz.cmp_Compare_int (rankI a.priv) (rankI b.priv) W)
 have HU := Lib.hid (cmpK_orL a b)
 generalize Lib.compareBytes a.room.data.toList b.room.data.toList = x1 at HQ1 HU
 generalize Lib.compareBytes a.user.data.toList b.user.data.toList = x2 at HQ2 HU
 generalize Lib.compareBytes a.thread.data.toList b.thread.data.toList = x3 at HQ3 HU
 generalize Lib.compareInt (rankI a.priv) (rankI b.priv) = x6 at HQ6 HU
 generalize rankI a.priv = x4 at HQ4 HQ6
 generalize rankI b.priv = x5 at HQ5 HQ6
 unfold Rk.val
 go_enter Tryz.func162, Tryz.ntmps162
 go_upto_region 1 with (fail)
 generalize World.alloc _ _ = w1 at HT ⊢
 generalize w.heap.size + 1 = B3 at HT ⊢
 generalize hB2 : w.heap.size = B2 at HT ⊢
 refine wp_region_held_drew (S := fun W => TwG w W B2 (.cells #[.string a.room, .string a.user, .string a.thread, .bool a.priv] 87 (0, 0)) B3 (.cells #[.string b.room, .string b.user, .string b.thread, .bool b.priv] 87 (0, 0))) (by kernel_rfl) (HT.out.tw.on ((Gr.refl _).drew)) (fun hHeld => ?_)
 clear HT
 generalize w1.drew = wd at hHeld ⊢
 refine wpAnyH_take (i := 0) (oi := ⟨some 5, _, _, _, _, _⟩) (v := ?vc0) rfl (by kernel_rfl) (by kernel_rfl) (by kernel_rfl) (fun _ _ _ h => h) (Or.inl ⟨by rfl, ?yc0⟩) hHeld ?rc0
 case yc0 =>
  intro wx hSx
  go_simp
  try with_reducible rfl
 try simp only [actS]
 refine wpAnyH_take (i := 2) (oi := ⟨some 7, _, _, _, _, _⟩) (v := ?vc2) rfl (by kernel_rfl) (by kernel_rfl) (by kernel_rfl) (fun _ _ _ h => h) (Or.inl ⟨by rfl, ?yc2⟩) hHeld ?rc2
 case yc2 =>
  intro wx hSx
  go_simp
  try with_reducible rfl
 try simp only [actS]
 refine wpAnyH_take (i := 5) (oi := ⟨some 10, _, _, _, _, _⟩) (v := ?vc5) rfl (by kernel_rfl) (by kernel_rfl) (by kernel_rfl) (fun _ _ _ h => h) (Or.inl ⟨by rfl, ?yc5⟩) hHeld ?rc5
 case yc5 =>
  intro wx hSx
  go_simp
  try with_reducible rfl
 try simp only [actS]
 refine wpAnyH_take (i := 7) (oi := ⟨some 12, _, _, _, _, _⟩) (v := ?vc7) rfl (by kernel_rfl) (by kernel_rfl) (by kernel_rfl) (fun _ _ _ h => h) (Or.inl ⟨by rfl, ?yc7⟩) hHeld ?rc7
 case yc7 =>
  intro wx hSx
  go_simp
  try with_reducible rfl
 try simp only [actS]
 refine wpAnyH_take (i := 10) (oi := ⟨some 15, _, _, _, _, _⟩) (v := ?vc10) rfl (by kernel_rfl) (by kernel_rfl) (by kernel_rfl) (fun _ _ _ h => h) (Or.inl ⟨by rfl, ?yc10⟩) hHeld ?rc10
 case yc10 =>
  intro wx hSx
  go_simp
  try with_reducible rfl
 try simp only [actS]
 refine wpAnyH_take (i := 12) (oi := ⟨some 17, _, _, _, _, _⟩) (v := ?vc12) rfl (by kernel_rfl) (by kernel_rfl) (by kernel_rfl) (fun _ _ _ h => h) (Or.inl ⟨by rfl, ?yc12⟩) hHeld ?rc12
 case yc12 =>
  intro wx hSx
  go_simp
  try with_reducible rfl
 try simp only [actS]
 refine wpAnyH_take (i := 15) (oi := ⟨some 20, _, _, _, _, _⟩) (v := ?vc15) rfl (by kernel_rfl) (by kernel_rfl) (by kernel_rfl) (fun _ _ _ h => h) (Or.inl ⟨by rfl, ?yc15⟩) hHeld ?rc15
 case yc15 =>
  intro wx hSx
  go_simp
  try with_reducible rfl
 try simp only [actS]
 refine wpAnyH_take (i := 18) (oi := ⟨some 23, _, _, _, _, _⟩) (v := ?vc18) rfl (by kernel_rfl) (by kernel_rfl) (by kernel_rfl) (fun _ _ _ h => h) (Or.inl ⟨by rfl, ?yc18⟩) hHeld ?rc18
 case yc18 =>
  intro wx hSx
  go_simp
  try with_reducible rfl
 try simp only [actS]
 refine wpAnyH_take (i := 1) (oi := ⟨some 6, _, _, _, _, _⟩) (v := ?vc1) rfl (by kernel_rfl) (by kernel_rfl) (by kernel_rfl) (fun _ _ _ h => h) (Or.inl ⟨by rfl, ?yc1⟩) hHeld ?rc1
 case yc1 =>
  intro wx hSx
  have z := cell_at hSx.b1 0
  simp only [List.getElem?_toArray, List.getElem?_cons_succ, List.getElem?_cons_zero] at z
  go_simp
  try with_reducible rfl
 try simp only [actS]
 refine wpAnyH_take (i := 3) (oi := ⟨some 8, _, _, _, _, _⟩) (v := ?vc3) rfl (by kernel_rfl) (by kernel_rfl) (by kernel_rfl) (fun _ _ _ h => h) (Or.inl ⟨by rfl, ?yc3⟩) hHeld ?rc3
 case yc3 =>
  intro wx hSx
  have z := cell_at hSx.b2 0
  simp only [List.getElem?_toArray, List.getElem?_cons_succ, List.getElem?_cons_zero] at z
  go_simp
  try with_reducible rfl
 try simp only [actS]
 refine wpAnyH_take (i := 6) (oi := ⟨some 11, _, _, _, _, _⟩) (v := ?vc6) rfl (by kernel_rfl) (by kernel_rfl) (by kernel_rfl) (fun _ _ _ h => h) (Or.inl ⟨by rfl, ?yc6⟩) hHeld ?rc6
 case yc6 =>
  intro wx hSx
  have z := cell_at hSx.b1 1
  simp only [List.getElem?_toArray, List.getElem?_cons_succ, List.getElem?_cons_zero] at z
  go_simp
  try with_reducible rfl
 try simp only [actS]
 refine wpAnyH_take (i := 8) (oi := ⟨some 13, _, _, _, _, _⟩) (v := ?vc8) rfl (by kernel_rfl) (by kernel_rfl) (by kernel_rfl) (fun _ _ _ h => h) (Or.inl ⟨by rfl, ?yc8⟩) hHeld ?rc8
 case yc8 =>
  intro wx hSx
  have z := cell_at hSx.b2 1
  simp only [List.getElem?_toArray, List.getElem?_cons_succ, List.getElem?_cons_zero] at z
  go_simp
  try with_reducible rfl
 try simp only [actS]
 refine wpAnyH_take (i := 11) (oi := ⟨some 16, _, _, _, _, _⟩) (v := ?vc11) rfl (by kernel_rfl) (by kernel_rfl) (by kernel_rfl) (fun _ _ _ h => h) (Or.inl ⟨by rfl, ?yc11⟩) hHeld ?rc11
 case yc11 =>
  intro wx hSx
  have z := cell_at hSx.b1 2
  simp only [List.getElem?_toArray, List.getElem?_cons_succ, List.getElem?_cons_zero] at z
  go_simp
  try with_reducible rfl
 try simp only [actS]
 refine wpAnyH_take (i := 13) (oi := ⟨some 18, _, _, _, _, _⟩) (v := ?vc13) rfl (by kernel_rfl) (by kernel_rfl) (by kernel_rfl) (fun _ _ _ h => h) (Or.inl ⟨by rfl, ?yc13⟩) hHeld ?rc13
 case yc13 =>
  intro wx hSx
  have z := cell_at hSx.b2 2
  simp only [List.getElem?_toArray, List.getElem?_cons_succ, List.getElem?_cons_zero] at z
  go_simp
  try with_reducible rfl
 try simp only [actS]
 refine wpAnyH_take (i := 16) (oi := ⟨some 21, _, _, _, _, _⟩) (v := ?vc16) rfl (by kernel_rfl) (by kernel_rfl) (by kernel_rfl) (fun _ _ _ h => h) (Or.inl ⟨by rfl, ?yc16⟩) hHeld ?rc16
 case yc16 =>
  intro wx hSx
  have z := cell_at hSx.b1 3
  simp only [List.getElem?_toArray, List.getElem?_cons_succ, List.getElem?_cons_zero] at z
  go_simp
  try with_reducible rfl
 try simp only [actS]
 refine wpAnyH_take (i := 19) (oi := ⟨some 24, _, _, _, _, _⟩) (v := ?vc19) rfl (by kernel_rfl) (by kernel_rfl) (by kernel_rfl) (fun _ _ _ h => h) (Or.inl ⟨by rfl, ?yc19⟩) hHeld ?rc19
 case yc19 =>
  intro wx hSx
  have z := cell_at hSx.b2 3
  simp only [List.getElem?_toArray, List.getElem?_cons_succ, List.getElem?_cons_zero] at z
  go_simp
  try with_reducible rfl
 try simp only [actS]
 refine anyH_asks (i := 4) (oi := ⟨some 9, _, _, _, _, _⟩) (v := .int .i64 x1) rfl (by kernel_rfl) (by kernel_rfl) (by kernel_rfl) (fun _ _ _ h => h) ⟨by rfl, fun wx hSx => ⟨_, _, ?ec4, (HQ1.out _).mono (fun _ _ h => ⟨h.1, h.2.symm⟩)⟩⟩ hHeld ?rc4
 case ec4 => go_simp
 try simp only [actS]
 refine anyH_asks (i := 9) (oi := ⟨some 14, _, _, _, _, _⟩) (v := .int .i64 x2) rfl (by kernel_rfl) (by kernel_rfl) (by kernel_rfl) (fun _ _ _ h => h) ⟨by rfl, fun wx hSx => ⟨_, _, ?ec9, (HQ2.out _).mono (fun _ _ h => ⟨h.1, h.2.symm⟩)⟩⟩ hHeld ?rc9
 case ec9 => go_simp
 try simp only [actS]
 refine anyH_asks (i := 14) (oi := ⟨some 19, _, _, _, _, _⟩) (v := .int .i64 x3) rfl (by kernel_rfl) (by kernel_rfl) (by kernel_rfl) (fun _ _ _ h => h) ⟨by rfl, fun wx hSx => ⟨_, _, ?ec14, (HQ3.out _).mono (fun _ _ h => ⟨h.1, h.2.symm⟩)⟩⟩ hHeld ?rc14
 case ec14 => go_simp
 try simp only [actS]
 refine anyH_asks (i := 17) (oi := ⟨some 22, _, _, _, _, _⟩) (v := .int .i64 x4) rfl (by kernel_rfl) (by kernel_rfl) (by kernel_rfl) (fun _ _ _ h => h) ⟨by rfl, fun wx hSx => ⟨_, _, ?ec17, (HQ4.out _).mono (fun _ _ h => ⟨h.1, h.2.symm⟩)⟩⟩ hHeld ?rc17
 case ec17 => go_simp
 try simp only [actS]
 refine anyH_asks (i := 20) (oi := ⟨some 25, _, _, _, _, _⟩) (v := .int .i64 x5) rfl (by kernel_rfl) (by kernel_rfl) (by kernel_rfl) (fun _ _ _ h => h) ⟨by rfl, fun wx hSx => ⟨_, _, ?ec20, (HQ5.out _).mono (fun _ _ h => ⟨h.1, h.2.symm⟩)⟩⟩ hHeld ?rc20
 case ec20 => go_simp
 try simp only [actS]
 refine anyH_asks (i := 21) (oi := ⟨some 26, _, _, _, _, _⟩) (v := .int .i64 x6) rfl (by kernel_rfl) (by kernel_rfl) (by kernel_rfl) (fun _ _ _ h => h) ⟨by rfl, fun wx hSx => ⟨_, _, ?ec21, (HQ6.out _).mono (fun _ _ h => ⟨h.1, h.2.symm⟩)⟩⟩ hHeld ?rc21
 case ec21 => go_simp
 try simp only [actS]
 refine wpAnyH_ready (rs := [22]) (by kernel_rfl) (by simp) ?_
 refine AllReadyH.cons (o := ⟨some 27, _, _, _, _, _⟩) rfl (fun K hK => ?_) AllReadyH.nil
 have hn := Lib.hid (lit_many (L := LI2) wd [x1, x2, x3, x6] wd.heap.size 4 rfl rfl (by decide) #[.int .i64 x1, .int .i64 x2, .int .i64 x3, .int .i64 x6] rfl)
 have hNW := hHeld.on ((Gr.refl wd).alloc (.cells #[.int .i64 x1, .int .i64 x2, .int .i64 x3, .int .i64 x6] 3))
 replace hn := Lib.hid (show LI2.Slice (wd.alloc (.cells #[.int .i64 x1, .int .i64 x2, .int .i64 x3, .int .i64 x6] 3)) (.slice (some ⟨wd.heap.size, 0, none⟩) 4 4) [x1, x2, x3, x6] from hn.out)
 go_simp
 refine hK.out _ _ hNW (fun hHeld => ?_)
 clear hK K hNW
 try simp only [actS]
 refine wpAnyH_ready (rs := [23]) (by kernel_rfl) (by simp) ?_
 refine AllReadyH.cons (o := ⟨some 28, _, _, _, _, _⟩) rfl (fun K hK => ?_) AllReadyH.nil
 go_simp
 refine (orL_any _ _ _ hn.out).mono ?_
 rintro e wn ⟨rfl, rfl⟩
 refine hK.out _ _ hHeld (fun hHeld => ?_)
 clear hK K
 try simp only [actS]
 refine wpAnyH_take (i := 24) (oi := ⟨some 4, _, _, _, _, _⟩) (v := ?vc24) rfl (by kernel_rfl) (by kernel_rfl) (by kernel_rfl) (fun _ _ _ h => h) (Or.inl ⟨by rfl, ?yc24⟩) hHeld ?rc24
 case yc24 =>
  intro wx hSx
  go_simp
  try with_reducible rfl
 try simp only [actS]
 refine wpAnyH_done (by kernel_rfl) ?_ _
 go_wp2_with fail
 go_ret
 exact ⟨by rw [← HU.out]; rfl, hHeld.gr⟩
set_option maxHeartbeats 800000 in
theorem all1_any (a b : Mk) (w : World) : Calls Tryz.prog 161 #[a.val, b.val] w fun e w' => e = .returned (.int .i64 (cmpK a.k b.k)) ∧ Gr w w' := by
 have HT := Lib.hid (TwoB.start w (.cells #[.string a.k.room, .string a.k.user, .string a.k.thread, .bool a.k.priv, .int .i64 a.po.depth, .string a.po.id] 130 (0, 0)) (.cells #[.string b.k.room, .string b.k.user, .string b.k.thread, .bool b.k.priv, .int .i64 b.po.depth, .string b.po.id] 130 (0, 0)))
 have HQ := Lib.hid (fun W => rcCompare_any a.k b.k W)
 unfold Rk.val at HQ
 unfold Mk.val
 generalize cmpK a.k b.k = x at HQ ⊢
 go_enter Tryz.func161, Tryz.ntmps161
 go_upto_region 1 with (fail)
 generalize World.alloc _ _ = w1 at HT ⊢
 generalize w.heap.size + 1 = B3 at HT ⊢
 generalize hB2 : w.heap.size = B2 at HT ⊢
 have a0 : w1.cell? ⟨B2, 0, none⟩ = some (.string a.k.room) := cell_at HT.out.bo.box 0
 have a1 : w1.cell? ⟨B2, 1, none⟩ = some (.string a.k.user) := cell_at HT.out.bo.box 1
 have a2 : w1.cell? ⟨B2, 2, none⟩ = some (.string a.k.thread) := cell_at HT.out.bo.box 2
 have a3 : w1.cell? ⟨B2, 3, none⟩ = some (.bool a.k.priv) := cell_at HT.out.bo.box 3
 have b0 : w1.cell? ⟨B3, 0, none⟩ = some (.string b.k.room) := cell_at HT.out.res 0
 have b1 : w1.cell? ⟨B3, 1, none⟩ = some (.string b.k.user) := cell_at HT.out.res 1
 have b2 : w1.cell? ⟨B3, 2, none⟩ = some (.string b.k.thread) := cell_at HT.out.res 2
 have b3 : w1.cell? ⟨B3, 3, none⟩ = some (.bool b.k.priv) := cell_at HT.out.res 3
 go_wp2_with fail
 go_at_call 162
 refine (HQ.out _).mono ?_
 rintro e w2 ⟨rfl, hg⟩
 have HG := Lib.hid (HT.out.gr.trans hg)
 clear HT hg
 go_wp2_with fail
 go_ret
 exact ⟨rfl, HG.out⟩
set_option maxHeartbeats 800000 in
theorem rcNew_any (w : World) : Calls Tryz.prog 37 #[] w fun e w' => ∃ r : RI, e = .returned (.pointer (some ⟨r.g, 0, none⟩)) ∧ r.l = [] ∧ CRs w' r ∧ Below w.heap.size w w' ∧ ∀ k, r.own k → w.heap.size ≤ k := by
 have hmm := @run_makeMap Tryz.prog
 go_enter Tryz.func37, Tryz.ntmps37
 go_wp2_with fail
 go_ret
 have h0 := World.ownsMap_made (H := Value) w Tryz.prog 87 heldR
 have hb : Below w.heap.size w ((w.alloc (.map #[] 0)).alloc (.cells #[.map (some w.heap.size)] 142)) := ((Below.refl _ w).alloc (Nat.le_refl _) _).alloc (by simp) _
 refine ⟨⟨w.heap.size + 1, w.heap.size, [], .map []⟩, rfl, rfl, ⟨?_, h0.alloc _, MdM.nil, row_nilM, fun m hm => by cases hm⟩, hb, fun k hk => ?_⟩
 ·have := heap_alloc_new (w.alloc (.map #[] 0)) (.cells #[.map (some w.heap.size)] 142)
  rw [show (w.alloc (.map #[] 0)).heap.size = w.heap.size + 1 by simp] at this
  exact this
 ·rcases hk with e | e <;> (simp only at e; omega)
def gotP (l : List Mk) (k : Rk) : Po := (getM l k).getD ⟨0, ⟨#[]⟩⟩
theorem CRs.look {w : World} {r : RI} (h : CRs w r) {k : Rk} (hk : k.ok) : (Instr.lookup 140 (.map (some r.mb)) k.val true).run Tryz.prog w = .ok (.tuple #[(gotP r.l k).val, .bool (getM r.l k).isSome]) w := by
 obtain ⟨x, ps, hr, hv⟩ := World.ownsMap.look_ok h.map keyedK Tryz.underlying140 (zeroIsP w) (zd := .held zeroP) (zp := []) rfl (keyIsK hk)
 rw [h.is.get h.row h.okk hk] at hv
 rw [hr, h.is.has h.okk hk]
 unfold gotP
 cases hg : getM r.l k with
 | none =>
  rw [hg] at hv
  injection hv with hv
  injection hv with hv _
  injection hv with hv
  rw [hv]
  rfl
 | some p =>
  rw [hg] at hv
  injection hv with hv
  injection hv with hv _
  injection hv with hv
  rw [hv]
  rfl
end Go.Proofs.YtnnapkakbdpkaaaGreat
