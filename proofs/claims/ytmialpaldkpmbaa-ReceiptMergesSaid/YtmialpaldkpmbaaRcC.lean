/-
  Package receipt: copies, how keys stand, what All and Public hand to the library, New, Len.
-/
import Derived.Test.YtmialpaldkpmbaaRcM
namespace Go.Proofs.Ytmialpaldkpmbaa
set_option maxRecDepth 20000
open Go.RowKit Go.Maps Go.ChangeMaps
set_option linter.unusedVariables false
set_option linter.unusedSimpArgs false

theorem rcClone_any (s : ByteArray) (w : World) (hs : s.size ≤ 281474976710656) :
    Calls Try.prog 45 #[.string s] w fun e w' => e = .returned (.string s) ∧ Below w.heap.size w w' := by
  go_enter Try.func45, Try.ntmps45
  go_wp2_with fail
  refine (Try.stringslite_Clone s _ hs).mono ?_
  rintro e w' ⟨rfl, hb⟩
  go_wp2
  go_ret
  exact ⟨rfl, hb⟩
/-- A whole struct is stored. -/
theorem stored {w : World} {B : Nat} {cur : Array Value} {t : TypeId} (hr : w.heap[B]? = some (.cells cur t (0, 0))) (vs : List Value) (hn : vs.length = cur.size) : ∀ W, W = w.setCells B 0 vs → W.heap[B]? = some (.cells vs.toArray t (0, 0)) ∧ w.grownBy W (some B) := by
  rintro W rfl
  obtain ⟨cur', z1, z2, z3⟩ := sm_at B t vs 0 w cur hr (by omega)
  refine ⟨?_, sm_grown w B 0 vs⟩
  rw [z1]
  have : cur' = vs.toArray := by
    apply Array.toList_inj.1
    rw [z3, Nat.zero_add, hn, List.drop_of_length_le (by rw [Array.length_toList]; exact Nat.le_refl _)]
    simp
  rw [this]
/-- A box, while what is new is made. -/
structure BoS (w wr : World) (B : Nat) (o : Obj) : Prop where
  box : wr.heap[B]? = some o
  below : Below w.heap.size w wr
section
variable {w wr w2 : World} {B B2 : Nat} {o o2 : Obj}
theorem BoS.on (h : BoS w wr B o) (hb : Below wr.heap.size wr w2) : BoS w w2 B o := ⟨(hb.block B (smem_lt h.box)).trans h.box, h.below.trans (hb.mono h.below.size)⟩
theorem BoS.put (h : BoS w wr B o) (hg : wr.grownBy w2 (some B2)) (hne : B ≠ B2) (hlo : w.heap.size ≤ B2) : BoS w w2 B o :=
  ⟨(hg.block B (smem_lt h.box) (fun e => hne (by injection e))).trans h.box, h.below.grown hg h.below.size (fun k hk => by injection hk with hk; omega)⟩
theorem BoS.drew (h : BoS w wr B o) : BoS w wr.drew B o := ⟨h.box, h.below.drew⟩
/-- Two boxes are made. -/
structure TwoB (w wr : World) (B1 : Nat) (o1 : Obj) (B2 : Nat) (o2 : Obj) : Prop where
  bo : BoS w wr B1 o1
  res : wr.heap[B2]? = some o2
  ne : B1 ≠ B2
  lo1 : w.heap.size ≤ B1
  lo2 : w.heap.size ≤ B2
  gr : Gr w wr
theorem TwoB.start (w : World) (o1 o2 : Obj) : TwoB w ((w.alloc o1).alloc o2) w.heap.size o1 (w.heap.size + 1) o2 := by
  have s1 : ∀ (u : World) (o : Obj), (u.alloc o).heap.size = u.heap.size + 1 := fun u o => by simp
  have h2 := heap_alloc_new w o1
  have h3 := heap_alloc_new (w.alloc o1) o2
  rw [s1] at h3
  refine ⟨⟨?_, ((Gr.refl w).alloc o1 |>.alloc o2).below⟩, h3, by omega, Nat.le_refl _, by omega, (Gr.refl w).alloc o1 |>.alloc o2⟩
  rw [heap_alloc_old _ _ (by rw [s1]; omega)]
  exact h2
end

set_option maxHeartbeats 1600000 in
theorem ownPos_any (p : Po) (w : World) (hp : p.id.size ≤ 281474976710656) :
    Calls Try.prog 39 #[p.val] w fun e w' => e = .returned p.val ∧ Below w.heap.size w w' := by
  have HT := Lib.hid (TwoB.start w (.cells #[.int .i64 p.depth, .string p.id] 36 (0, 0)) (.cells #[.int .i64 0, .string ⟨#[]⟩] 36 (0, 0)))
  have HC := Lib.hid (fun W => rcClone_any p.id W hp)
  unfold Po.val
  clear hp
  go_enter Try.func39, Try.ntmps39
  go_upto_region 1 with (fail)
  generalize World.alloc _ _ = w1 at HT ⊢
  generalize w.heap.size + 1 = B2 at HT ⊢
  generalize hB1 : w.heap.size = B1 at HT ⊢
  refine wp_region_held_drew (S := fun W => BoS w W B1 (.cells #[.int .i64 p.depth, .string p.id] 36 (0, 0))) (by kernel_rfl) HT.out.bo.drew (fun hHeld => ?_)
  have hres : w1.drew.heap[B2]? = _ := HT.out.res
  have hne := HT.out.ne
  have hlo2 := HT.out.lo2
  clear HT
  generalize w1.drew = wd at hHeld hres ⊢
  refine wpAnyH_take (i := 0) (oi := ⟨some 3, _, _, _, _, _⟩) (v := ?vo0) rfl (by kernel_rfl) (by kernel_rfl) (by kernel_rfl) (fun _ _ _ h => h) (Or.inl ⟨by rfl, ?yo0⟩) hHeld ?ro0
  case yo0 =>
    intro wx hSx
    go_simp
    try with_reducible rfl
  try simp only [Act.put, List.setIfInBounds_toArray, List.set_cons_zero, List.set_cons_succ]
  refine wpAnyH_take (i := 2) (oi := ⟨some 5, _, _, _, _, _⟩) (v := ?vo2) rfl (by kernel_rfl) (by kernel_rfl) (by kernel_rfl) (fun _ _ _ h => h) (Or.inl ⟨by rfl, ?yo2⟩) hHeld ?ro2
  case yo2 =>
    intro wx hSx
    go_simp
    try with_reducible rfl
  try simp only [Act.put, List.setIfInBounds_toArray, List.set_cons_zero, List.set_cons_succ]
  refine wpAnyH_take (i := 1) (oi := ⟨some 4, _, _, _, _, _⟩) (v := ?vo1) rfl (by kernel_rfl) (by kernel_rfl) (by kernel_rfl) (fun _ _ _ h => h) (Or.inl ⟨by rfl, ?yo1⟩) hHeld ?ro1
  case yo1 =>
    intro wx hSx
    have z := cell_at hSx.box 0
    simp only [List.getElem?_toArray, List.getElem?_cons_succ, List.getElem?_cons_zero] at z
    go_simp
    try with_reducible rfl
  try simp only [Act.put, List.setIfInBounds_toArray, List.set_cons_zero, List.set_cons_succ]
  refine wpAnyH_take (i := 3) (oi := ⟨some 6, _, _, _, _, _⟩) (v := ?vo3) rfl (by kernel_rfl) (by kernel_rfl) (by kernel_rfl) (fun _ _ _ h => h) (Or.inl ⟨by rfl, ?yo3⟩) hHeld ?ro3
  case yo3 =>
    intro wx hSx
    have z := cell_at hSx.box 1
    simp only [List.getElem?_toArray, List.getElem?_cons_succ, List.getElem?_cons_zero] at z
    go_simp
    try with_reducible rfl
  try simp only [Act.put, List.setIfInBounds_toArray, List.set_cons_zero, List.set_cons_succ]
  refine wpAnyH_ready (rs := [4]) (by kernel_rfl) (by simp) ?_
  refine AllReadyH.cons (o := ⟨some 7, _, _, _, _, _⟩) rfl (fun K hK => ?_) AllReadyH.nil
  go_simp
  refine (HC.out _).mono ?_
  rintro e wn ⟨rfl, hbn⟩
  replace hres := (hbn.block B2 (smem_lt hres)).trans hres
  refine hK.out _ _ (hHeld.on hbn) (fun hHeld => ?_)
  clear hK K hbn
  try simp only [Act.put, List.setIfInBounds_toArray, List.set_cons_zero, List.set_cons_succ]
  refine wpAnyH_take (i := 5) (oi := ⟨some 8, _, _, _, _, _⟩) (v := ?vo5) rfl (by kernel_rfl) (by kernel_rfl) (by kernel_rfl) (fun _ _ _ h => h) (Or.inl ⟨by rfl, ?yo5⟩) hHeld ?ro5
  case yo5 =>
    intro wx hSx
    go_simp
    try with_reducible rfl
  try simp only [Act.put, List.setIfInBounds_toArray, List.set_cons_zero, List.set_cons_succ]
  refine wpAnyH_ready (rs := [6]) (by kernel_rfl) (by simp) ?_
  refine AllReadyH.cons (o := ⟨none, _, _, _, _, _⟩) rfl (fun K hK => ?_) AllReadyH.nil
  have r0 : wn.cell? ⟨B2, 0, none⟩ = some (.int .i64 0) := cell_at hres 0
  have r1 : wn.cell? ⟨B2, 1, none⟩ = some (.string ⟨#[]⟩) := cell_at hres 1
  have z0 : wn.frozen? ⟨B2, 0, none⟩ = false := free_at hres 0
  have z1 : wn.frozen? ⟨B2, 1, none⟩ = false := free_at hres 1
  have HAN := stored hres [.int .i64 p.depth, .string p.id] rfl _ rfl
  simp only [World.setCells] at HAN
  go_simp
  generalize World.setCell _ _ _ = w9 at HAN ⊢
  refine hK.out _ _ (hHeld.put HAN.2 hne hlo2) (fun hHeld => ?_)
  clear hK K r0 z0 r1 z1
  have k0 := cell_at HAN.1 0
  have k1 := cell_at HAN.1 1
  simp only [List.getElem?_toArray, List.getElem?_cons_succ, List.getElem?_cons_zero] at k0 k1
  refine wpAnyH_done (by kernel_rfl) ?_ _
  go_wp2_with fail
  refine bodyPost_ret (v := .agg #[.int .i64 p.depth, .string p.id]) ?_ rfl ⟨rfl, hHeld.below⟩
  simp [results, Try.results39, go_sem, k0, k1]

set_option maxHeartbeats 1600000 in
theorem rcOwn_any (m : Mk) (w : World) (hm : m.ok) :
    Calls Try.prog 29 #[m.val] w fun e w' => e = .returned m.val ∧ Below w.heap.size w w' := by
  have HT := Lib.hid (TwoB.start w (.cells #[.string m.k.room, .string m.k.user, .string m.k.thread, .bool m.k.priv, .int .i64 m.po.depth, .string m.po.id] 60 (0, 0)) (.cells #[.string ⟨#[]⟩, .string ⟨#[]⟩, .string ⟨#[]⟩, .bool false, .int .i64 0, .string ⟨#[]⟩] 60 (0, 0)))
  have HC1 := Lib.hid (fun W => rcClone_any m.k.room W hm.1.1)
  have HC2 := Lib.hid (fun W => rcClone_any m.k.user W hm.1.2.1)
  have HC3 := Lib.hid (fun W => rcClone_any m.k.thread W hm.1.2.2)
  have HC4 := Lib.hid (fun W => ownPos_any m.po W hm.2)
  unfold Po.val at HC4
  unfold Mk.val
  clear hm
  go_enter Try.func29, Try.ntmps29
  go_upto_region 1 with (fail)
  generalize World.alloc _ _ = w1 at HT ⊢
  generalize w.heap.size + 1 = B2 at HT ⊢
  generalize hB1 : w.heap.size = B1 at HT ⊢
  refine wp_region_held_drew (S := fun W => BoS w W B1 (.cells #[.string m.k.room, .string m.k.user, .string m.k.thread, .bool m.k.priv, .int .i64 m.po.depth, .string m.po.id] 60 (0, 0))) (by kernel_rfl) HT.out.bo.drew (fun hHeld => ?_)
  have hres : w1.drew.heap[B2]? = _ := HT.out.res
  have hne := HT.out.ne
  have hlo2 := HT.out.lo2
  clear HT
  generalize w1.drew = wd at hHeld hres ⊢
  refine wpAnyH_take (i := 0) (oi := ⟨some 3, _, _, _, _, _⟩) (v := ?vo0) rfl (by kernel_rfl) (by kernel_rfl) (by kernel_rfl) (fun _ _ _ h => h) (Or.inl ⟨by rfl, ?yo0⟩) hHeld ?ro0
  case yo0 =>
    intro wx hSx
    go_simp
    try with_reducible rfl
  try simp only [Act.put, List.setIfInBounds_toArray, List.set_cons_zero, List.set_cons_succ]
  refine wpAnyH_take (i := 1) (oi := ⟨some 4, _, _, _, _, _⟩) (v := ?vo1) rfl (by kernel_rfl) (by kernel_rfl) (by kernel_rfl) (fun _ _ _ h => h) (Or.inl ⟨by rfl, ?yo1⟩) hHeld ?ro1
  case yo1 =>
    intro wx hSx
    go_simp
    try with_reducible rfl
  try simp only [Act.put, List.setIfInBounds_toArray, List.set_cons_zero, List.set_cons_succ]
  refine wpAnyH_take (i := 4) (oi := ⟨some 7, _, _, _, _, _⟩) (v := ?vo4) rfl (by kernel_rfl) (by kernel_rfl) (by kernel_rfl) (fun _ _ _ h => h) (Or.inl ⟨by rfl, ?yo4⟩) hHeld ?ro4
  case yo4 =>
    intro wx hSx
    go_simp
    try with_reducible rfl
  try simp only [Act.put, List.setIfInBounds_toArray, List.set_cons_zero, List.set_cons_succ]
  refine wpAnyH_take (i := 5) (oi := ⟨some 8, _, _, _, _, _⟩) (v := ?vo5) rfl (by kernel_rfl) (by kernel_rfl) (by kernel_rfl) (fun _ _ _ h => h) (Or.inl ⟨by rfl, ?yo5⟩) hHeld ?ro5
  case yo5 =>
    intro wx hSx
    go_simp
    try with_reducible rfl
  try simp only [Act.put, List.setIfInBounds_toArray, List.set_cons_zero, List.set_cons_succ]
  refine wpAnyH_take (i := 8) (oi := ⟨some 11, _, _, _, _, _⟩) (v := ?vo8) rfl (by kernel_rfl) (by kernel_rfl) (by kernel_rfl) (fun _ _ _ h => h) (Or.inl ⟨by rfl, ?yo8⟩) hHeld ?ro8
  case yo8 =>
    intro wx hSx
    go_simp
    try with_reducible rfl
  try simp only [Act.put, List.setIfInBounds_toArray, List.set_cons_zero, List.set_cons_succ]
  refine wpAnyH_take (i := 9) (oi := ⟨some 12, _, _, _, _, _⟩) (v := ?vo9) rfl (by kernel_rfl) (by kernel_rfl) (by kernel_rfl) (fun _ _ _ h => h) (Or.inl ⟨by rfl, ?yo9⟩) hHeld ?ro9
  case yo9 =>
    intro wx hSx
    go_simp
    try with_reducible rfl
  try simp only [Act.put, List.setIfInBounds_toArray, List.set_cons_zero, List.set_cons_succ]
  refine wpAnyH_take (i := 12) (oi := ⟨some 15, _, _, _, _, _⟩) (v := ?vo12) rfl (by kernel_rfl) (by kernel_rfl) (by kernel_rfl) (fun _ _ _ h => h) (Or.inl ⟨by rfl, ?yo12⟩) hHeld ?ro12
  case yo12 =>
    intro wx hSx
    go_simp
    try with_reducible rfl
  try simp only [Act.put, List.setIfInBounds_toArray, List.set_cons_zero, List.set_cons_succ]
  refine wpAnyH_take (i := 13) (oi := ⟨some 16, _, _, _, _, _⟩) (v := ?vo13) rfl (by kernel_rfl) (by kernel_rfl) (by kernel_rfl) (fun _ _ _ h => h) (Or.inl ⟨by rfl, ?yo13⟩) hHeld ?ro13
  case yo13 =>
    intro wx hSx
    go_simp
    try with_reducible rfl
  try simp only [Act.put, List.setIfInBounds_toArray, List.set_cons_zero, List.set_cons_succ]
  refine wpAnyH_take (i := 16) (oi := ⟨some 19, _, _, _, _, _⟩) (v := ?vo16) rfl (by kernel_rfl) (by kernel_rfl) (by kernel_rfl) (fun _ _ _ h => h) (Or.inl ⟨by rfl, ?yo16⟩) hHeld ?ro16
  case yo16 =>
    intro wx hSx
    go_simp
    try with_reducible rfl
  try simp only [Act.put, List.setIfInBounds_toArray, List.set_cons_zero, List.set_cons_succ]
  refine wpAnyH_take (i := 2) (oi := ⟨some 5, _, _, _, _, _⟩) (v := ?vo2) rfl (by kernel_rfl) (by kernel_rfl) (by kernel_rfl) (fun _ _ _ h => h) (Or.inl ⟨by rfl, ?yo2⟩) hHeld ?ro2
  case yo2 =>
    intro wx hSx
    have z := cell_at hSx.box 0
    simp only [List.getElem?_toArray, List.getElem?_cons_succ, List.getElem?_cons_zero] at z
    go_simp
    try with_reducible rfl
  try simp only [Act.put, List.setIfInBounds_toArray, List.set_cons_zero, List.set_cons_succ]
  refine wpAnyH_take (i := 6) (oi := ⟨some 9, _, _, _, _, _⟩) (v := ?vo6) rfl (by kernel_rfl) (by kernel_rfl) (by kernel_rfl) (fun _ _ _ h => h) (Or.inl ⟨by rfl, ?yo6⟩) hHeld ?ro6
  case yo6 =>
    intro wx hSx
    have z := cell_at hSx.box 1
    simp only [List.getElem?_toArray, List.getElem?_cons_succ, List.getElem?_cons_zero] at z
    go_simp
    try with_reducible rfl
  try simp only [Act.put, List.setIfInBounds_toArray, List.set_cons_zero, List.set_cons_succ]
  refine wpAnyH_take (i := 10) (oi := ⟨some 13, _, _, _, _, _⟩) (v := ?vo10) rfl (by kernel_rfl) (by kernel_rfl) (by kernel_rfl) (fun _ _ _ h => h) (Or.inl ⟨by rfl, ?yo10⟩) hHeld ?ro10
  case yo10 =>
    intro wx hSx
    have z := cell_at hSx.box 2
    simp only [List.getElem?_toArray, List.getElem?_cons_succ, List.getElem?_cons_zero] at z
    go_simp
    try with_reducible rfl
  try simp only [Act.put, List.setIfInBounds_toArray, List.set_cons_zero, List.set_cons_succ]
  refine wpAnyH_take (i := 14) (oi := ⟨some 17, _, _, _, _, _⟩) (v := ?vo14) rfl (by kernel_rfl) (by kernel_rfl) (by kernel_rfl) (fun _ _ _ h => h) (Or.inl ⟨by rfl, ?yo14⟩) hHeld ?ro14
  case yo14 =>
    intro wx hSx
    have z := cell_at hSx.box 3
    simp only [List.getElem?_toArray, List.getElem?_cons_succ, List.getElem?_cons_zero] at z
    go_simp
    try with_reducible rfl
  try simp only [Act.put, List.setIfInBounds_toArray, List.set_cons_zero, List.set_cons_succ]
  refine wpAnyH_take (i := 17) (oi := ⟨some 20, _, _, _, _, _⟩) (v := ?vo17) rfl (by kernel_rfl) (by kernel_rfl) (by kernel_rfl) (fun _ _ _ h => h) (Or.inl ⟨by rfl, ?yo17⟩) hHeld ?ro17
  case yo17 =>
    intro wx hSx
    have z := cell_at hSx.box 4
    have z' := cell_at hSx.box 5
    simp only [List.getElem?_toArray, List.getElem?_cons_succ, List.getElem?_cons_zero] at z z'
    go_simp
    try with_reducible rfl
  try simp only [Act.put, List.setIfInBounds_toArray, List.set_cons_zero, List.set_cons_succ]
  refine wpAnyH_ready (rs := [3]) (by kernel_rfl) (by simp) ?_
  refine AllReadyH.cons (o := ⟨some 6, _, _, _, _, _⟩) rfl (fun K hK => ?_) AllReadyH.nil
  go_simp
  refine (HC1.out _).mono ?_
  rintro e wn3 ⟨rfl, hbn⟩
  replace hres := (hbn.block B2 (smem_lt hres)).trans hres
  refine hK.out _ _ (hHeld.on hbn) (fun hHeld => ?_)
  clear hK K hbn
  try simp only [Act.put, List.setIfInBounds_toArray, List.set_cons_zero, List.set_cons_succ]
  refine wpAnyH_ready (rs := [7]) (by kernel_rfl) (by simp) ?_
  refine AllReadyH.cons (o := ⟨some 10, _, _, _, _, _⟩) rfl (fun K hK => ?_) AllReadyH.nil
  go_simp
  refine (HC2.out _).mono ?_
  rintro e wn7 ⟨rfl, hbn⟩
  replace hres := (hbn.block B2 (smem_lt hres)).trans hres
  refine hK.out _ _ (hHeld.on hbn) (fun hHeld => ?_)
  clear hK K hbn
  try simp only [Act.put, List.setIfInBounds_toArray, List.set_cons_zero, List.set_cons_succ]
  refine wpAnyH_ready (rs := [11]) (by kernel_rfl) (by simp) ?_
  refine AllReadyH.cons (o := ⟨some 14, _, _, _, _, _⟩) rfl (fun K hK => ?_) AllReadyH.nil
  go_simp
  refine (HC3.out _).mono ?_
  rintro e wn11 ⟨rfl, hbn⟩
  replace hres := (hbn.block B2 (smem_lt hres)).trans hres
  refine hK.out _ _ (hHeld.on hbn) (fun hHeld => ?_)
  clear hK K hbn
  try simp only [Act.put, List.setIfInBounds_toArray, List.set_cons_zero, List.set_cons_succ]
  refine wpAnyH_take (i := 15) (oi := ⟨some 18, _, _, _, _, _⟩) (v := ?vo15) rfl (by kernel_rfl) (by kernel_rfl) (by kernel_rfl) (fun _ _ _ h => h) (Or.inl ⟨by rfl, ?yo15⟩) hHeld ?ro15
  case yo15 =>
    intro wx hSx
    go_simp
    try with_reducible rfl
  try simp only [Act.put, List.setIfInBounds_toArray, List.set_cons_zero, List.set_cons_succ]
  refine wpAnyH_ready (rs := [18]) (by kernel_rfl) (by simp) ?_
  refine AllReadyH.cons (o := ⟨some 21, _, _, _, _, _⟩) rfl (fun K hK => ?_) AllReadyH.nil
  go_simp
  refine (HC4.out _).mono ?_
  rintro e wn18 ⟨rfl, hbn⟩
  replace hres := (hbn.block B2 (smem_lt hres)).trans hres
  refine hK.out _ _ (hHeld.on hbn) (fun hHeld => ?_)
  clear hK K hbn
  try simp only [Act.put, List.setIfInBounds_toArray, List.set_cons_zero, List.set_cons_succ]
  refine wpAnyH_take (i := 19) (oi := ⟨some 22, _, _, _, _, _⟩) (v := ?vo19) rfl (by kernel_rfl) (by kernel_rfl) (by kernel_rfl) (fun _ _ _ h => h) (Or.inl ⟨by rfl, ?yo19⟩) hHeld ?ro19
  case yo19 =>
    intro wx hSx
    go_simp
    try with_reducible rfl
  try simp only [Act.put, List.setIfInBounds_toArray, List.set_cons_zero, List.set_cons_succ]
  refine wpAnyH_ready (rs := [20]) (by kernel_rfl) (by simp) ?_
  refine AllReadyH.cons (o := ⟨none, _, _, _, _, _⟩) rfl (fun K hK => ?_) AllReadyH.nil
  have r0 : wn18.cell? ⟨B2, 0, none⟩ = some (.string ⟨#[]⟩) := cell_at hres 0
  have r1 : wn18.cell? ⟨B2, 1, none⟩ = some (.string ⟨#[]⟩) := cell_at hres 1
  have r2 : wn18.cell? ⟨B2, 2, none⟩ = some (.string ⟨#[]⟩) := cell_at hres 2
  have r3 : wn18.cell? ⟨B2, 3, none⟩ = some (.bool false) := cell_at hres 3
  have r4 : wn18.cell? ⟨B2, 4, none⟩ = some (.int .i64 0) := cell_at hres 4
  have r5 : wn18.cell? ⟨B2, 5, none⟩ = some (.string ⟨#[]⟩) := cell_at hres 5
  have z0 : wn18.frozen? ⟨B2, 0, none⟩ = false := free_at hres 0
  have z1 : wn18.frozen? ⟨B2, 1, none⟩ = false := free_at hres 1
  have z2 : wn18.frozen? ⟨B2, 2, none⟩ = false := free_at hres 2
  have z3 : wn18.frozen? ⟨B2, 3, none⟩ = false := free_at hres 3
  have z4 : wn18.frozen? ⟨B2, 4, none⟩ = false := free_at hres 4
  have z5 : wn18.frozen? ⟨B2, 5, none⟩ = false := free_at hres 5
  have HAN := stored hres [.string m.k.room, .string m.k.user, .string m.k.thread, .bool m.k.priv, .int .i64 m.po.depth, .string m.po.id] rfl _ rfl
  simp only [World.setCells] at HAN
  go_simp
  generalize World.setCell _ _ _ = w9 at HAN ⊢
  refine hK.out _ _ (hHeld.put HAN.2 hne hlo2) (fun hHeld => ?_)
  clear hK K r0 z0 r1 z1 r2 z2 r3 z3 r4 z4 r5 z5
  have k0 := cell_at HAN.1 0
  have k1 := cell_at HAN.1 1
  have k2 := cell_at HAN.1 2
  have k3 := cell_at HAN.1 3
  have k4 := cell_at HAN.1 4
  have k5 := cell_at HAN.1 5
  simp only [List.getElem?_toArray, List.getElem?_cons_succ, List.getElem?_cons_zero] at k0 k1 k2 k3 k4 k5
  refine wpAnyH_done (by kernel_rfl) ?_ _
  go_wp2_with fail
  refine bodyPost_ret (v := .agg #[.string m.k.room, .string m.k.user, .string m.k.thread, .bool m.k.priv, .int .i64 m.po.depth, .string m.po.id]) ?_ rfl ⟨rfl, hHeld.below⟩
  simp [results, Try.results29, go_sem, k0, k1, k2, k3, k4, k5]

theorem rank_any (p : Bool) (w : World) : Calls Try.prog 44 #[.bool p] w fun e w' => e = .returned (.int .i64 (rankI p)) ∧ w' = w := by
  cases p
  · go_enter Try.func44, Try.ntmps44
    go_wp2_with fail
    go_ret
    exact ⟨rfl, rfl⟩
  · go_enter Try.func44, Try.ntmps44
    go_wp2_with fail
    go_ret
    exact ⟨rfl, rfl⟩
/-- The first that is not 0. -/
def orL : List Int → Int
  | [] => 0
  | x :: xs => if x = 0 then orL xs else x
theorem orL_hit {x : Int} : ∀ {xs : List Int} {k : Nat}, (∀ (j : Nat) y, j < k → xs[j]? = some y → y = 0) → xs[k]? = some x → x ≠ 0 → orL xs = x
  | [], k, _, h, _ => by simp at h
  | y :: r, 0, _, h, hx => by
    simp only [List.getElem?_cons_zero, Option.some.injEq] at h
    subst h
    exact if_neg hx
  | y :: r, k + 1, h0, h, hx => by
    rw [List.getElem?_cons_succ] at h
    unfold orL
    rw [if_pos (h0 0 y (by omega) rfl)]
    exact orL_hit (fun j z hj hz => h0 (j + 1) z (by omega) hz) h hx
theorem orL_miss : ∀ {xs : List Int}, (∀ (j : Nat) y, xs[j]? = some y → y = 0) → orL xs = 0
  | [], _ => rfl
  | y :: r, h => by
    unfold orL
    rw [if_pos (h 0 y rfl)]
    exact orL_miss (fun j z hz => h (j + 1) z hz)
theorem int_at {w : World} {A : Option Addr} {n cap i : Nat} {xs : List Int} {x : Int} (h : LI2.Slice w (.slice A n cap) xs) (hi : xs[i]? = some x) : ∃ b off, A = some ⟨b, off, none⟩ ∧ b < w.heap.size ∧ w.cell? ⟨b, off + i, none⟩ = some (.int .i64 x) := by
  obtain ⟨b, off, hA, hb, hr⟩ := h.at hi
  refine ⟨b, off, hA, hb, ?_⟩
  have := hr 0 (.int .i64 x) rfl
  rw [show LI2.c = 1 from rfl, Nat.mul_one, Nat.add_zero] at this
  exact this

set_option maxHeartbeats 800000 in
theorem orL_any (xs : List Int) (v : Value) (w : World) (h : LI2.Slice w v xs) :
    Calls Try.prog 41 #[v] w fun e w' => e = .returned (.int .i64 (orL xs)) ∧ w' = w := by
  obtain ⟨A, cap, rfl, h1, h2, -⟩ := id h
  unfold maxLen at h2
  have HR := Lib.hid h
  clear h
  go_enter Try.func41, Try.ntmps41
  go_wp2_with fail
  go_loopw [8] (fun i wr => wr = w ∧ ∃ a : Nat, i = .int .i64 (a : Int) ∧ a ≤ xs.length ∧ Hid (∀ (j : Nat) y, j < a → xs[j]? = some y → y = 0)) (fun i _ => xs.length - (intOf i).toNat)
  case atStart => exact ⟨rfl, 0, rfl, Nat.zero_le _, Lib.hid (fun j y hj => by omega)⟩
  case round =>
    obtain ⟨rfl, a, rfl, ha, HN⟩ := hrel
    by_cases hax : a < xs.length
    · have q1 : decide ((a : Int) < (xs.length : Int)) = true := decide_eq_true (by omega)
      have hx : xs[a]? = some xs[a] := List.getElem?_eq_getElem hax
      generalize xs[a] = x at hx
      have HX := Lib.hid hx
      obtain ⟨bo, oo, rfl, hbo, hco⟩ := int_at HR.out hx
      have hiy := index_any (P := Try.prog) knI2 (by decide) (b := bo) (off := oo) (cap := cap) hax
      simp only [LI2] at hiy
      rw [Nat.mul_one] at hiy
      clear hx
      by_cases h0 : x = 0
      · have HN2 : Hid (∀ (j : Nat) y, j < a + 1 → xs[j]? = some y → y = 0) := Lib.hid (fun j y hj hy => by
          by_cases hja : j = a
          · subst hja
            rw [HX.out] at hy
            injection hy with hy
            rw [← hy]; exact h0
          · exact HN.out j y (by omega) hy)
        clear HX
        subst h0
        go_wp2_with fail
        refine ⟨⟨trivial, a + 1, by go_num, by omega, HN2⟩, ?_⟩
        simp [intOf]; omega
      · have q : (x == 0) = false := by rw [beq_eq_false_iff_ne]; exact h0
        have HF : Hid (orL xs = x) := Lib.hid (orL_hit HN.out HX.out h0)
        clear h0
        go_wp2_with fail
        go_ret
        exact ⟨by rw [HF.out]; rfl, rfl⟩
    · have q1 : decide ((a : Int) < (xs.length : Int)) = false := decide_eq_false (by omega)
      have HF : Hid (orL xs = 0) := Lib.hid (orL_miss (fun j y hy => HN.out j y (by have := (List.getElem?_eq_some_iff.1 hy).1; omega) hy))
      go_wp2_with fail
      go_ret
      exact ⟨by rw [HF.out]; rfl, rfl⟩
theorem cmpK_orL (a b : Rk) : orL [Lib.compareBytes a.room.data.toList b.room.data.toList, Lib.compareBytes a.user.data.toList b.user.data.toList, Lib.compareBytes a.thread.data.toList b.thread.data.toList, Lib.compareInt (rankI a.priv) (rankI b.priv)] = cmpK a b := by
  rw [← cmpK_code]
  unfold orI
  simp only [orL]
  repeat' split
  all_goals simp_all
end Go.Proofs.Ytmialpaldkpmbaa
