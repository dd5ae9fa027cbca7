/-
  A dag of the code is like a dag of the document.
-/
import Derived.Test.YtflgpdkdflhhgaaGreatDagBuild
import Derived.Test.YtflgpdkdflhhgaaGreatDagLives
import Derived.BigQuiet
namespace Go.Proofs.YtflgpdkdflhhgaaGreat
set_option maxRecDepth 20000
open Go.RowKit
set_option linter.unusedVariables false
set_option linter.unusedSimpArgs false

/-- Two lists that make the same dag. -/
structure Alike (l m : List Ev) : Prop where
  len : l.length = m.length
  all : allL l = allL m
  heads : headsL l = headsL m
  pos : ∀ k, posL l k = posL m k
  mem : ∀ e, e ∈ l ↔ e ∈ m
theorem Alike.refl (l : List Ev) : Alike l l := ⟨rfl, rfl, rfl, fun _ => rfl, fun _ => Iff.rfl⟩
/-- From w on only the dag's own blocks have turned, and it says what it said. -/
structure LkS (C : Dags) (w wr : World) (g : Nat) (room : ByteArray) (l : List Ev) : Prop where
  code : C.CD wr g room l
  trn : TurnD C.own w wr g
theorem TurnD.refl {own : World → Nat → Nat → Prop} {w : World} {g : Nat} : TurnD own w w g := ⟨rfl, rfl, rfl, Nat.le_refl _, fun _ _ _ => rfl, fun _ h => .inl h⟩
section
variable {C : Dags} {w wr w2 : World} {g : Nat} {room : ByteArray} {l : List Ev} {v : Value} {xs : List EvV}
theorem LkS.turn (h : LkS C w wr g room l) (hc : C.CD w2 g room l) (ht : TurnD C.own wr w2 g) : LkS C w w2 g room l := ⟨hc, h.trn.trans ht⟩
theorem LkS.later (h : LkS C w wr g room l) (hb : Below wr.heap.size wr w2) : LkS C w w2 g room l := by
  obtain ⟨hc, ho⟩ := C.keep h.code hb.size (fun k hk => hb.block k (C.old h.code hk))
  exact h.turn hc ⟨hb.os, hb.tape, hb.output, hb.size, fun k hk _ => hb.block k hk, fun k hk => .inl (ho k hk)⟩
theorem LkS.block (h : LkS C w wr g room l) {k : Nat} (hk : k < w.heap.size) (ho : ¬ C.own w g k) : wr.heap[k]? = w.heap[k]? := h.trn.block k hk ho
theorem LkS.evs (h : LkS C w wr g room l) (he : EvsS w v xs) (ha : ∀ k, footE v xs k → ¬ C.own w g k) : EvsS wr v xs := (Dags.stays he ha h.trn).1
end

set_option maxHeartbeats 3200000 in
theorem like_any (C : Dags) (CA : DagAlls C) (CR : DagRms C) (CL : DagLns C) (CH : DagHds C) (room : ByteArray) (w : World) (g : Nat) (l : List Ev) (v : Value) (xs : List EvV) (hc : C.CD w g room l) (hx : EvsS w v xs) (ha : ∀ k, footE v xs k → ¬ C.own w g k) (hv : Valid room (evs xs)) (hl : xs.length ≤ 100) (hal : Alike l (evs xs)) :
    Calls Tryz.prog 8 #[.pointer (some ⟨g, 0, none⟩), .agg #[.string room, v]] w fun e w' => e = .returned (.bool true) ∧ C.CD w' g room l ∧ TurnD C.own w w' g := by
  have hll : l.length ≤ 100 := by rw [hal.len, List.length_map]; exact hl
  obtain ⟨A0, c0, rfl, -⟩ := id hx.1
  have HL0 := Lib.hid (show LkS C w w g room l from ⟨hc, TurnD.refl⟩)
  have HB3 := Lib.hid (heap_alloc_new w (.cells #[.string room, .slice A0 xs.length c0] 26))
  have HN3 := Lib.hid (below_new w (.cells #[.string room, .slice A0 xs.length c0] 26))
  have HNO : Hid (∀ k, C.own (w.alloc (.cells #[.string room, .slice A0 xs.length c0] 26)) g k → C.own w g k) := Lib.hid (C.keep hc HN3.out.size (fun k hk => HN3.out.block k (C.old hc hk))).2
  have HOL := Lib.hid (fun k (hk : C.own w g k) => C.old hc hk)
  have HLL := Lib.hid hll
  have HVL := Lib.hid hv
  have HAL := Lib.hid hal
  have HX0 := Lib.hid hx
  have HAP := Lib.hid ha
  clear hc hx ha hv hal hll
  go_enter Tryz.func8, Tryz.ntmps8
  go_upto_region 1 with (fail)
  generalize w.alloc _ = w1 at HB3 HN3 HNO ⊢
  have HL1 := Lib.hid (HL0.out.later HN3.out)
  have HE1 := Lib.hid (HX0.out.below HN3.out)
  have HA1 : Hid (∀ k, footE (.slice A0 xs.length c0) xs k → ¬ C.own w1 g k) := Lib.hid (fun k hk ho => HAP.out k hk (HNO.out k ho))
  have H3O : Hid (¬ C.own w1 g w.heap.size) := Lib.hid (fun ho => by have := HOL.out _ (HNO.out _ ho); omega)
  generalize w.heap.size = B3 at HB3 H3O ⊢
  have HAC := Lib.hid (CA.all HL1.out.code HLL.out)
  go_wp2_with fail
  go_at_call 19
  refine HAC.out.mono ?_
  rintro e w2 ⟨va, rfl, ys, hma, hta, hys, heq, hc2, ht2⟩
  have HL2 := Lib.hid (show LkS C w1 w2 g room l from ⟨hc2, ht2⟩)
  have HEY : Hid (EvsS w2 va ys) := Lib.hid ⟨hma.slice, fun y hy => (hys y hy).1⟩
  have HAY : Hid (∀ k, footE va ys k → ¬ C.own w2 g k) := Lib.hid (fun k hk => by
    rcases hk with hk | ⟨y, hy, hk⟩
    · exact hta k hk.2
    · exact (hys y hy).2.2 k hk.2)
  have HEQ := Lib.hid heq
  have HYL : Hid (ys.length ≤ 1000) := Lib.hid (by
    have h9 := congrArg List.length heq
    rw [evs_len, allL_len] at h9
    have h8 := HLL.out
    omega)
  clear hma hta hys heq hc2 ht2 HAC
  obtain ⟨A5, c5, rfl, -⟩ := id HEY.out.1
  go_upto_region 2 with (fail)
  have H3 : Hid (∀ W, LkS C w1 W g room l → W.heap[B3]? = some (.cells #[.string room, .slice A0 xs.length c0] 26 (0, 0))) := Lib.hid (fun W h => (h.block (smem_lt HB3.out) H3O.out).trans HB3.out)
  have HLA := Lib.hid (show LkS C w2 w2 g room l from ⟨HL2.out.code, TurnD.refl⟩)
  refine wp_region_held_drew (S := fun w' => LkS C w1 w' g room l ∧ LkS C w2 w' g room l) (by kernel_rfl) ⟨HL2.out.later ⟨rfl, rfl, rfl, Nat.le_refl _, fun _ _ => rfl⟩, HLA.out.later ⟨rfl, rfl, rfl, Nat.le_refl _, fun _ _ => rfl⟩⟩ (fun hHeld => ?_)
  clear HL2 HLA
  generalize w2.drew = wd at hHeld ⊢
  refine wpAnyH_take (i := 0) (oi := ⟨some 13, _, _, _, _, _⟩) (v := ?vl0) rfl (by kernel_rfl) (by kernel_rfl) (by kernel_rfl) (fun _ _ _ h => h) (Or.inl ⟨by rfl, ?yl0⟩) hHeld ?rl0
  case yl0 =>
    intro wx hSx
    go_simp
    try with_reducible rfl
  try simp only [Act.put, List.setIfInBounds_toArray, List.set_cons_zero, List.set_cons_succ]
  refine wpAnyH_take (i := 2) (oi := ⟨some 15, _, _, _, _, _⟩) (v := ?vl2) rfl (by kernel_rfl) (by kernel_rfl) (by kernel_rfl) (fun _ _ _ h => h) (Or.inl ⟨by rfl, ?yl2⟩) hHeld ?rl2
  case yl2 =>
    intro wx hSx
    go_simp
    try with_reducible rfl
  try simp only [Act.put, List.setIfInBounds_toArray, List.set_cons_zero, List.set_cons_succ]
  refine wpAnyH_take (i := 3) (oi := ⟨some 16, _, _, _, _, _⟩) (v := ?vl3) rfl (by kernel_rfl) (by kernel_rfl) (by kernel_rfl) (fun _ _ _ h => h) (Or.inl ⟨by rfl, ?yl3⟩) hHeld ?rl3
  case yl3 =>
    intro wx hSx
    have p0 := cell_at (H3.out _ hSx.1) 0
    simp only [List.getElem?_toArray, List.getElem?_cons_succ, List.getElem?_cons_zero] at p0
    go_simp
    try with_reducible rfl
  try simp only [Act.put, List.setIfInBounds_toArray, List.set_cons_zero, List.set_cons_succ]
  refine wpAnyH_ready (rs := [1]) (by kernel_rfl) (by simp) ?_
  refine AllReadyH.cons (o := ⟨some 14, _, _, _, _, _⟩) rfl (fun K hK => ?_) AllReadyH.nil
  go_simp
  refine (CR.room hHeld.1.code HLL.out).mono ?_
  rintro e wn ⟨rfl, hcn, htn⟩
  refine hK.out _ _ ⟨hHeld.1.turn hcn htn, hHeld.2.turn hcn htn⟩ (fun hHeld => ?_)
  clear hK K
  try simp only [Act.put, List.setIfInBounds_toArray, List.set_cons_zero, List.set_cons_succ]
  refine wpAnyH_take (i := 4) (oi := ⟨some 17, _, _, _, _, _⟩) (v := ?vl4) rfl (by kernel_rfl) (by kernel_rfl) (by kernel_rfl) (fun _ _ _ h => h) (Or.inl ⟨by rfl, ?yl4⟩) hHeld ?rl4
  case yl4 =>
    intro wx hSx
    go_simp
    try with_reducible rfl
  try simp only [Act.put, List.setIfInBounds_toArray, List.set_cons_zero, List.set_cons_succ]
  refine wpAnyH_take (i := 5) (oi := ⟨some 18, _, _, _, _, _⟩) (v := ?vl5) rfl (by kernel_rfl) (by kernel_rfl) (by kernel_rfl) (fun _ _ _ h => h) (Or.inl ⟨by rfl, ?yl5⟩) hHeld ?rl5
  case yl5 =>
    intro wx hSx
    go_simp
    try with_reducible rfl
  try simp only [Act.put, List.setIfInBounds_toArray, List.set_cons_zero, List.set_cons_succ]
  refine wpAnyH_take (i := 6) (oi := ⟨some 19, _, _, _, _, _⟩) (v := ?vl6) rfl (by kernel_rfl) (by kernel_rfl) (by kernel_rfl) (fun _ _ _ h => h) (Or.inl ⟨by rfl, ?yl6⟩) hHeld ?rl6
  case yl6 =>
    intro wx hSx
    go_simp
    try with_reducible rfl
  try simp only [Act.put, List.setIfInBounds_toArray, List.set_cons_zero, List.set_cons_succ]
  refine wpAnyH_take (i := 8) (oi := ⟨some 21, _, _, _, _, _⟩) (v := ?vl8) rfl (by kernel_rfl) (by kernel_rfl) (by kernel_rfl) (fun _ _ _ h => h) (Or.inl ⟨by rfl, ?yl8⟩) hHeld ?rl8
  case yl8 =>
    intro wx hSx
    go_simp
    try with_reducible rfl
  try simp only [Act.put, List.setIfInBounds_toArray, List.set_cons_zero, List.set_cons_succ]
  refine wpAnyH_take (i := 9) (oi := ⟨some 22, _, _, _, _, _⟩) (v := ?vl9) rfl (by kernel_rfl) (by kernel_rfl) (by kernel_rfl) (fun _ _ _ h => h) (Or.inl ⟨by rfl, ?yl9⟩) hHeld ?rl9
  case yl9 =>
    intro wx hSx
    have p1 := cell_at (H3.out _ hSx.1) 1
    simp only [List.getElem?_toArray, List.getElem?_cons_succ, List.getElem?_cons_zero] at p1
    go_simp
    try with_reducible rfl
  try simp only [Act.put, List.setIfInBounds_toArray, List.set_cons_zero, List.set_cons_succ]
  refine wpAnyH_take (i := 10) (oi := ⟨some 23, _, _, _, _, _⟩) (v := ?vl10) rfl (by kernel_rfl) (by kernel_rfl) (by kernel_rfl) (fun _ _ _ h => h) (Or.inl ⟨by rfl, ?yl10⟩) hHeld ?rl10
  case yl10 =>
    intro wx hSx
    go_simp
    try with_reducible rfl
  try simp only [Act.put, List.setIfInBounds_toArray, List.set_cons_zero, List.set_cons_succ]
  refine wpAnyH_ready (rs := [7]) (by kernel_rfl) (by simp) ?_
  refine AllReadyH.cons (o := ⟨some 20, _, _, _, _, _⟩) rfl (fun K hK => ?_) AllReadyH.nil
  go_simp
  refine (CL.len hHeld.1.code HLL.out).mono ?_
  rintro e wn ⟨rfl, hcn, htn⟩
  rw [HAL.out.len, List.length_map]
  refine hK.out _ _ ⟨hHeld.1.turn hcn htn, hHeld.2.turn hcn htn⟩ (fun hHeld => ?_)
  clear hK K
  try simp only [Act.put, List.setIfInBounds_toArray, List.set_cons_zero, List.set_cons_succ]
  refine wpAnyH_take (i := 11) (oi := ⟨some 24, _, _, _, _, _⟩) (v := ?vl11) rfl (by kernel_rfl) (by kernel_rfl) (by kernel_rfl) (fun _ _ _ h => h) (Or.inl ⟨by rfl, ?yl11⟩) hHeld ?rl11
  case yl11 =>
    intro wx hSx
    go_simp
    try with_reducible rfl
  try simp only [Act.put, List.setIfInBounds_toArray, List.set_cons_zero, List.set_cons_succ]
  refine wpAnyH_take (i := 12) (oi := ⟨some 25, _, _, _, _, _⟩) (v := ?vl12) rfl (by kernel_rfl) (by kernel_rfl) (by kernel_rfl) (fun _ _ _ h => h) (Or.inl ⟨by rfl, ?yl12⟩) hHeld ?rl12
  case yl12 =>
    intro wx hSx
    go_simp
    try with_reducible rfl
  try simp only [Act.put, List.setIfInBounds_toArray, List.set_cons_zero, List.set_cons_succ]
  refine wpAnyH_take (i := 13) (oi := ⟨some 26, _, _, _, _, _⟩) (v := ?vl13) rfl (by kernel_rfl) (by kernel_rfl) (by kernel_rfl) (fun _ _ _ h => h) (Or.inl ⟨by rfl, ?yl13⟩) hHeld ?rl13
  case yl13 =>
    intro wx hSx
    go_simp
    try with_reducible rfl
  try simp only [Act.put, List.setIfInBounds_toArray, List.set_cons_zero, List.set_cons_succ]
  refine wpAnyH_take (i := 14) (oi := ⟨some 27, _, _, _, _, _⟩) (v := ?vl14) rfl (by kernel_rfl) (by kernel_rfl) (by kernel_rfl) (fun _ _ _ h => h) (Or.inl ⟨by rfl, ?yl14⟩) hHeld ?rl14
  case yl14 =>
    intro wx hSx
    go_simp
    try with_reducible rfl
  try simp only [Act.put, List.setIfInBounds_toArray, List.set_cons_zero, List.set_cons_succ]
  refine wpAnyH_take (i := 15) (oi := ⟨some 28, _, _, _, _, _⟩) (v := ?vl15) rfl (by kernel_rfl) (by kernel_rfl) (by kernel_rfl) (fun _ _ _ h => h) (Or.inl ⟨by rfl, ?yl15⟩) hHeld ?rl15
  case yl15 =>
    intro wx hSx
    have p0 := cell_at (H3.out _ hSx.1) 0
    have p1 := cell_at (H3.out _ hSx.1) 1
    simp only [List.getElem?_toArray, List.getElem?_cons_succ, List.getElem?_cons_zero] at p0 p1
    go_simp
    try with_reducible rfl
  try simp only [Act.put, List.setIfInBounds_toArray, List.set_cons_zero, List.set_cons_succ]
  refine wpAnyH_ready (rs := [16]) (by kernel_rfl) (by simp) ?_
  refine AllReadyH.cons (o := ⟨some 29, _, _, _, _, _⟩) rfl (fun K hK => ?_) AllReadyH.nil
  go_simp
  refine (refAll_any room _ xs _ (hHeld.1.evs HE1.out HA1.out) HVL.out (by omega)).mono ?_
  rintro e wn ⟨vr, zs, rfl, hmz, hez, hzx, hbn⟩
  refine hK.out _ _ ⟨hHeld.1.later hbn, hHeld.2.later hbn⟩ (fun hHeld => ?_)
  clear hK K
  try simp only [Act.put, List.setIfInBounds_toArray, List.set_cons_zero, List.set_cons_succ]
  refine wpAnyH_ready (rs := [17]) (by kernel_rfl) (by simp) ?_
  refine AllReadyH.cons (o := ⟨some 30, _, _, _, _, _⟩) rfl (fun K hK => ?_) AllReadyH.nil
  go_simp
  have hzs : EvsS wn vr zs := ⟨hmz.slice, fun y hy => (hHeld.1.evs HE1.out HA1.out).2 y (hzx y hy)⟩
  have hyz : evs ys = evs zs := by rw [HEQ.out, hez, HAL.out.all]
  refine (refSameAll_any _ _ ys zs _ (hHeld.2.evs HEY.out HAY.out) hzs HYL.out (by rw [← evs_len zs, ← hyz, evs_len]; exact HYL.out)).mono ?_
  rintro e wm ⟨rfl, hgn⟩
  rw [decide_eq_true hyz]
  have hbn := Gr.below hgn
  refine hK.out _ _ ⟨hHeld.1.later hbn, hHeld.2.later hbn⟩ (fun hHeld => ?_)
  clear hK K hmz hez hzx hzs hyz hgn hbn
  try simp only [Act.put, List.setIfInBounds_toArray, List.set_cons_zero, List.set_cons_succ]
  refine wpAnyH_take (i := 18) (oi := ⟨some 31, _, _, _, _, _⟩) (v := ?vl18) rfl (by kernel_rfl) (by kernel_rfl) (by kernel_rfl) (fun _ _ _ h => h) (Or.inl ⟨by rfl, ?yl18⟩) hHeld ?rl18
  case yl18 =>
    intro wx hSx
    go_simp
    try with_reducible rfl
  try simp only [Act.put, List.setIfInBounds_toArray, List.set_cons_zero, List.set_cons_succ]
  refine wpAnyH_take (i := 19) (oi := ⟨some 32, _, _, _, _, _⟩) (v := ?vl19) rfl (by kernel_rfl) (by kernel_rfl) (by kernel_rfl) (fun _ _ _ h => h) (Or.inl ⟨by rfl, ?yl19⟩) hHeld ?rl19
  case yl19 =>
    intro wx hSx
    go_simp
    try with_reducible rfl
  try simp only [Act.put, List.setIfInBounds_toArray, List.set_cons_zero, List.set_cons_succ]
  refine wpAnyH_take (i := 20) (oi := ⟨some 33, _, _, _, _, _⟩) (v := ?vl20) rfl (by kernel_rfl) (by kernel_rfl) (by kernel_rfl) (fun _ _ _ h => h) (Or.inl ⟨by rfl, ?yl20⟩) hHeld ?rl20
  case yl20 =>
    intro wx hSx
    go_simp
    try with_reducible rfl
  try simp only [Act.put, List.setIfInBounds_toArray, List.set_cons_zero, List.set_cons_succ]
  refine wpAnyH_take (i := 21) (oi := ⟨some 34, _, _, _, _, _⟩) (v := ?vl21) rfl (by kernel_rfl) (by kernel_rfl) (by kernel_rfl) (fun _ _ _ h => h) (Or.inl ⟨by rfl, ?yl21⟩) hHeld ?rl21
  case yl21 =>
    intro wx hSx
    go_simp
    try with_reducible rfl
  try simp only [Act.put, List.setIfInBounds_toArray, List.set_cons_zero, List.set_cons_succ]
  refine wpAnyH_take (i := 23) (oi := ⟨some 36, _, _, _, _, _⟩) (v := ?vl23) rfl (by kernel_rfl) (by kernel_rfl) (by kernel_rfl) (fun _ _ _ h => h) (Or.inl ⟨by rfl, ?yl23⟩) hHeld ?rl23
  case yl23 =>
    intro wx hSx
    have p0 := cell_at (H3.out _ hSx.1) 0
    have p1 := cell_at (H3.out _ hSx.1) 1
    simp only [List.getElem?_toArray, List.getElem?_cons_succ, List.getElem?_cons_zero] at p0 p1
    go_simp
    try with_reducible rfl
  try simp only [Act.put, List.setIfInBounds_toArray, List.set_cons_zero, List.set_cons_succ]
  refine wpAnyH_ready (rs := [22]) (by kernel_rfl) (by simp) ?_
  refine AllReadyH.cons (o := ⟨some 35, _, _, _, _, _⟩) rfl (fun K hK => ?_) AllReadyH.nil
  go_simp
  refine (CH.heads hHeld.1.code HLL.out).mono ?_
  rintro e wh ⟨vh, rfl, hmh, -, hcn, htn⟩
  refine hK.out _ _ ⟨hHeld.1.turn hcn htn, hHeld.2.turn hcn htn⟩ (fun hHeld => ?_)
  clear hK K
  try simp only [Act.put, List.setIfInBounds_toArray, List.set_cons_zero, List.set_cons_succ]
  refine wpAnyH_ready (rs := [24]) (by kernel_rfl) (by simp) ?_
  refine AllReadyH.cons (o := ⟨some 37, _, _, _, _, _⟩) rfl (fun K hK => ?_) AllReadyH.nil
  go_simp
  refine (refHeads_any room _ xs _ (hHeld.1.evs HE1.out HA1.out) HVL.out (by omega)).mono ?_
  rintro e wi ⟨vi, rfl, hmi, hbn⟩
  refine hK.out _ _ ⟨hHeld.1.later hbn, hHeld.2.later hbn⟩ (fun hHeld => ?_)
  clear hK K
  try simp only [Act.put, List.setIfInBounds_toArray, List.set_cons_zero, List.set_cons_succ]
  refine wpAnyH_ready (rs := [25]) (by kernel_rfl) (by simp) ?_
  refine AllReadyH.cons (o := ⟨some 38, _, _, _, _, _⟩) rfl (fun K hK => ?_) AllReadyH.nil
  go_simp
  refine (sameTexts_any _ _ _ _ _ (hmh.slice.below hbn) hmi.slice).mono ?_
  rintro e wj ⟨rfl, dj, rfl⟩
  rw [decide_eq_true HAL.out.heads]
  replace hbn : Below wi.heap.size wi (wi.drewN dj) := ⟨rfl, rfl, rfl, Nat.le_refl _, fun _ _ => rfl⟩
  refine hK.out _ _ ⟨hHeld.1.later hbn, hHeld.2.later hbn⟩ (fun hHeld => ?_)
  clear hK K hmh hmi hbn
  try simp only [Act.put, List.setIfInBounds_toArray, List.set_cons_zero, List.set_cons_succ]
  refine wpAnyH_take (i := 26) (oi := ⟨some 39, _, _, _, _, _⟩) (v := ?vl26) rfl (by kernel_rfl) (by kernel_rfl) (by kernel_rfl) (fun _ _ _ h => h) (Or.inl ⟨by rfl, ?yl26⟩) hHeld ?rl26
  case yl26 =>
    intro wx hSx
    go_simp
    try with_reducible rfl
  try simp only [Act.put, List.setIfInBounds_toArray, List.set_cons_zero, List.set_cons_succ]
  refine wpAnyH_take (i := 27) (oi := ⟨some 40, _, _, _, _, _⟩) (v := ?vl27) rfl (by kernel_rfl) (by kernel_rfl) (by kernel_rfl) (fun _ _ _ h => h) (Or.inl ⟨by rfl, ?yl27⟩) hHeld ?rl27
  case yl27 =>
    intro wx hSx
    go_simp
    try with_reducible rfl
  try simp only [Act.put, List.setIfInBounds_toArray, List.set_cons_zero, List.set_cons_succ]
  refine wpAnyH_done (by kernel_rfl) ?_ _
  go_wp2_with fail
  have HLN := Lib.hid hHeld.1
  clear hHeld
  generalize wi.drewN dj = w3 at HLN ⊢
  clear HEY HAY HEQ HYL
  go_loopw [6] (fun i wr => ∃ a : Nat, i = .int .i64 (a : Int) ∧ a ≤ xs.length ∧ Hid (LkS C w1 wr g room l)) (fun i _ => xs.length - (intOf i).toNat)
  case atStart => exact ⟨0, rfl, Nat.zero_le _, HLN⟩
  case round =>
    obtain ⟨a, rfl, ha, HR⟩ := hrel
    have d1 : wr.cell? ⟨B3, 1, none⟩ = some (.slice A0 xs.length c0) := cell_at (H3.out _ HR.out) 1
    by_cases hlt : a < xs.length
    · have q1 : decide ((a : Int) < (xs.length : Int)) = true := decide_eq_true (by omega)
      have hz : xs[a]? = some xs[a] := List.getElem?_eq_getElem hlt
      generalize xs[a] = z at hz
      have hze : (evs xs)[a]? = some z.ev := by rw [List.getElem?_map, hz]; rfl
      have HZM := Lib.hid (List.mem_of_getElem? hze)
      have HZA : Hid (∀ W, LkS C w1 W g room l → z.at W) := Lib.hid (fun W h => (h.evs HE1.out HA1.out).2 z (List.mem_of_getElem? hz))
      have hzi := ((HZA.out _ HR.out).2).1
      obtain ⟨bz, oz, hAz, hbz, hrz⟩ := ev_at HE1.out hz
      have HRC : Hid (∀ W, LkS C w1 W g room l → W.rangeAt bz (oz + a * 6) z.cells) := Lib.hid (fun W h j u hu => (World.cell?_of_block (a := ⟨bz, oz + a * 6 + j, none⟩) (h.block hbz (HA1.out bz (.inl ⟨by omega, by rw [hAz]; rfl⟩)))).trans (hrz j u hu))
      have hizz := index_any (P := Tryz.prog) knV (by decide) (b := bz) (off := oz) (cap := c0) hlt
      simp only [LV] at hizz
      have z0 := (ev_cells (HRC.out wr HR.out)).1
      have HHZ : Hid (hasE l z.ev.id = true) := Lib.hid (has_iff.2 ⟨z.ev, (HAL.out.mem _).2 HZM.out, rfl⟩)
      have HPC := Lib.hid (C.position z.ev.id HR.out.code HLL.out hzi)
      clear hz hze hrz
      rw [hAz] at d1 ⊢
      go_wp2_with fail
      go_at_call 26
      refine HPC.out.mono ?_
      rintro e wp ⟨p, rfl, hpp, hcn, htn⟩
      have HPP : Hid (posL (evs xs) z.ev.id = p) := Lib.hid (by rw [hpp HHZ.out, HAL.out.pos])
      rw [HHZ.out]
      unfold Po.val
      have HR2 := Lib.hid (HR.out.turn hcn htn)
      clear hpp hcn htn HPC HR d1 z0
      have HB7 := Lib.hid (heap_alloc_new wp (.cells #[.int .i64 p.depth, .string p.id] 59))
      have HN7 := Lib.hid (below_new wp (.cells #[.int .i64 p.depth, .string p.id] 59))
      go_upto_region 8 with (fail)
      generalize wp.alloc _ = wq at HB7 HN7 ⊢
      have HR3 := Lib.hid (HR2.out.later HN7.out)
      have HQO : Hid (¬ C.own wq g wp.heap.size) := Lib.hid (fun ho => by
        have h9 := C.old HR2.out.code ((C.keep HR2.out.code HN7.out.size (fun k hk => HN7.out.block k (C.old HR2.out.code hk))).2 _ ho)
        omega)
      generalize wp.heap.size = B7 at HB7 HQO ⊢
      clear HN7 HR2
      have d1 : wq.cell? ⟨B3, 1, none⟩ = some (.slice A0 xs.length c0) := cell_at (H3.out _ HR3.out) 1
      have z0 := (ev_cells (HRC.out wq HR3.out)).1
      have HEC := Lib.hid (C.event z.ev.id HR3.out.code HLL.out hzi)
      rw [hAz] at d1
      go_wp2_with fail
      go_at_call 27
      refine HEC.out.mono ?_
      rintro e wu ⟨y, rfl, hya, -, hyt, hyh, hcn, htn⟩
      rw [HHZ.out]
      have HYZ : Hid (y.ev = z.ev) := Lib.hid (by
        obtain ⟨h1, h2⟩ := hyh HHZ.out
        exact valid_ids (C.valid HR3.out.code) h1 ((HAL.out.mem _).2 HZM.out) h2)
      have HR4 := Lib.hid (HR3.out.turn hcn htn)
      have HB8 := Lib.hid ((htn.block B7 (smem_lt HB7.out) HQO.out).trans HB7.out)
      have HYA := Lib.hid hya
      have HYT := Lib.hid hyt
      have H7O : Hid (¬ C.own wu g B7) := Lib.hid (fun ho => by
        rcases htn.owns _ ho with h9 | h9
        · exact HQO.out h9
        · have := smem_lt HB7.out
          omega)
      have HBX := Lib.hid (heap_alloc_new wu (.cells #[.string y.ev.id, .string y.ev.room, .slice y.A y.ev.parents.length y.cap, .string y.ev.thread, .string y.ev.user, .int .i64 y.ev.does] 33))
      have HBN := Lib.hid (below_new wu (.cells #[.string y.ev.id, .string y.ev.room, .slice y.A y.ev.parents.length y.cap, .string y.ev.thread, .string y.ev.user, .int .i64 y.ev.does] 33))
      clear hya hyh hyt hcn htn HEC HR3 HB7 HQO d1 z0
      unfold EvV.val EvV.pv
      go_upto_region 9 with (fail)
      generalize wu.alloc _ = wb at HBX HBN ⊢
      have HRB := Lib.hid (HR4.out.later HBN.out)
      have HYB := Lib.hid (HYA.out.below HBN.out)
      have HB9 := Lib.hid ((HBN.out.block B7 (smem_lt HB8.out)).trans HB8.out)
      have hdr : Below wu.heap.size wu wb.drew := HBN.out.trans ⟨rfl, rfl, rfl, Nat.le_refl _, fun _ _ => rfl⟩
      have HOW : Hid (∀ k, C.own wb.drew g k → C.own wu g k) := Lib.hid (C.keep HR4.out.code hdr.size (fun k hk => hdr.block k (C.old HR4.out.code hk))).2
      have HRD := Lib.hid (HR4.out.later hdr)
      have H18O : Hid (¬ C.own wb.drew g wu.heap.size) := Lib.hid (fun ho => by
        have h9 := C.old HR4.out.code (HOW.out _ ho)
        omega)
      have HYD := Lib.hid (HYA.out.below hdr)
      replace HB9 := Lib.hid (show wb.drew.heap[B7]? = some (.cells #[.int .i64 p.depth, .string p.id] 59 (0, 0)) from HB9.out)
      replace HBX := Lib.hid (show wb.drew.heap[wu.heap.size]? = some (.cells #[.string y.ev.id, .string y.ev.room, .slice y.A y.ev.parents.length y.cap, .string y.ev.thread, .string y.ev.user, .int .i64 y.ev.does] 33 (0, 0)) from HBX.out)
      refine wp_region_held_drew (S := fun w' => LkS C w1 w' g room l ∧ LkS C wb.drew w' g room l) (by kernel_rfl) ⟨HRD.out, HRD.out.code, TurnD.refl⟩ (fun hHeld => ?_)
      generalize wu.heap.size = B18 at HBX H18O ⊢
      generalize wb.drew = wd at *
      have H7 : Hid (∀ W, LkS C wd W g room l → W.heap[B7]? = some (.cells #[.int .i64 p.depth, .string p.id] 59 (0, 0))) := Lib.hid (fun W h => (h.block (smem_lt HB9.out) (fun ho => H7O.out (HOW.out _ ho))).trans HB9.out)
      have H18 : Hid (∀ W, LkS C wd W g room l → W.heap[B18]? = some (.cells #[.string y.ev.id, .string y.ev.room, .slice y.A y.ev.parents.length y.cap, .string y.ev.thread, .string y.ev.user, .int .i64 y.ev.does] 33 (0, 0))) := Lib.hid (fun W h => (h.block (smem_lt HBX.out) H18O.out).trans HBX.out)
      have HYW : Hid (∀ W, LkS C wd W g room l → y.at W) := Lib.hid (fun W h => HYD.out.stay h.trn.size (fun k hk hy => h.block hk (fun ho => HYT.out k hy (HOW.out _ ho))))
      clear HYB HRB
      have HPR := Lib.hid (fun W (h1 : LkS C w1 W g room l) => refPosition_any room z.ev.id _ xs W (h1.evs HE1.out HA1.out) HVL.out (by omega))
      rw [HPP.out, hAz] at HPR
      have HSM := Lib.hid (fun W (h1 : LT.Slice W y.pv y.ev.parents) (h2 : LT.Slice W z.pv z.ev.parents) => refSame_any y z W h1 h2)
      rw [decide_eq_true HYZ.out] at HSM
      unfold EvV.val EvV.pv at HSM
      replace H3 := H3
      rw [hAz] at H3
      refine wpAnyH_take (i := 0) (oi := ⟨some 70, _, _, _, _, _⟩) (v := ?vm0) rfl (by kernel_rfl) (by kernel_rfl) (by kernel_rfl) (fun _ _ _ h => h) (Or.inl ⟨by rfl, ?ym0⟩) hHeld ?rm0
      case ym0 =>
        intro wx hSx
        go_simp
        try with_reducible rfl
      try simp only [Act.put, List.setIfInBounds_toArray, List.set_cons_zero, List.set_cons_succ]
      refine wpAnyH_take (i := 1) (oi := ⟨some 71, _, _, _, _, _⟩) (v := ?vm1) rfl (by kernel_rfl) (by kernel_rfl) (by kernel_rfl) (fun _ _ _ h => h) (Or.inl ⟨by rfl, ?ym1⟩) hHeld ?rm1
      case ym1 =>
        intro wx hSx
        go_simp
        try with_reducible rfl
      try simp only [Act.put, List.setIfInBounds_toArray, List.set_cons_zero, List.set_cons_succ]
      refine wpAnyH_take (i := 2) (oi := ⟨some 72, _, _, _, _, _⟩) (v := ?vm2) rfl (by kernel_rfl) (by kernel_rfl) (by kernel_rfl) (fun _ _ _ h => h) (Or.inl ⟨by rfl, ?ym2⟩) hHeld ?rm2
      case ym2 =>
        intro wx hSx
        go_simp
        try with_reducible rfl
      try simp only [Act.put, List.setIfInBounds_toArray, List.set_cons_zero, List.set_cons_succ]
      refine wpAnyH_take (i := 3) (oi := ⟨some 73, _, _, _, _, _⟩) (v := ?vm3) rfl (by kernel_rfl) (by kernel_rfl) (by kernel_rfl) (fun _ _ _ h => h) (Or.inl ⟨by rfl, ?ym3⟩) hHeld ?rm3
      case ym3 =>
        intro wx hSx
        have s0 := cell_at (H7.out _ hSx.2) 0
        have s1 := cell_at (H7.out _ hSx.2) 1
        simp only [List.getElem?_toArray, List.getElem?_cons_succ, List.getElem?_cons_zero] at s0 s1
        go_simp
        try with_reducible rfl
      try simp only [Act.put, List.setIfInBounds_toArray, List.set_cons_zero, List.set_cons_succ]
      refine wpAnyH_take (i := 4) (oi := ⟨some 74, _, _, _, _, _⟩) (v := ?vm4) rfl (by kernel_rfl) (by kernel_rfl) (by kernel_rfl) (fun _ _ _ h => h) (Or.inl ⟨by rfl, ?ym4⟩) hHeld ?rm4
      case ym4 =>
        intro wx hSx
        have p0 := cell_at (H3.out _ hSx.1) 0
        have p1 := cell_at (H3.out _ hSx.1) 1
        simp only [List.getElem?_toArray, List.getElem?_cons_succ, List.getElem?_cons_zero] at p0 p1
        go_simp
        try with_reducible rfl
      try simp only [Act.put, List.setIfInBounds_toArray, List.set_cons_zero, List.set_cons_succ]
      refine wpAnyH_take (i := 5) (oi := ⟨some 75, _, _, _, _, _⟩) (v := ?vm5) rfl (by kernel_rfl) (by kernel_rfl) (by kernel_rfl) (fun _ _ _ h => h) (Or.inl ⟨by rfl, ?ym5⟩) hHeld ?rm5
      case ym5 =>
        intro wx hSx
        go_simp
        try with_reducible rfl
      try simp only [Act.put, List.setIfInBounds_toArray, List.set_cons_zero, List.set_cons_succ]
      refine wpAnyH_take (i := 6) (oi := ⟨some 76, _, _, _, _, _⟩) (v := ?vm6) rfl (by kernel_rfl) (by kernel_rfl) (by kernel_rfl) (fun _ _ _ h => h) (Or.inl ⟨by rfl, ?ym6⟩) hHeld ?rm6
      case ym6 =>
        intro wx hSx
        have p1 := cell_at (H3.out _ hSx.1) 1
        simp only [List.getElem?_toArray, List.getElem?_cons_succ, List.getElem?_cons_zero] at p1
        go_simp
        try with_reducible rfl
      try simp only [Act.put, List.setIfInBounds_toArray, List.set_cons_zero, List.set_cons_succ]
      refine wpAnyH_take (i := 7) (oi := ⟨some 77, _, _, _, _, _⟩) (v := ?vm7) rfl (by kernel_rfl) (by kernel_rfl) (by kernel_rfl) (fun _ _ _ h => h) (Or.inl ⟨by rfl, ?ym7⟩) hHeld ?rm7
      case ym7 =>
        intro wx hSx
        go_simp
        try with_reducible rfl
      try simp only [Act.put, List.setIfInBounds_toArray, List.set_cons_zero, List.set_cons_succ]
      refine wpAnyH_take (i := 8) (oi := ⟨some 78, _, _, _, _, _⟩) (v := ?vm8) rfl (by kernel_rfl) (by kernel_rfl) (by kernel_rfl) (fun _ _ _ h => h) (Or.inl ⟨by rfl, ?ym8⟩) hHeld ?rm8
      case ym8 =>
        intro wx hSx
        go_simp
        try with_reducible rfl
      try simp only [Act.put, List.setIfInBounds_toArray, List.set_cons_zero, List.set_cons_succ]
      refine wpAnyH_take (i := 9) (oi := ⟨some 79, _, _, _, _, _⟩) (v := ?vm9) rfl (by kernel_rfl) (by kernel_rfl) (by kernel_rfl) (fun _ _ _ h => h) (Or.inl ⟨by rfl, ?ym9⟩) hHeld ?rm9
      case ym9 =>
        intro wx hSx
        go_simp
        try with_reducible rfl
      try simp only [Act.put, List.setIfInBounds_toArray, List.set_cons_zero, List.set_cons_succ]
      refine wpAnyH_take (i := 10) (oi := ⟨some 80, _, _, _, _, _⟩) (v := ?vm10) rfl (by kernel_rfl) (by kernel_rfl) (by kernel_rfl) (fun _ _ _ h => h) (Or.inl ⟨by rfl, ?ym10⟩) hHeld ?rm10
      case ym10 =>
        intro wx hSx
        have zz := ev_cells (HRC.out _ hSx.1)
        obtain ⟨z0, z1, z2, z3, z4, z5⟩ := zz
        unfold EvV.pv at z2
        go_simp
        try with_reducible rfl
      try simp only [Act.put, List.setIfInBounds_toArray, List.set_cons_zero, List.set_cons_succ]
      refine wpAnyH_ready (rs := [11]) (by kernel_rfl) (by simp) ?_
      refine AllReadyH.cons (o := ⟨some 81, _, _, _, _, _⟩) rfl (fun K hK => ?_) AllReadyH.nil
      go_simp
      refine (HPR.out _ hHeld.1).mono ?_
      rintro e wn ⟨rfl, hgn⟩
      have hbn := Gr.below hgn
      refine hK.out _ _ ⟨hHeld.1.later hbn, hHeld.2.later hbn⟩ (fun hHeld => ?_)
      clear hK K hbn hgn
      try simp only [Act.put, List.setIfInBounds_toArray, List.set_cons_zero, List.set_cons_succ]
      refine wpAnyH_take (i := 12) (oi := ⟨some 82, _, _, _, _, _⟩) (v := ?vm12) rfl (by kernel_rfl) (by kernel_rfl) (by kernel_rfl) (fun _ _ _ h => h) (Or.inl ⟨by rfl, ?ym12⟩) hHeld ?rm12
      case ym12 =>
        intro wx hSx
        go_simp
        try with_reducible rfl
      try simp only [Act.put, List.setIfInBounds_toArray, List.set_cons_zero, List.set_cons_succ]
      refine wpAnyH_take (i := 13) (oi := ⟨some 83, _, _, _, _, _⟩) (v := ?vm13) rfl (by kernel_rfl) (by kernel_rfl) (by kernel_rfl) (fun _ _ _ h => h) (Or.inl ⟨by rfl, ?ym13⟩) hHeld ?rm13
      case ym13 =>
        intro wx hSx
        go_simp
        try with_reducible rfl
      try simp only [Act.put, List.setIfInBounds_toArray, List.set_cons_zero, List.set_cons_succ]
      refine wpAnyH_take (i := 14) (oi := ⟨some 84, _, _, _, _, _⟩) (v := ?vm14) rfl (by kernel_rfl) (by kernel_rfl) (by kernel_rfl) (fun _ _ _ h => h) (Or.inl ⟨by rfl, ?ym14⟩) hHeld ?rm14
      case ym14 =>
        intro wx hSx
        go_simp
        try with_reducible rfl
      try simp only [Act.put, List.setIfInBounds_toArray, List.set_cons_zero, List.set_cons_succ]
      refine wpAnyH_take (i := 15) (oi := ⟨some 85, _, _, _, _, _⟩) (v := ?vm15) rfl (by kernel_rfl) (by kernel_rfl) (by kernel_rfl) (fun _ _ _ h => h) (Or.inl ⟨by rfl, ?ym15⟩) hHeld ?rm15
      case ym15 =>
        intro wx hSx
        go_simp
        try with_reducible rfl
      try simp only [Act.put, List.setIfInBounds_toArray, List.set_cons_zero, List.set_cons_succ]
      refine wpAnyH_take (i := 16) (oi := ⟨some 86, _, _, _, _, _⟩) (v := ?vm16) rfl (by kernel_rfl) (by kernel_rfl) (by kernel_rfl) (fun _ _ _ h => h) (Or.inl ⟨by rfl, ?ym16⟩) hHeld ?rm16
      case ym16 =>
        intro wx hSx
        go_simp
        try with_reducible rfl
      try simp only [Act.put, List.setIfInBounds_toArray, List.set_cons_zero, List.set_cons_succ]
      refine wpAnyH_take (i := 17) (oi := ⟨some 87, _, _, _, _, _⟩) (v := ?vm17) rfl (by kernel_rfl) (by kernel_rfl) (by kernel_rfl) (fun _ _ _ h => h) (Or.inl ⟨by rfl, ?ym17⟩) hHeld ?rm17
      case ym17 =>
        intro wx hSx
        go_simp
        try with_reducible rfl
      try simp only [Act.put, List.setIfInBounds_toArray, List.set_cons_zero, List.set_cons_succ]
      refine wpAnyH_take (i := 18) (oi := ⟨some 88, _, _, _, _, _⟩) (v := ?vm18) rfl (by kernel_rfl) (by kernel_rfl) (by kernel_rfl) (fun _ _ _ h => h) (Or.inl ⟨by rfl, ?ym18⟩) hHeld ?rm18
      case ym18 =>
        intro wx hSx
        go_simp
        try with_reducible rfl
      try simp only [Act.put, List.setIfInBounds_toArray, List.set_cons_zero, List.set_cons_succ]
      refine wpAnyH_take (i := 19) (oi := ⟨some 89, _, _, _, _, _⟩) (v := ?vm19) rfl (by kernel_rfl) (by kernel_rfl) (by kernel_rfl) (fun _ _ _ h => h) (Or.inl ⟨by rfl, ?ym19⟩) hHeld ?rm19
      case ym19 =>
        intro wx hSx
        have s0 := cell_at (H18.out _ hSx.2) 0
        have s1 := cell_at (H18.out _ hSx.2) 1
        have s2 := cell_at (H18.out _ hSx.2) 2
        have s3 := cell_at (H18.out _ hSx.2) 3
        have s4 := cell_at (H18.out _ hSx.2) 4
        have s5 := cell_at (H18.out _ hSx.2) 5
        simp only [List.getElem?_toArray, List.getElem?_cons_succ, List.getElem?_cons_zero] at s0 s1 s2 s3 s4 s5
        go_simp
        try with_reducible rfl
      try simp only [Act.put, List.setIfInBounds_toArray, List.set_cons_zero, List.set_cons_succ]
      refine wpAnyH_take (i := 20) (oi := ⟨some 90, _, _, _, _, _⟩) (v := ?vm20) rfl (by kernel_rfl) (by kernel_rfl) (by kernel_rfl) (fun _ _ _ h => h) (Or.inl ⟨by rfl, ?ym20⟩) hHeld ?rm20
      case ym20 =>
        intro wx hSx
        go_simp
        try with_reducible rfl
      try simp only [Act.put, List.setIfInBounds_toArray, List.set_cons_zero, List.set_cons_succ]
      refine wpAnyH_take (i := 21) (oi := ⟨some 91, _, _, _, _, _⟩) (v := ?vm21) rfl (by kernel_rfl) (by kernel_rfl) (by kernel_rfl) (fun _ _ _ h => h) (Or.inl ⟨by rfl, ?ym21⟩) hHeld ?rm21
      case ym21 =>
        intro wx hSx
        have p1 := cell_at (H3.out _ hSx.1) 1
        simp only [List.getElem?_toArray, List.getElem?_cons_succ, List.getElem?_cons_zero] at p1
        go_simp
        try with_reducible rfl
      try simp only [Act.put, List.setIfInBounds_toArray, List.set_cons_zero, List.set_cons_succ]
      refine wpAnyH_take (i := 22) (oi := ⟨some 92, _, _, _, _, _⟩) (v := ?vm22) rfl (by kernel_rfl) (by kernel_rfl) (by kernel_rfl) (fun _ _ _ h => h) (Or.inl ⟨by rfl, ?ym22⟩) hHeld ?rm22
      case ym22 =>
        intro wx hSx
        go_simp
        try with_reducible rfl
      try simp only [Act.put, List.setIfInBounds_toArray, List.set_cons_zero, List.set_cons_succ]
      refine wpAnyH_take (i := 23) (oi := ⟨some 93, _, _, _, _, _⟩) (v := ?vm23) rfl (by kernel_rfl) (by kernel_rfl) (by kernel_rfl) (fun _ _ _ h => h) (Or.inl ⟨by rfl, ?ym23⟩) hHeld ?rm23
      case ym23 =>
        intro wx hSx
        go_simp
        try with_reducible rfl
      try simp only [Act.put, List.setIfInBounds_toArray, List.set_cons_zero, List.set_cons_succ]
      refine wpAnyH_take (i := 24) (oi := ⟨some 94, _, _, _, _, _⟩) (v := ?vm24) rfl (by kernel_rfl) (by kernel_rfl) (by kernel_rfl) (fun _ _ _ h => h) (Or.inl ⟨by rfl, ?ym24⟩) hHeld ?rm24
      case ym24 =>
        intro wx hSx
        have zz := ev_cells (HRC.out _ hSx.1)
        obtain ⟨z0, z1, z2, z3, z4, z5⟩ := zz
        unfold EvV.pv at z2
        go_simp
        try with_reducible rfl
      try simp only [Act.put, List.setIfInBounds_toArray, List.set_cons_zero, List.set_cons_succ]
      refine wpAnyH_ready (rs := [25]) (by kernel_rfl) (by simp) ?_
      refine AllReadyH.cons (o := ⟨some 95, _, _, _, _, _⟩) rfl (fun K hK => ?_) AllReadyH.nil
      go_simp
      refine (HSM.out _ (HYW.out _ hHeld.2).1 (HZA.out _ hHeld.1).1).mono ?_
      rintro e wm ⟨rfl, hgn⟩
      have hbn := Gr.below hgn
      refine hK.out _ _ ⟨hHeld.1.later hbn, hHeld.2.later hbn⟩ (fun hHeld => ?_)
      clear hK K hbn hgn
      try simp only [Act.put, List.setIfInBounds_toArray, List.set_cons_zero, List.set_cons_succ]
      refine wpAnyH_take (i := 26) (oi := ⟨some 96, _, _, _, _, _⟩) (v := ?vm26) rfl (by kernel_rfl) (by kernel_rfl) (by kernel_rfl) (fun _ _ _ h => h) (Or.inl ⟨by rfl, ?ym26⟩) hHeld ?rm26
      case ym26 =>
        intro wx hSx
        go_simp
        try with_reducible rfl
      try simp only [Act.put, List.setIfInBounds_toArray, List.set_cons_zero, List.set_cons_succ]
      refine wpAnyH_take (i := 27) (oi := ⟨some 97, _, _, _, _, _⟩) (v := ?vm27) rfl (by kernel_rfl) (by kernel_rfl) (by kernel_rfl) (fun _ _ _ h => h) (Or.inl ⟨by rfl, ?ym27⟩) hHeld ?rm27
      case ym27 =>
        intro wx hSx
        go_simp
        try with_reducible rfl
      try simp only [Act.put, List.setIfInBounds_toArray, List.set_cons_zero, List.set_cons_succ]
      refine wpAnyH_take (i := 28) (oi := ⟨some 98, _, _, _, _, _⟩) (v := ?vm28) rfl (by kernel_rfl) (by kernel_rfl) (by kernel_rfl) (fun _ _ _ h => h) (Or.inl ⟨by rfl, ?ym28⟩) hHeld ?rm28
      case ym28 =>
        intro wx hSx
        go_simp
        try with_reducible rfl
      try simp only [Act.put, List.setIfInBounds_toArray, List.set_cons_zero, List.set_cons_succ]
      refine wpAnyH_take (i := 29) (oi := ⟨some 99, _, _, _, _, _⟩) (v := ?vm29) rfl (by kernel_rfl) (by kernel_rfl) (by kernel_rfl) (fun _ _ _ h => h) (Or.inl ⟨by rfl, ?ym29⟩) hHeld ?rm29
      case ym29 =>
        intro wx hSx
        go_simp
        try with_reducible rfl
      try simp only [Act.put, List.setIfInBounds_toArray, List.set_cons_zero, List.set_cons_succ]
      refine wpAnyH_take (i := 30) (oi := ⟨some 100, _, _, _, _, _⟩) (v := ?vm30) rfl (by kernel_rfl) (by kernel_rfl) (by kernel_rfl) (fun _ _ _ h => h) (Or.inl ⟨by rfl, ?ym30⟩) hHeld ?rm30
      case ym30 =>
        intro wx hSx
        go_simp
        try with_reducible rfl
      try simp only [Act.put, List.setIfInBounds_toArray, List.set_cons_zero, List.set_cons_succ]
      refine wpAnyH_take (i := 31) (oi := ⟨some 101, _, _, _, _, _⟩) (v := ?vm31) rfl (by kernel_rfl) (by kernel_rfl) (by kernel_rfl) (fun _ _ _ h => h) (Or.inl ⟨by rfl, ?ym31⟩) hHeld ?rm31
      case ym31 =>
        intro wx hSx
        have p1 := cell_at (H3.out _ hSx.1) 1
        simp only [List.getElem?_toArray, List.getElem?_cons_succ, List.getElem?_cons_zero] at p1
        go_simp
        try with_reducible rfl
      try simp only [Act.put, List.setIfInBounds_toArray, List.set_cons_zero, List.set_cons_succ]
      refine wpAnyH_take (i := 32) (oi := ⟨some 102, _, _, _, _, _⟩) (v := ?vm32) rfl (by kernel_rfl) (by kernel_rfl) (by kernel_rfl) (fun _ _ _ h => h) (Or.inl ⟨by rfl, ?ym32⟩) hHeld ?rm32
      case ym32 =>
        intro wx hSx
        go_simp
        try with_reducible rfl
      try simp only [Act.put, List.setIfInBounds_toArray, List.set_cons_zero, List.set_cons_succ]
      refine wpAnyH_take (i := 33) (oi := ⟨some 103, _, _, _, _, _⟩) (v := ?vm33) rfl (by kernel_rfl) (by kernel_rfl) (by kernel_rfl) (fun _ _ _ h => h) (Or.inl ⟨by rfl, ?ym33⟩) hHeld ?rm33
      case ym33 =>
        intro wx hSx
        go_simp
        try with_reducible rfl
      try simp only [Act.put, List.setIfInBounds_toArray, List.set_cons_zero, List.set_cons_succ]
      refine wpAnyH_take (i := 34) (oi := ⟨some 104, _, _, _, _, _⟩) (v := ?vm34) rfl (by kernel_rfl) (by kernel_rfl) (by kernel_rfl) (fun _ _ _ h => h) (Or.inl ⟨by rfl, ?ym34⟩) hHeld ?rm34
      case ym34 =>
        intro wx hSx
        go_simp
        try with_reducible rfl
      try simp only [Act.put, List.setIfInBounds_toArray, List.set_cons_zero, List.set_cons_succ]
      refine wpAnyH_take (i := 35) (oi := ⟨some 105, _, _, _, _, _⟩) (v := ?vm35) rfl (by kernel_rfl) (by kernel_rfl) (by kernel_rfl) (fun _ _ _ h => h) (Or.inl ⟨by rfl, ?ym35⟩) hHeld ?rm35
      case ym35 =>
        intro wx hSx
        have zz := ev_cells (HRC.out _ hSx.1)
        obtain ⟨z0, z1, z2, z3, z4, z5⟩ := zz
        unfold EvV.pv at z2
        go_simp
        try with_reducible rfl
      try simp only [Act.put, List.setIfInBounds_toArray, List.set_cons_zero, List.set_cons_succ]
      refine wpAnyH_ready (rs := [36]) (by kernel_rfl) (by simp) ?_
      refine AllReadyH.cons (o := ⟨some 106, _, _, _, _, _⟩) rfl (fun K hK => ?_) AllReadyH.nil
      go_simp
      refine (C.has z.ev.id hHeld.1.code HLL.out hzi).mono ?_
      rintro e wh ⟨rfl, hcn, htn⟩
      rw [HHZ.out]
      refine hK.out _ _ ⟨hHeld.1.turn hcn htn, hHeld.2.turn hcn htn⟩ (fun hHeld => ?_)
      clear hK K hcn htn
      try simp only [Act.put, List.setIfInBounds_toArray, List.set_cons_zero, List.set_cons_succ]
      refine wpAnyH_take (i := 37) (oi := ⟨some 107, _, _, _, _, _⟩) (v := ?vm37) rfl (by kernel_rfl) (by kernel_rfl) (by kernel_rfl) (fun _ _ _ h => h) (Or.inl ⟨by rfl, ?ym37⟩) hHeld ?rm37
      case ym37 =>
        intro wx hSx
        go_simp
        try with_reducible rfl
      try simp only [Act.put, List.setIfInBounds_toArray, List.set_cons_zero, List.set_cons_succ]
      refine wpAnyH_take (i := 38) (oi := ⟨some 108, _, _, _, _, _⟩) (v := ?vm38) rfl (by kernel_rfl) (by kernel_rfl) (by kernel_rfl) (fun _ _ _ h => h) (Or.inl ⟨by rfl, ?ym38⟩) hHeld ?rm38
      case ym38 =>
        intro wx hSx
        go_simp
        try with_reducible rfl
      try simp only [Act.put, List.setIfInBounds_toArray, List.set_cons_zero, List.set_cons_succ]
      refine wpAnyH_done (by kernel_rfl) ?_ _
      go_wp2_with fail
      refine ⟨⟨a + 1, by go_num, by omega, Lib.hid hHeld.1⟩, ?_⟩
      simp [intOf]; omega
    · have q1 : decide ((a : Int) < (xs.length : Int)) = false := decide_eq_false (by omega)
      go_wp2_with fail
      go_ret
      exact ⟨rfl, HR.out.code, (HL1.out.turn HR.out.code HR.out.trn).trn⟩
end Go.Proofs.YtflgpdkdflhhgaaGreat
