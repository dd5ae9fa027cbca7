/-
  What the statements stand on, part ZA9.
-/
import Derived.Test.YtnnapkakbdpkaaaGreatZA8
set_option linter.unusedVariables false
set_option linter.unusedSimpArgs false
namespace Go.Proofs.YtnnapkakbdpkaaaGreat
set_option maxRecDepth 20000
open Go.RowKit
theorem infoT : (Tryz.prog.info? 9).map (fun i => (i.zero, i.size, i.bytes)) = some (some (.string ⟨#[]⟩), 1, 16) := by kernel_rfl
theorem grow_any (n : Nat) (hn : n ≤ 1000) (w : World) : Calls Tryz.prog 108 #[.slice none 0 0, .int .i64 (n : Int)] w fun e w' => ∃ A cap, e = .returned (.slice A 0 cap) ∧ LT.Mine w' w.heap.size (.slice A 0 cap) [] ∧ Below w.heap.size w w' := by
 by_cases h0 : n = 0
 ·subst h0
  refine (Any8.slices_Grow_room Tryz.growT none 0 0 0 w (Nat.le_refl _) (by omega) (by omega) (by omega)).mono ?_
  rintro e w' ⟨rfl, rfl⟩
  exact ⟨_, _, rfl, .inl ⟨rfl, rfl⟩, Below.refl _ _⟩
 ·obtain ⟨i0, hi0, hz0, hz1, hz2⟩ := info_parts infoT
  refine (Any8.slices_Grow_grow Tryz.growT i0 (.string ⟨#[]⟩) hi0 hz0 (by omega) none 0 0 n [] w (Nat.le_refl _) (by omega) (by rw [hz2]; omega) (by omega) (by simp) (fun _ => rfl) (fun a h => by cases h)).mono ?_
  rintro e w' ⟨rfl, rfl⟩
  refine ⟨_, _, rfl, .inr ⟨_, 0, _, _, rfl, Nat.le_refl _, heap_alloc_new w.drew _, Nat.zero_le _, ?_, ?_, rfl⟩, ?_⟩
  ·exact grownCap_le_maxLen w (0 + n) 0 _ (by unfold maxLen; omega)
  ·have hge := grownCap_ge w (0 + n) 0 (Tryz.growT_ren.t 25)
   rw [Nat.zero_add] at *
   simp only [Builtin.zeroCells, LT]
   simp
   have hc : (Value.string ⟨#[]⟩).cells.size = 1 := rfl
   rw [hc]
   omega
  ·exact (Below.refl _ w).drew.trans (below_new w.drew _)
theorem BxS.puts {w wr w2 : World} {B1 B2 : Nat} {cs : Array Value} {v : Value} {ts : List ByteArray} (h : BxS w wr B1 B2 cs) (hm : LT.Mine wr w.heap.size v ts) (hg : wr.grownBy w2 v.ownBlock) : BxS w w2 B1 B2 cs := by
 have hne : ∀ (B : Nat) (cs : Array Value), wr.heap[B]? = some (.cells cs 52 (0, 0)) → some B ≠ v.ownBlock := by
  intro B cs hb he
  rcases hm with ⟨rfl, _⟩ | ⟨g, off, cap, cur, rfl, _, hh, _⟩
  ·cases he
  ·simp only [Value.ownBlock, Option.some.injEq] at he
   subst he
   rw [hb] at hh
   injection hh with hh
   injection hh with _ hh
   exact absurd hh (by decide)
 exact ⟨h.ne, h.lo1, h.lo2, (hg.block B1 (smem_lt h.box) (hne _ _ h.box)).trans h.box, (hg.block B2 (smem_lt h.res) (hne _ _ h.res)).trans h.res, h.below.grown hg h.below.size (fun k hk => (hm.lt k hk).1)⟩
structure OwS (w wr : World) (B1 : Nat) (cs : Array Value) (v : Value) (ts : List ByteArray) : Prop where
 box : wr.heap[B1]? = some (.cells cs 52 (0, 0))
 below : Below w.heap.size w wr
 row : LT.Mine wr w.heap.size v ts
theorem OwS.on {w wr w2 : World} {B1 : Nat} {cs : Array Value} {v : Value} {ts : List ByteArray} (h : OwS w wr B1 cs v ts) (hb : Below wr.heap.size wr w2) : OwS w w2 B1 cs v ts :=
 ⟨(hb.block B1 (smem_lt h.box)).trans h.box, h.below.trans (hb.mono h.below.size), h.row.below hb⟩
theorem mine_ne {w : World} {B b : Nat} {v : Value} {ts : List ByteArray} {cs : Array Value} {t : TypeId} (hm : LT.Mine w B v ts) (hb : w.heap[b]? = some (.cells cs t (0, 0))) (ht : t ≠ 9) : ∀ k, v.ownBlock = some k → k ≠ b := by
 intro k hk e
 subst e
 rcases hm with ⟨rfl, _⟩ | ⟨g, off, cap, cur, rfl, _, hh, _⟩
 ·cases hk
 ·simp only [Value.ownBlock, Option.some.injEq] at hk
  subst hk
  rw [hb] at hh
  injection hh with hh
  injection hh with _ hh
  exact ht hh
theorem own_stored {w wr : World} {B1 B2 : Nat} {cs : Array Value} {v : Value} {ts : List ByteArray} (h : OwS w wr B1 cs v ts) (hr : wr.heap[B2]? = some (.cells #[.string ⟨#[]⟩, .string ⟨#[]⟩, .slice none 0 0, .string ⟨#[]⟩, .string ⟨#[]⟩, .int .i64 0] 52 (0, 0))) (hne : B1 ≠ B2) (hlo : w.heap.size ≤ B2) (a0 a1 a2 a3 a4 a5 : Value) :
  ∀ W, W = wr.setCells B2 0 [a0, a1, a2, a3, a4, a5] → W.cell? ⟨B2, 0, none⟩ = some a0 ∧ W.cell? ⟨B2, 1, none⟩ = some a1 ∧ W.cell? ⟨B2, 2, none⟩ = some a2 ∧ W.cell? ⟨B2, 3, none⟩ = some a3 ∧ W.cell? ⟨B2, 4, none⟩ = some a4 ∧ W.cell? ⟨B2, 5, none⟩ = some a5 ∧ OwS w W B1 cs v ts := by
 rintro W rfl
 obtain ⟨cur, z1, z2, z3⟩ := sm_at B2 52 [a0, a1, a2, a3, a4, a5] 0 wr _ hr (Nat.le_refl 6)
 have hg := sm_grown wr B2 0 [a0, a1, a2, a3, a4, a5]
 refine ⟨?_, ?_, ?_, ?_, ?_, ?_, (hg.block B1 (smem_lt h.box) (fun e => hne (by injection e))).trans h.box, h.below.grown hg h.below.size (fun k hk => by injection hk with hk; omega), h.row.grown hg (fun k hk e => by injection e with e; exact mine_ne h.row hr (by decide) k hk e)⟩
 ·rw [cell_at z1 0, ← Array.getElem?_toList, z3]; rfl
 ·rw [cell_at z1 1, ← Array.getElem?_toList, z3]; rfl
 ·rw [cell_at z1 2, ← Array.getElem?_toList, z3]; rfl
 ·rw [cell_at z1 3, ← Array.getElem?_toList, z3]; rfl
 ·rw [cell_at z1 4, ← Array.getElem?_toList, z3]; rfl
 ·rw [cell_at z1 5, ← Array.getElem?_toList, z3]; rfl
set_option maxHeartbeats 3200000 in
theorem own_any (x : EvV) (w : World) (hx : LT.Slice w x.pv x.ev.parents) (hm : mayE x.ev = true) :
  Calls Tryz.prog 79 #[x.val] w fun e w' => ∃ y : EvV, e = .returned y.val ∧ y.ev = x.ev ∧ LT.Mine w' w.heap.size y.pv y.ev.parents ∧ Below w.heap.size w w' := by
 obtain ⟨h1, h2, h3, h4, h5, -, -, h8⟩ := may_short hm
 have HX := Lib.hid hx
 have HB := Lib.hid (BxS.start w #[.string x.ev.id, .string x.ev.room, x.pv, .string x.ev.thread, .string x.ev.user, .int .i64 x.ev.does])
 have HG := Lib.hid (fun W => grow_any x.ev.parents.length (by omega) W)
 have HC1 := Lib.hid (fun W => clone_any x.ev.id W (by omega))
 have HC2 := Lib.hid (fun W => clone_any x.ev.room W (by omega))
 have HC3 := Lib.hid (fun W => clone_any x.ev.thread W (by omega))
 have HC4 := Lib.hid (fun W => clone_any x.ev.user W (by omega))
 have HCP := Lib.hid (fun p (hp : p ∈ x.ev.parents) W => clone_any p W (by have := h5 p hp; omega))
 have hpl : x.ev.parents.length ≤ x.cap ∧ x.cap ≤ 9223372036854775807 := by
  obtain ⟨_, _, he, h5, hm, _⟩ := id hx
  injection he with _ he2 he3
  unfold maxLen at hm
  omega
 clear hx h1 h2 h3 h4 h5 hm
 unfold EvV.val EvV.pv at *
 go_enter Tryz.func79, Tryz.ntmps79
 go_upto_region 1 with (fail)
 generalize World.alloc _ _ = w1 at HB ⊢
 generalize w.heap.size + 1 = B2 at HB ⊢
 generalize hB1 : w.heap.size = B1 at HB ⊢
 have c2 : w1.cell? ⟨B1, 2, none⟩ = some (.slice x.A x.ev.parents.length x.cap) := cell_at HB.out.box 2
 go_wp2_with fail
 go_at_call 108
 refine (HG.out _).mono ?_
 rintro e w2 ⟨Ag, cg, rfl, hmg, hbg⟩
 have HB2 := Lib.hid (HB.out.on hbg)
 have hw12 : w.heap.size ≤ w1.heap.size := HB.out.below.size
 have HM2 := Lib.hid (hmg.mono hw12)
 clear hmg hbg c2 HG
 have c2 : w2.cell? ⟨B1, 2, none⟩ = some (.slice x.A x.ev.parents.length x.cap) := cell_at HB2.out.box 2
 go_wp2_with fail
 go_loopw [3, 13] (fun u i wr => ∃ (a : Nat) (ts : List ByteArray) (Ao : Option Addr) (co : Nat), u = .slice Ao ts.length co ∧ i = .int .i64 (a : Int) ∧ a ≤ x.ev.parents.length ∧ ts.length ≤ 4 ∧ Hid (ts = x.ev.parents.take a) ∧ Hid (BxS w wr B1 B2 #[.string x.ev.id, .string x.ev.room, .slice x.A x.ev.parents.length x.cap, .string x.ev.thread, .string x.ev.user, .int .i64 x.ev.does]) ∧ Hid (LT.Mine wr w.heap.size u ts)) (fun _ i _ => x.ev.parents.length - (intOf i).toNat)
 case atStart => exact ⟨0, [], Ag, cg, rfl, rfl, Nat.zero_le _, Nat.zero_le _, Lib.hid rfl, HB2, HM2⟩
 case round =>
  obtain ⟨a, ts, Ao, co, rfl, rfl, ha, htl, HT, HBR, HO⟩ := hrel
  by_cases hlt : a < x.ev.parents.length
  ·have q1 : decide ((a : Int) < (x.ev.parents.length : Int)) = true := decide_eq_true (by omega)
   have hp : x.ev.parents[a]? = some x.ev.parents[a] := List.getElem?_eq_getElem hlt
   generalize x.ev.parents[a] = p at hp
   have HCL := Lib.hid (HCP.out p (List.mem_of_getElem? hp))
   have HTS : Hid (ts ++ [p] = x.ev.parents.take (a + 1)) := Lib.hid (by rw [List.take_add_one, hp, HT.out]; rfl)
   have hat := HX.out
   obtain ⟨bp, op, hA, hbp, hcp⟩ := text_at hat hp
   have hip := index_any (P := Tryz.prog) knT (by decide) (b := bp) (off := op) (cap := x.cap) hlt
   simp only [LT] at hip
   rw [Nat.mul_one] at hip
   have e3 : wr.cell? ⟨bp, op + a, none⟩ = some (.string p) := (HBR.out.below.cell (p := ⟨bp, op + a, none⟩) hbp).trans hcp
   have htl3 : ts.length ≤ 3 := by
    have := congrArg List.length HTS.out
    rw [List.length_append, List.length_take] at this
    simp only [List.length_cons, List.length_nil] at this
    omega
   clear hat hcp hp
   rw [hA]
   go_wp2_with fail
   go_at_call 81
   refine (HCL.out _).mono ?_
   rintro e w3 ⟨rfl, b3⟩
   have HB3 := Lib.hid (HBR.out.on b3)
   have HO3 := Lib.hid (HO.out.below b3)
   clear b3 e3 HBR HO
   have hlit := Lib.hid (lit_slice (L := LT) w3 p w3.heap.size rfl #[.string p] rfl)
   have hb6 := below_new w3 (.cells #[.string p] 9)
   have HB6 := Lib.hid (HB3.out.on hb6)
   have HO6 := Lib.hid (HO3.out.below hb6)
   replace hlit := Lib.hid (show LT.Slice (w3.alloc (.cells #[.string p] 9)) (.slice (some ⟨w3.heap.size, 0, none⟩) 1 1) [p] from hlit.out)
   have hsz6 : w.heap.size ≤ (w3.alloc (.cells #[.string p] 9)).heap.size := HB6.out.below.size
   clear hb6 HB3 HO3
   go_wp2_with (at_builtin; refine wpList_puts rfl knT (.tmp 17) (.tmp 20) 50 rfl (v := .slice Ao ts.length co) rfl HO6.out hsz6 (.slice (some ⟨w3.heap.size, 0, none⟩) 1 1) [p] 1 rfl rfl (hlit.out.srcN knT rfl) (by omega) ?_; intro A7 cap7 w7 hm7 hg7 hb7)
   have HB7 := Lib.hid (HB6.out.puts HO6.out hg7)
   clear hg7 hb7
   rw [hA] at HB7
   go_wp2_with fail
   refine ⟨⟨a + 1, ts ++ [p], A7, cap7, by rw [List.length_append]; rfl, by go_num, by omega, by rw [List.length_append]; simp only [List.length_cons, List.length_nil]; omega, HTS, HB7, Lib.hid hm7⟩, ?_⟩
   simp [intOf]; omega
  ·have q1 : decide ((a : Int) < (x.ev.parents.length : Int)) = false := decide_eq_false (by omega)
   have HTE : Hid (ts = x.ev.parents) := Lib.hid (by rw [HT.out, List.take_of_length_le (by omega)])
   go_upto_region 7 with (fail)
   refine wp_region_held_drew (S := fun w' => OwS w w' B1 #[.string x.ev.id, .string x.ev.room, .slice x.A x.ev.parents.length x.cap, .string x.ev.thread, .string x.ev.user, .int .i64 x.ev.does] (.slice Ao ts.length co) ts) (by kernel_rfl) (OwS.mk HBR.out.box HBR.out.below.drew HO.out) (fun hHeld => ?_)
   have hres : wr.drew.heap[B2]? = _ := HBR.out.res
   have hne := HBR.out.ne
   have hlo2 := HBR.out.lo2
   clear HBR HO HM2 HB2 HB c2
   generalize wr.drew = wd at hHeld hres ⊢
   refine wpAnyH_take (i := 0) (oi := ⟨some 23, _, _, _, _, _⟩) (v := ?vo0) rfl (by kernel_rfl) (by kernel_rfl) (by kernel_rfl) (fun _ _ _ h => h) (Or.inl ⟨by rfl, ?yo0⟩) hHeld ?ro0
   case yo0 =>
    intro wx hSx
    go_simp
    try with_reducible rfl
   try simp only [actS]
   refine wpAnyH_take (i := 3) (oi := ⟨some 26, _, _, _, _, _⟩) (v := ?vo3) rfl (by kernel_rfl) (by kernel_rfl) (by kernel_rfl) (fun _ _ _ h => h) (Or.inl ⟨by rfl, ?yo3⟩) hHeld ?ro3
   case yo3 =>
    intro wx hSx
    go_simp
    try with_reducible rfl
   try simp only [actS]
   refine wpAnyH_take (i := 7) (oi := ⟨some 30, _, _, _, _, _⟩) (v := ?vo7) rfl (by kernel_rfl) (by kernel_rfl) (by kernel_rfl) (fun _ _ _ h => h) (Or.inl ⟨by rfl, ?yo7⟩) hHeld ?ro7
   case yo7 =>
    intro wx hSx
    go_simp
    try with_reducible rfl
   try simp only [actS]
   refine wpAnyH_take (i := 10) (oi := ⟨some 33, _, _, _, _, _⟩) (v := ?vo10) rfl (by kernel_rfl) (by kernel_rfl) (by kernel_rfl) (fun _ _ _ h => h) (Or.inl ⟨by rfl, ?yo10⟩) hHeld ?ro10
   case yo10 =>
    intro wx hSx
    go_simp
    try with_reducible rfl
   try simp only [actS]
   refine wpAnyH_take (i := 13) (oi := ⟨some 36, _, _, _, _, _⟩) (v := ?vo13) rfl (by kernel_rfl) (by kernel_rfl) (by kernel_rfl) (fun _ _ _ h => h) (Or.inl ⟨by rfl, ?yo13⟩) hHeld ?ro13
   case yo13 =>
    intro wx hSx
    go_simp
    try with_reducible rfl
   try simp only [actS]
   refine wpAnyH_take (i := 6) (oi := ⟨some 29, _, _, _, _, _⟩) (v := ?vo6) rfl (by kernel_rfl) (by kernel_rfl) (by kernel_rfl) (fun _ _ _ h => h) (Or.inl ⟨by rfl, ?yo6⟩) hHeld ?ro6
   case yo6 =>
    intro wx hSx
    go_simp
    try with_reducible rfl
   try simp only [actS]
   refine wpAnyH_take (i := 1) (oi := ⟨some 24, _, _, _, _, _⟩) (v := ?vo1) rfl (by kernel_rfl) (by kernel_rfl) (by kernel_rfl) (fun _ _ _ h => h) (Or.inl ⟨by rfl, ?yo1⟩) hHeld ?ro1
   case yo1 =>
    intro wx hSx
    have z := cell_at hSx.box 0
    simp only [List.getElem?_toArray, List.getElem?_cons_succ, List.getElem?_cons_zero] at z
    go_simp
    try with_reducible rfl
   try simp only [actS]
   refine wpAnyH_take (i := 4) (oi := ⟨some 27, _, _, _, _, _⟩) (v := ?vo4) rfl (by kernel_rfl) (by kernel_rfl) (by kernel_rfl) (fun _ _ _ h => h) (Or.inl ⟨by rfl, ?yo4⟩) hHeld ?ro4
   case yo4 =>
    intro wx hSx
    have z := cell_at hSx.box 1
    simp only [List.getElem?_toArray, List.getElem?_cons_succ, List.getElem?_cons_zero] at z
    go_simp
    try with_reducible rfl
   try simp only [actS]
   refine wpAnyH_take (i := 8) (oi := ⟨some 31, _, _, _, _, _⟩) (v := ?vo8) rfl (by kernel_rfl) (by kernel_rfl) (by kernel_rfl) (fun _ _ _ h => h) (Or.inl ⟨by rfl, ?yo8⟩) hHeld ?ro8
   case yo8 =>
    intro wx hSx
    have z := cell_at hSx.box 3
    simp only [List.getElem?_toArray, List.getElem?_cons_succ, List.getElem?_cons_zero] at z
    go_simp
    try with_reducible rfl
   try simp only [actS]
   refine wpAnyH_take (i := 11) (oi := ⟨some 34, _, _, _, _, _⟩) (v := ?vo11) rfl (by kernel_rfl) (by kernel_rfl) (by kernel_rfl) (fun _ _ _ h => h) (Or.inl ⟨by rfl, ?yo11⟩) hHeld ?ro11
   case yo11 =>
    intro wx hSx
    have z := cell_at hSx.box 4
    simp only [List.getElem?_toArray, List.getElem?_cons_succ, List.getElem?_cons_zero] at z
    go_simp
    try with_reducible rfl
   try simp only [actS]
   refine wpAnyH_take (i := 14) (oi := ⟨some 37, _, _, _, _, _⟩) (v := ?vo14) rfl (by kernel_rfl) (by kernel_rfl) (by kernel_rfl) (fun _ _ _ h => h) (Or.inl ⟨by rfl, ?yo14⟩) hHeld ?ro14
   case yo14 =>
    intro wx hSx
    have z := cell_at hSx.box 5
    simp only [List.getElem?_toArray, List.getElem?_cons_succ, List.getElem?_cons_zero] at z
    go_simp
    try with_reducible rfl
   try simp only [actS]
   refine wpAnyH_ready (rs := [2]) (by kernel_rfl) (by simp) ?_
   refine AllReadyH.cons (o := ⟨some 25, _, _, _, _, _⟩) rfl (fun K hK => ?_) AllReadyH.nil
   go_simp
   refine (HC1.out _).mono ?_
   rintro e wn1 ⟨rfl, hbn⟩
   replace hres := (hbn.block B2 (smem_lt hres)).trans hres
   refine hK.out _ _ (hHeld.on hbn) (fun hHeld => ?_)
   clear hK K hbn
   try simp only [actS]
   refine wpAnyH_ready (rs := [5]) (by kernel_rfl) (by simp) ?_
   refine AllReadyH.cons (o := ⟨some 28, _, _, _, _, _⟩) rfl (fun K hK => ?_) AllReadyH.nil
   go_simp
   refine (HC2.out _).mono ?_
   rintro e wn2 ⟨rfl, hbn⟩
   replace hres := (hbn.block B2 (smem_lt hres)).trans hres
   refine hK.out _ _ (hHeld.on hbn) (fun hHeld => ?_)
   clear hK K hbn
   try simp only [actS]
   refine wpAnyH_ready (rs := [9]) (by kernel_rfl) (by simp) ?_
   refine AllReadyH.cons (o := ⟨some 32, _, _, _, _, _⟩) rfl (fun K hK => ?_) AllReadyH.nil
   go_simp
   refine (HC3.out _).mono ?_
   rintro e wn3 ⟨rfl, hbn⟩
   replace hres := (hbn.block B2 (smem_lt hres)).trans hres
   refine hK.out _ _ (hHeld.on hbn) (fun hHeld => ?_)
   clear hK K hbn
   try simp only [actS]
   refine wpAnyH_ready (rs := [12]) (by kernel_rfl) (by simp) ?_
   refine AllReadyH.cons (o := ⟨some 35, _, _, _, _, _⟩) rfl (fun K hK => ?_) AllReadyH.nil
   go_simp
   refine (HC4.out _).mono ?_
   rintro e wn4 ⟨rfl, hbn⟩
   replace hres := (hbn.block B2 (smem_lt hres)).trans hres
   refine hK.out _ _ (hHeld.on hbn) (fun hHeld => ?_)
   clear hK K hbn
   try simp only [actS]
   generalize wn4 = wd at hHeld hres ⊢
   refine wpAnyH_take (i := 15) (oi := ⟨some 38, _, _, _, _, _⟩) (v := ?vo15) rfl (by kernel_rfl) (by kernel_rfl) (by kernel_rfl) (fun _ _ _ h => h) (Or.inl ⟨by rfl, ?yo15⟩) hHeld ?ro15
   case yo15 =>
    intro wx hSx
    go_simp
    try with_reducible rfl
   try simp only [actS]
   refine wpAnyH_ready (rs := [16]) (by kernel_rfl) (by simp) ?_
   refine AllReadyH.cons (o := ⟨none, _, _, _, _, _⟩) rfl (fun K hK => ?_) AllReadyH.nil
   have r0 : wd.cell? ⟨B2, 0, none⟩ = some (.string ⟨#[]⟩) := cell_at hres 0
   have r1 : wd.cell? ⟨B2, 1, none⟩ = some (.string ⟨#[]⟩) := cell_at hres 1
   have r2 : wd.cell? ⟨B2, 2, none⟩ = some (.slice none 0 0) := cell_at hres 2
   have r3 : wd.cell? ⟨B2, 3, none⟩ = some (.string ⟨#[]⟩) := cell_at hres 3
   have r4 : wd.cell? ⟨B2, 4, none⟩ = some (.string ⟨#[]⟩) := cell_at hres 4
   have r5 : wd.cell? ⟨B2, 5, none⟩ = some (.int .i64 0) := cell_at hres 5
   have z0 : wd.frozen? ⟨B2, 0, none⟩ = false := free_at hres 0
   have z1 : wd.frozen? ⟨B2, 1, none⟩ = false := free_at hres 1
   have z2 : wd.frozen? ⟨B2, 2, none⟩ = false := free_at hres 2
   have z3 : wd.frozen? ⟨B2, 3, none⟩ = false := free_at hres 3
   have z4 : wd.frozen? ⟨B2, 4, none⟩ = false := free_at hres 4
   have z5 : wd.frozen? ⟨B2, 5, none⟩ = false := free_at hres 5
   have HAN := own_stored hHeld hres hne hlo2 (.string x.ev.id) (.string x.ev.room) (.slice Ao ts.length co) (.string x.ev.thread) (.string x.ev.user) (.int .i64 x.ev.does) _ rfl
   simp only [World.setCells] at HAN
   go_simp
   generalize World.setCell _ _ _ = w9 at HAN ⊢
   obtain ⟨k0, k1, k2, k3, k4, k5, k6⟩ := HAN
   refine hK.out _ _ k6 (fun hHeld => ?_)
   clear hK K r0 r1 r2 r3 r4 r5 z0 z1 z2 z3 z4 z5 hres
   refine wpAnyH_done (by kernel_rfl) ?_ _
   go_wp2_with fail
   refine bodyPost_ret (v := .agg #[.string x.ev.id, .string x.ev.room, .slice Ao ts.length co, .string x.ev.thread, .string x.ev.user, .int .i64 x.ev.does]) ?_ rfl ?_
   ·simp [results, Tryz.results79, go_sem, k0, k1, k2, k3, k4, k5]
   ·have hpt : x.ev.parents = ts := HTE.out.symm
    refine ⟨⟨x.ev, Ao, co⟩, ?_, rfl, ?_, k6.below⟩
    ·rw [← HTE.out]
    ·simp only
     rw [hpt]
     exact k6.row
end Go.Proofs.YtnnapkakbdpkaaaGreat

namespace Go.Proofs.YtnnapkakbdpkaaaGreat
set_option maxRecDepth 20000
open Go.RowKit
section
variable {w w' : World} {g mb : Nat} {room : ByteArray} {ns : List NdV} {D : Dv}
set_option maxHeartbeats 800000 in
theorem has_code (h : DgS w g room mb ns D) (k : ByteArray) (hk : k.size ≤ maxLen) : Calls Tryz.prog 77 #[.pointer (some ⟨g, 0, none⟩), .string k] w fun e w' => e = .returned (.bool (hasE (nevs ns) k)) ∧ Below w.heap.size w w' := by
 have c1 := h.c1
 rcases h.look k hk true with ⟨hh, hr⟩ | ⟨hh, n, hn, he, hr⟩
 ·rw [hh]
  unfold zeroN at hr
  clear h hk hh
  go_enter Tryz.func77, Tryz.ntmps77
  go_wp2_with fail
  go_ret
  exact ⟨rfl, below_new _ _⟩
 ·rw [hh]
  unfold NdV.val EvV.pv at hr
  clear h hk hh
  go_enter Tryz.func77, Tryz.ntmps77
  go_wp2_with fail
  go_ret
  exact ⟨rfl, below_new _ _⟩
theorem ev_stored {wr : World} {B : Nat} {cs : Array Value} {t : TypeId} (hr : wr.heap[B]? = some (.cells cs t (0, 0))) (a0 a1 a2 a3 a4 a5 : Value) (hs : cs.size = 6) :
  ∀ W, W = wr.setCells B 0 [a0, a1, a2, a3, a4, a5] → W.cell? ⟨B, 0, none⟩ = some a0 ∧ W.cell? ⟨B, 1, none⟩ = some a1 ∧ W.cell? ⟨B, 2, none⟩ = some a2 ∧ W.cell? ⟨B, 3, none⟩ = some a3 ∧ W.cell? ⟨B, 4, none⟩ = some a4 ∧ W.cell? ⟨B, 5, none⟩ = some a5 ∧ wr.grownBy W (some B) := by
 rintro W rfl
 obtain ⟨cur, z1, z2, z3⟩ := sm_at B t [a0, a1, a2, a3, a4, a5] 0 wr _ hr (by rw [hs]; exact Nat.le_refl 6)
 have hl : cs.toList.length = 6 := hs
 have z4 : cur.toList = [a0, a1, a2, a3, a4, a5] := by
  rw [z3, List.take_zero, List.nil_append, List.drop_of_length_le (by rw [hl]; exact Nat.le_refl _), List.append_nil]
 refine ⟨?_, ?_, ?_, ?_, ?_, ?_, sm_grown wr B 0 _⟩
 ·rw [cell_at z1 0, ← Array.getElem?_toList, z4]; rfl
 ·rw [cell_at z1 1, ← Array.getElem?_toList, z4]; rfl
 ·rw [cell_at z1 2, ← Array.getElem?_toList, z4]; rfl
 ·rw [cell_at z1 3, ← Array.getElem?_toList, z4]; rfl
 ·rw [cell_at z1 4, ← Array.getElem?_toList, z4]; rfl
 ·rw [cell_at z1 5, ← Array.getElem?_toList, z4]; rfl
theorem po_stored {wr : World} {B : Nat} {cs : Array Value} {t : TypeId} (hr : wr.heap[B]? = some (.cells cs t (0, 0))) (a0 a1 : Value) (hs : cs.size = 2) :
  ∀ W, W = wr.setCells B 0 [a0, a1] → W.cell? ⟨B, 0, none⟩ = some a0 ∧ W.cell? ⟨B, 1, none⟩ = some a1 ∧ wr.grownBy W (some B) := by
 rintro W rfl
 obtain ⟨cur, z1, z2, z3⟩ := sm_at B t [a0, a1] 0 wr _ hr (by rw [hs]; exact Nat.le_refl 2)
 have hl : cs.toList.length = 2 := hs
 have z4 : cur.toList = [a0, a1] := by
  rw [z3, List.take_zero, List.nil_append, List.drop_of_length_le (by rw [hl]; exact Nat.le_refl _), List.append_nil]
 refine ⟨?_, ?_, sm_grown wr B 0 _⟩
 ·rw [cell_at z1 0, ← Array.getElem?_toList, z4]; rfl
 ·rw [cell_at z1 1, ← Array.getElem?_toList, z4]; rfl
set_option maxHeartbeats 800000 in
theorem event_code7 (h : DgS w g room mb ns D) (k : ByteArray) (hk : k.size ≤ maxLen) : Calls Tryz.prog 100 #[.pointer (some ⟨g, 0, none⟩), .string k] w fun e w' => ∃ y : EvV, e = .returned (.tuple #[y.val, .bool (hasE (nevs ns) k)]) ∧ LT.Mine w' w.heap.size y.pv y.ev.parents ∧ (hasE (nevs ns) k = false → y.ev.ok) ∧ (hasE (nevs ns) k = true → y.ev ∈ nevs ns ∧ y.ev.id = k) ∧ Below w.heap.size w w' := by
 have HW := Lib.hid (heap_alloc_new w (.cells #[.string ⟨#[]⟩, .string ⟨#[]⟩, .slice none 0 0, .string ⟨#[]⟩, .string ⟨#[]⟩, .int .i64 0] 52))
 have HB := Lib.hid (below_new w (.cells #[.string ⟨#[]⟩, .string ⟨#[]⟩, .slice none 0 0, .string ⟨#[]⟩, .string ⟨#[]⟩, .int .i64 0] 52))
 have HD := Lib.hid (h.below HB.out)
 clear h
 go_enter Tryz.func100, Tryz.ntmps100
 go_upto_region 1 with (fail)
 generalize w.alloc _ = w1 at HW HB HD ⊢
 generalize hB : w.heap.size = B at HW ⊢
 have c1 := HD.out.c1
 have r0 : w1.cell? ⟨B, 0, none⟩ = some (.string ⟨#[]⟩) := cell_at HW.out 0
 have r1 : w1.cell? ⟨B, 1, none⟩ = some (.string ⟨#[]⟩) := cell_at HW.out 1
 have r2 : w1.cell? ⟨B, 2, none⟩ = some (.slice none 0 0) := cell_at HW.out 2
 have r3 : w1.cell? ⟨B, 3, none⟩ = some (.string ⟨#[]⟩) := cell_at HW.out 3
 have r4 : w1.cell? ⟨B, 4, none⟩ = some (.string ⟨#[]⟩) := cell_at HW.out 4
 have r5 : w1.cell? ⟨B, 5, none⟩ = some (.int .i64 0) := cell_at HW.out 5
 rcases HD.out.look k hk true with ⟨hh, hr⟩ | ⟨hh, n, hn, he, hr⟩
 ·have HH := Lib.hid hh
  have HB2 := Lib.hid (below_new w1 (.cells #[.string ⟨#[]⟩, .string ⟨#[]⟩, .slice none 0 0, .string ⟨#[]⟩, .string ⟨#[]⟩, .int .i64 0, .int .i64 0] 161))
  unfold zeroN at hr
  clear hk hh HD
  go_upto_region 2 with (fail)
  clear c1 hr r0 r1 r2 r3 r4 r5
  generalize w1.alloc _ = w2 at HB2 ⊢
  replace HW := Lib.hid ((HB2.out.block B (smem_lt HW.out)).trans HW.out)
  replace HB := Lib.hid (HB.out.trans (HB2.out.mono HB.out.size))
  have r0 : w2.cell? ⟨B, 0, none⟩ = some (.string ⟨#[]⟩) := cell_at HW.out 0
  have r1 : w2.cell? ⟨B, 1, none⟩ = some (.string ⟨#[]⟩) := cell_at HW.out 1
  have r2 : w2.cell? ⟨B, 2, none⟩ = some (.slice none 0 0) := cell_at HW.out 2
  have r3 : w2.cell? ⟨B, 3, none⟩ = some (.string ⟨#[]⟩) := cell_at HW.out 3
  have r4 : w2.cell? ⟨B, 4, none⟩ = some (.string ⟨#[]⟩) := cell_at HW.out 4
  have r5 : w2.cell? ⟨B, 5, none⟩ = some (.int .i64 0) := cell_at HW.out 5
  have z0 : w2.frozen? ⟨B, 0, none⟩ = false := free_at HW.out 0
  have z1 : w2.frozen? ⟨B, 1, none⟩ = false := free_at HW.out 1
  have z2 : w2.frozen? ⟨B, 2, none⟩ = false := free_at HW.out 2
  have z3 : w2.frozen? ⟨B, 3, none⟩ = false := free_at HW.out 3
  have z4 : w2.frozen? ⟨B, 4, none⟩ = false := free_at HW.out 4
  have z5 : w2.frozen? ⟨B, 5, none⟩ = false := free_at HW.out 5
  have HAN := Lib.hid (ev_stored HW.out (.string ⟨#[]⟩) (.string ⟨#[]⟩) (.slice none 0 0) (.string ⟨#[]⟩) (.string ⟨#[]⟩) (.int .i64 0) rfl _ rfl)
  simp only [World.setCells] at HAN
  go_wp2_with fail
  clear r0 r1 r2 r3 r4 r5 z0 z1 z2 z3 z4 z5
  generalize World.setCell _ _ _ = w9 at HAN ⊢
  obtain ⟨k0, k1, k2, k3, k4, k5, k6⟩ := HAN.out
  refine bodyPost_ret (v := .tuple #[.agg #[.string ⟨#[]⟩, .string ⟨#[]⟩, .slice none 0 0, .string ⟨#[]⟩, .string ⟨#[]⟩, .int .i64 0], .bool false]) ?_ rfl ?_
  ·simp [results, Tryz.results100, go_sem, k0, k1, k2, k3, k4, k5]
  ·refine ⟨⟨⟨⟨#[]⟩, ⟨#[]⟩, [], ⟨#[]⟩, ⟨#[]⟩, 0⟩, none, 0⟩, ?_, .inl ⟨rfl, rfl⟩, fun _ => ?_, ?_, ?_⟩
   ·rw [HH.out]; rfl
   ·refine ⟨by decide, by decide, by decide, by decide, fun p hp => (by cases hp), by decide, by decide⟩
   ·rw [HH.out]; intro e; cases e
   ·exact HB.out.grown k6 HB.out.size (fun j hj => by injection hj with hj; omega)
 ·have HH := Lib.hid hh
  have HE := Lib.hid he
  have HN := Lib.hid hn
  have HP := Lib.hid (HD.out.par n hn)
  have HM := Lib.hid (HD.out.node hn).1
  have HB2 := Lib.hid (below_new w1 (.cells #[.string n.x.ev.id, .string n.x.ev.room, .slice n.x.A n.x.ev.parents.length n.x.cap, .string n.x.ev.thread, .string n.x.ev.user, .int .i64 n.x.ev.does, .int .i64 (n.d : Int)] 161))
  have HW2 := Lib.hid (heap_alloc_new w1 (.cells #[.string n.x.ev.id, .string n.x.ev.room, .slice n.x.A n.x.ev.parents.length n.x.cap, .string n.x.ev.thread, .string n.x.ev.user, .int .i64 n.x.ev.does, .int .i64 (n.d : Int)] 161))
  unfold NdV.val EvV.pv at hr
  clear hk hh hn he HD
  go_upto_region 2 with (fail)
  clear c1 hr r0 r1 r2 r3 r4 r5
  generalize w1.alloc _ = w2 at HB2 HW2 ⊢
  replace HW := Lib.hid ((HB2.out.block B (smem_lt HW.out)).trans HW.out)
  replace HB := Lib.hid (HB.out.trans (HB2.out.mono HB.out.size))
  replace HP := Lib.hid (HP.out.below HB2.out)
  have HO := Lib.hid (own_any n.x w2 HP.out.slice HM.out)
  clear HB2
  generalize w1.heap.size = B6 at HW2 ⊢
  have s0 : w2.cell? ⟨B6, 0, none⟩ = some (.string n.x.ev.id) := cell_at HW2.out 0
  have s1 : w2.cell? ⟨B6, 1, none⟩ = some (.string n.x.ev.room) := cell_at HW2.out 1
  have s2 : w2.cell? ⟨B6, 2, none⟩ = some (.slice n.x.A n.x.ev.parents.length n.x.cap) := cell_at HW2.out 2
  have s3 : w2.cell? ⟨B6, 3, none⟩ = some (.string n.x.ev.thread) := cell_at HW2.out 3
  have s4 : w2.cell? ⟨B6, 4, none⟩ = some (.string n.x.ev.user) := cell_at HW2.out 4
  have s5 : w2.cell? ⟨B6, 5, none⟩ = some (.int .i64 n.x.ev.does) := cell_at HW2.out 5
  have s6 : w2.cell? ⟨B6, 6, none⟩ = some (.int .i64 (n.d : Int)) := cell_at HW2.out 6
  unfold EvV.val EvV.pv at HO
  go_wp2_with fail
  go_at_call 79
  refine HO.out.mono ?_
  rintro e w3 ⟨y, rfl, hy, hm, b3⟩
  have HY := Lib.hid hy
  clear hy
  replace HW := Lib.hid ((b3.block B (smem_lt HW.out)).trans HW.out)
  have hw2 : w.heap.size ≤ w2.heap.size := HB.out.size
  replace HB := Lib.hid (HB.out.trans (b3.mono HB.out.size))
  have HMY := Lib.hid (show LT.Mine w3 w.heap.size y.pv y.ev.parents from hm.mono hw2)
  clear hm b3 HO s0 s1 s2 s3 s4 s5 s6 HP
  have r0 : w3.cell? ⟨B, 0, none⟩ = some (.string ⟨#[]⟩) := cell_at HW.out 0
  have r1 : w3.cell? ⟨B, 1, none⟩ = some (.string ⟨#[]⟩) := cell_at HW.out 1
  have r2 : w3.cell? ⟨B, 2, none⟩ = some (.slice none 0 0) := cell_at HW.out 2
  have r3 : w3.cell? ⟨B, 3, none⟩ = some (.string ⟨#[]⟩) := cell_at HW.out 3
  have r4 : w3.cell? ⟨B, 4, none⟩ = some (.string ⟨#[]⟩) := cell_at HW.out 4
  have r5 : w3.cell? ⟨B, 5, none⟩ = some (.int .i64 0) := cell_at HW.out 5
  have z0 : w3.frozen? ⟨B, 0, none⟩ = false := free_at HW.out 0
  have z1 : w3.frozen? ⟨B, 1, none⟩ = false := free_at HW.out 1
  have z2 : w3.frozen? ⟨B, 2, none⟩ = false := free_at HW.out 2
  have z3 : w3.frozen? ⟨B, 3, none⟩ = false := free_at HW.out 3
  have z4 : w3.frozen? ⟨B, 4, none⟩ = false := free_at HW.out 4
  have z5 : w3.frozen? ⟨B, 5, none⟩ = false := free_at HW.out 5
  have HAN := Lib.hid (ev_stored HW.out (.string y.ev.id) (.string y.ev.room) (.slice y.A y.ev.parents.length y.cap) (.string y.ev.thread) (.string y.ev.user) (.int .i64 y.ev.does) rfl _ rfl)
  simp only [World.setCells] at HAN
  have HNE := Lib.hid (mine_ne HMY.out HW.out (by decide))
  go_wp2_with fail
  clear r0 r1 r2 r3 r4 r5 z0 z1 z2 z3 z4 z5
  generalize World.setCell _ _ _ = w9 at HAN ⊢
  obtain ⟨k0, k1, k2, k3, k4, k5, k6⟩ := HAN.out
  refine bodyPost_ret (v := .tuple #[.agg #[.string y.ev.id, .string y.ev.room, .slice y.A y.ev.parents.length y.cap, .string y.ev.thread, .string y.ev.user, .int .i64 y.ev.does], .bool true]) ?_ rfl ?_
  ·simp [results, Tryz.results100, go_sem, k0, k1, k2, k3, k4, k5]
  ·refine ⟨y, ?_, HMY.out.grown k6 (fun j hj e => by injection e with e; exact HNE.out j hj e), ?_, fun _ => ⟨?_, ?_⟩, ?_⟩
   ·rw [HH.out]; rfl
   ·rw [HH.out]; intro e; cases e
   ·rw [HY.out]; exact List.mem_map.2 ⟨n, HN.out, rfl⟩
   ·rw [HY.out]; exact HE.out
   ·exact HB.out.grown k6 HB.out.size (fun j hj => by injection hj with hj; omega)
set_option maxHeartbeats 1600000 in
theorem position_code (h : DgS w g room mb ns D) (k : ByteArray) (hk : k.size ≤ maxLen) : Calls Tryz.prog 57 #[.pointer (some ⟨g, 0, none⟩), .string k] w fun e w' => ∃ q : Po, e = .returned (.tuple #[.agg #[.int .i64 q.depth, .string q.id], .bool (hasE (nevs ns) k)]) ∧ (hasE (nevs ns) k = true → ∃ n ∈ ns, n.x.ev.id = k ∧ q = ⟨(n.d : Int), k⟩) ∧ (hasE (nevs ns) k = false → q = ⟨0, ⟨#[]⟩⟩) ∧ Below w.heap.size w w' := by
 have HW := Lib.hid (heap_alloc_new w (.cells #[.int .i64 0, .string ⟨#[]⟩] 83))
 have HB := Lib.hid (below_new w (.cells #[.int .i64 0, .string ⟨#[]⟩] 83))
 have HD := Lib.hid (h.below HB.out)
 clear h
 go_enter Tryz.func57, Tryz.ntmps57
 go_upto_region 1 with (fail)
 generalize w.alloc _ = w1 at HW HB HD ⊢
 generalize hB : w.heap.size = B at HW ⊢
 have c1 := HD.out.c1
 rcases HD.out.look k hk true with ⟨hh, hr⟩ | ⟨hh, n, hn, he, hr⟩
 ·have HH := Lib.hid hh
  have HB2 := Lib.hid (below_new w1 (.cells #[.string ⟨#[]⟩, .string ⟨#[]⟩, .slice none 0 0, .string ⟨#[]⟩, .string ⟨#[]⟩, .int .i64 0, .int .i64 0] 161))
  unfold zeroN at hr
  clear hk hh HD
  go_upto_region 2 with (fail)
  clear c1 hr
  generalize w1.alloc _ = w2 at HB2 ⊢
  replace HW := Lib.hid ((HB2.out.block B (smem_lt HW.out)).trans HW.out)
  replace HB := Lib.hid (HB.out.trans (HB2.out.mono HB.out.size))
  have r0 : w2.cell? ⟨B, 0, none⟩ = some (.int .i64 0) := cell_at HW.out 0
  have r1 : w2.cell? ⟨B, 1, none⟩ = some (.string ⟨#[]⟩) := cell_at HW.out 1
  have z0 : w2.frozen? ⟨B, 0, none⟩ = false := free_at HW.out 0
  have z1 : w2.frozen? ⟨B, 1, none⟩ = false := free_at HW.out 1
  have HAN := Lib.hid (po_stored HW.out (.int .i64 0) (.string ⟨#[]⟩) rfl _ rfl)
  simp only [World.setCells] at HAN
  go_wp2_with fail
  clear r0 r1 z0 z1
  generalize World.setCell _ _ _ = w9 at HAN ⊢
  obtain ⟨k0, k1, k6⟩ := HAN.out
  refine bodyPost_ret (v := .tuple #[.agg #[.int .i64 0, .string ⟨#[]⟩], .bool false]) ?_ rfl ?_
  ·simp [results, Tryz.results57, go_sem, k0, k1]
  ·refine ⟨⟨0, ⟨#[]⟩⟩, ?_, ?_, fun _ => rfl, ?_⟩
   ·rw [HH.out]
   ·rw [HH.out]; intro e; cases e
   ·exact HB.out.grown k6 HB.out.size (fun j hj => by injection hj with hj; omega)
 ·have HH := Lib.hid hh
  have HE := Lib.hid he
  have HN := Lib.hid hn
  have HC := Lib.hid (fun W => clone_any n.x.ev.id W (by have := (may_short (HD.out.node hn).1).1; omega))
  have HB2 := Lib.hid (below_new w1 (.cells #[.string n.x.ev.id, .string n.x.ev.room, .slice n.x.A n.x.ev.parents.length n.x.cap, .string n.x.ev.thread, .string n.x.ev.user, .int .i64 n.x.ev.does, .int .i64 (n.d : Int)] 161))
  have HW2 := Lib.hid (heap_alloc_new w1 (.cells #[.string n.x.ev.id, .string n.x.ev.room, .slice n.x.A n.x.ev.parents.length n.x.cap, .string n.x.ev.thread, .string n.x.ev.user, .int .i64 n.x.ev.does, .int .i64 (n.d : Int)] 161))
  unfold NdV.val EvV.pv at hr
  clear hk hh hn he HD
  go_upto_region 2 with (fail)
  clear c1 hr
  generalize w1.alloc _ = w2 at HB2 HW2 ⊢
  replace HW := Lib.hid ((HB2.out.block B (smem_lt HW.out)).trans HW.out)
  replace HB := Lib.hid (HB.out.trans (HB2.out.mono HB.out.size))
  clear HB2
  generalize w1.heap.size = B6 at HW2 ⊢
  go_upto_region 4 with (fail)
  refine wp_region_held_drew (S := fun w' => Below w.heap.size w w' ∧ w'.heap[B6]? = some (.cells #[.string n.x.ev.id, .string n.x.ev.room, .slice n.x.A n.x.ev.parents.length n.x.cap, .string n.x.ev.thread, .string n.x.ev.user, .int .i64 n.x.ev.does, .int .i64 (n.d : Int)] 161 (0, 0))) (by kernel_rfl) ⟨HB.out.drew, HW2.out⟩ (fun hHeld => ?_)
  have hres : w2.drew.heap[B]? = _ := HW.out
  have hne : B ≠ B6 := fun e => by
   have h1 := HW.out
   rw [e, HW2.out] at h1
   injection h1 with h1
   injection h1 with _ h1
   exact absurd h1 (by decide)
  clear HB HW HW2
  generalize w2.drew = wd at hHeld hres ⊢
  refine wpAnyH_take (i := 0) (oi := ⟨some 20, _, _, _, _, _⟩) (v := ?vq0) rfl (by kernel_rfl) (by kernel_rfl) (by kernel_rfl) (fun _ _ _ h => h) (Or.inl ⟨by rfl, ?yq0⟩) hHeld ?rq0
  case yq0 =>
   intro wx hSx
   go_simp
   try with_reducible rfl
  try simp only [actS]
  refine wpAnyH_take (i := 2) (oi := ⟨some 22, _, _, _, _, _⟩) (v := ?vq2) rfl (by kernel_rfl) (by kernel_rfl) (by kernel_rfl) (fun _ _ _ h => h) (Or.inl ⟨by rfl, ?yq2⟩) hHeld ?rq2
  case yq2 =>
   intro wx hSx
   go_simp
   try with_reducible rfl
  try simp only [actS]
  refine wpAnyH_take (i := 3) (oi := ⟨some 23, _, _, _, _, _⟩) (v := ?vq3) rfl (by kernel_rfl) (by kernel_rfl) (by kernel_rfl) (fun _ _ _ h => h) (Or.inl ⟨by rfl, ?yq3⟩) hHeld ?rq3
  case yq3 =>
   intro wx hSx
   go_simp
   try with_reducible rfl
  try simp only [actS]
  refine wpAnyH_take (i := 1) (oi := ⟨some 21, _, _, _, _, _⟩) (v := ?vq1) rfl (by kernel_rfl) (by kernel_rfl) (by kernel_rfl) (fun _ _ _ h => h) (Or.inl ⟨by rfl, ?yq1⟩) hHeld ?rq1
  case yq1 =>
   intro wx hSx
   have z := cell_at hSx.2 6
   simp only [List.getElem?_toArray, List.getElem?_cons_succ, List.getElem?_cons_zero] at z
   go_simp
   try with_reducible rfl
  try simp only [actS]
  refine wpAnyH_take (i := 4) (oi := ⟨some 24, _, _, _, _, _⟩) (v := ?vq4) rfl (by kernel_rfl) (by kernel_rfl) (by kernel_rfl) (fun _ _ _ h => h) (Or.inl ⟨by rfl, ?yq4⟩) hHeld ?rq4
  case yq4 =>
   intro wx hSx
   have z := cell_at hSx.2 0
   simp only [List.getElem?_toArray, List.getElem?_cons_succ, List.getElem?_cons_zero] at z
   go_simp
   try with_reducible rfl
  try simp only [actS]
  refine wpAnyH_ready (rs := [5]) (by kernel_rfl) (by simp) ?_
  refine AllReadyH.cons (o := ⟨some 25, _, _, _, _, _⟩) rfl (fun K hK => ?_) AllReadyH.nil
  go_simp
  refine (HC.out _).mono ?_
  rintro e wn ⟨rfl, hbn⟩
  replace hres := (hbn.block B (smem_lt hres)).trans hres
  refine hK.out _ _ ⟨hHeld.1.trans (hbn.mono hHeld.1.size), (hbn.block B6 (smem_lt hHeld.2)).trans hHeld.2⟩ (fun hHeld => ?_)
  clear hK K hbn
  try simp only [actS]
  refine wpAnyH_take (i := 6) (oi := ⟨some 26, _, _, _, _, _⟩) (v := ?vq6) rfl (by kernel_rfl) (by kernel_rfl) (by kernel_rfl) (fun _ _ _ h => h) (Or.inl ⟨by rfl, ?yq6⟩) hHeld ?rq6
  case yq6 =>
   intro wx hSx
   go_simp
   try with_reducible rfl
  try simp only [actS]
  refine wpAnyH_ready (rs := [7]) (by kernel_rfl) (by simp) ?_
  refine AllReadyH.cons (o := ⟨none, _, _, _, _, _⟩) rfl (fun K hK => ?_) AllReadyH.nil
  have r0 : wn.cell? ⟨B, 0, none⟩ = some (.int .i64 0) := cell_at hres 0
  have r1 : wn.cell? ⟨B, 1, none⟩ = some (.string ⟨#[]⟩) := cell_at hres 1
  have z0 : wn.frozen? ⟨B, 0, none⟩ = false := free_at hres 0
  have z1 : wn.frozen? ⟨B, 1, none⟩ = false := free_at hres 1
  have HAN := po_stored hres (.int .i64 (n.d : Int)) (.string n.x.ev.id) rfl _ rfl
  simp only [World.setCells] at HAN
  go_simp
  generalize World.setCell _ _ _ = w9 at HAN ⊢
  obtain ⟨k0, k1, k6⟩ := HAN
  have hN9 : Below w.heap.size w w9 ∧ w9.heap[B6]? = some (.cells #[.string n.x.ev.id, .string n.x.ev.room, .slice n.x.A n.x.ev.parents.length n.x.cap, .string n.x.ev.thread, .string n.x.ev.user, .int .i64 n.x.ev.does, .int .i64 (n.d : Int)] 161 (0, 0)) := ⟨hHeld.1.grown k6 hHeld.1.size (fun j hj => by injection hj with hj; omega), (k6.block B6 (smem_lt hHeld.2) (fun e => hne (by injection e with e; exact e.symm))).trans hHeld.2⟩
  refine hK.out _ _ hN9 (fun hHeld => ?_)
  clear hK K r0 r1 z0 z1 hres
  try simp only [actS]
  refine wpAnyH_take (i := 8) (oi := ⟨some 5, _, _, _, _, _⟩) (v := ?vq8) rfl (by kernel_rfl) (by kernel_rfl) (by kernel_rfl) (fun _ _ _ h => h) (Or.inl ⟨by rfl, ?yq8⟩) hHeld ?rq8
  case yq8 =>
   intro wx hSx
   go_simp
   try with_reducible rfl
  try simp only [actS]
  refine wpAnyH_done (by kernel_rfl) ?_ _
  go_wp2_with fail
  refine bodyPost_ret (v := .tuple #[.agg #[.int .i64 (n.d : Int), .string n.x.ev.id], .bool true]) ?_ rfl ?_
  ·simp [results, Tryz.results57, go_sem, k0, k1]
  ·refine ⟨⟨(n.d : Int), n.x.ev.id⟩, ?_, fun _ => ⟨n, HN.out, HE.out, by rw [HE.out]⟩, (by rw [HH.out]; intro e; cases e), hHeld.1⟩
   rw [HH.out]
end
end Go.Proofs.YtnnapkakbdpkaaaGreat
