/-
  Of; build and the example of stage 8's statements.
-/
import Derived.Test.YtfbfdkibdjinaaaGreatDoorI8B
import Derived.Test.YtfbfdkibdjinaaaGreatDoorC5
import Derived.Test.YtfbfdkibdjinaaaGreatDoorI8C
import Derived.Test.YtfbfdkibdjinaaaGreatDoorDagMade
import Derived.Deep.CutBlock
import Derived.Test.YtfbfdkibdjinaaaGreatDoorB5
namespace Go.Proofs.YtfbfdkibdjinaaaGreatDoor
set_option maxRecDepth 20000
open Go.RowKit Go.Maps Go.ChangeMaps
set_option linter.unusedVariables false
set_option linter.unusedSimpArgs false

/-- While an index is made: its rows are new since w2. -/
structure OfS (w2 wr : World) (g : Nat) (vr vp : Value) (ts : List ByteArray) (ps : List EvV) : Prop where
  hd : wr.heap[g]? = some (IxB vr vp 0 0 (.map none))
  row : LT.Mine wr w2.heap.size vr ts
  pars : LS.Mine wr w2.heap.size vp ps
  trn : TurnP (fun k => k = g) w2 wr
  lo : g < w2.heap.size
theorem ixb_set0 {w : World} {g : Nat} {row par m : Value} {d st : Int} (h : w.heap[g]? = some (IxB row par d st m)) (x : Value) : (w.setCell ⟨g, 0, none⟩ x).heap[g]? = some (IxB x par d st m) := by
  obtain ⟨cur, z1, z2, z3⟩ := sm_at g 73 [x] 0 w _ h (by show 1 ≤ 6; omega)
  have z5 : cur = #[x, par, .int .u32 d, .int .i32 st, .int .u32 0, m] := Array.toList_inj.1 z3
  rw [z5] at z1
  exact z1
section
variable {w2 wr w' : World} {g : Nat} {vr vp v' : Value} {ts ts' : List ByteArray} {ps ps' : List EvV}
theorem OfS.later (h : OfS w2 wr g vr vp ts ps) (hb : Below wr.heap.size wr w') : OfS w2 w' g vr vp ts ps :=
  ⟨(hb.block g (smem_lt h.hd)).trans h.hd, h.row.below hb, h.pars.below hb, h.trn.trans (TurnP.of_below (P := fun _ => False) hb) (fun k hk => hk.elim), h.lo⟩
theorem grown_turn {P : Nat → Prop} {w w1 w' : World} {o : Option Nat} (h : TurnP P w w1) (hg : w1.grownBy w' o) (hn : ∀ k, o = some k → w.heap.size ≤ k) : TurnP P w w' :=
  ⟨hg.os.trans h.os, hg.tape.trans h.tape, hg.output.trans h.output, Nat.le_trans h.size hg.size, fun k hk hp => (hg.block k (Nat.lt_of_lt_of_le hk h.size) (fun e => by have := hn k e.symm; omega)).trans (h.block k hk hp)⟩
theorem OfS.rowPut (h : OfS w2 wr g vr vp ts ps) (hm : LT.Mine w' w2.heap.size v' ts') (hg : wr.grownBy w' vr.ownBlock) : OfS w2 (w'.setCell ⟨g, 0, none⟩ v') g v' vp ts' ps := by
  have hd : w'.heap[g]? = some (IxB vr vp 0 0 (.map none)) := (hg.block g (smem_lt h.hd) (fun e => by have := (h.row.lt g e.symm).1; have := h.lo; omega)).trans h.hd
  have hs := sm_grown w' g 0 [v']
  have hp : LS.Mine w' w2.heap.size vp ps := h.pars.grown hg (fun k hk => h.pars.apart h.row (by decide) k hk)
  have hlo := h.lo
  exact ⟨ixb_set0 hd v', hm.grown hs (fun k hk e => by injection e with e; have := (hm.lt k hk).1; omega), hp.grown hs (fun k hk e => by injection e with e; have := (hp.lt k hk).1; omega), (grown_turn h.trn hg (fun k hk => (h.row.lt k hk).1)).cell rfl, h.lo⟩
theorem OfS.parPut (h : OfS w2 wr g vr vp ts ps) (hm : LS.Mine w' w2.heap.size v' ps') (hg : wr.grownBy w' vp.ownBlock) : OfS w2 (w'.setCell ⟨g, 1, none⟩ v') g vr v' ts ps' := by
  have hd : w'.heap[g]? = some (IxB vr vp 0 0 (.map none)) := (hg.block g (smem_lt h.hd) (fun e => by have := (h.pars.lt g e.symm).1; have := h.lo; omega)).trans h.hd
  have hs := sm_grown w' g 1 [v']
  have hp : LT.Mine w' w2.heap.size vr ts := h.row.grown hg (fun k hk => h.row.apart h.pars (by decide) k hk)
  have hlo := h.lo
  exact ⟨ixb_set1 hd v', hp.grown hs (fun k hk e => by injection e with e; have := (hp.lt k hk).1; omega), hm.grown hs (fun k hk e => by injection e with e; have := (hm.lt k hk).1; omega), (grown_turn h.trn hg (fun k hk => (h.pars.lt k hk).1)).cell rfl, h.lo⟩
end

set_option maxHeartbeats 3200000 in
theorem of_any (C : Dags) (CA : DagAlls C) {room : ByteArray} {l : List Ev} {gd : Nat} (w : World) (h : C.CD w gd room l) (hl : l.length ≤ 9) :
    Calls Tryz.prog 9 #[.pointer (some ⟨gd, 0, none⟩)] w fun e w' => ∃ g P, e = .returned (.pointer (some ⟨g, 0, none⟩)) ∧ CX w' g l P ∧ (∀ k, P k → w.heap.size ≤ k ∧ ¬ C.own w' gd k) ∧ C.CD w' gd room l ∧ TurnD C.own w w' gd := by
  have HC := Lib.hid h
  have HBN := Lib.hid (below_new w (.cells #[.slice none 0 0, .slice none 0 0, .int .u32 0, .int .i32 0, .int .u32 0, .map none] 73))
  have HBX := Lib.hid (heap_alloc_new w (.cells #[.slice none 0 0, .slice none 0 0, .int .u32 0, .int .i32 0, .int .u32 0, .map none] 73))
  clear h
  go_enter Tryz.func9, Tryz.ntmps9
  go_upto_region 2 with (fail)
  generalize w.alloc _ = w1 at HBN HBX ⊢
  generalize hgg : w.heap.size = g at HBX ⊢
  have HG := Lib.hid ((C.keep HC.out HBN.out.size (fun k hk => HBN.out.block k (C.old HC.out hk))))
  have HALL := Lib.hid (CA.all HG.out.1 (by omega))
  go_wp2_with fail
  go_at_call 29
  refine HALL.out.mono ?_
  rintro e w2 ⟨v, rfl, ys, hma, hta, hys, heq, hc2, ht2⟩
  have hgo : ¬ C.own w1 gd g := fun ho => by have := C.old HC.out (HG.out.2 g ho); omega
  have HX2 := Lib.hid ((ht2.block g (smem_lt HBX.out) hgo).trans HBX.out)
  have hyl : ys.length ≤ 9 := by rw [← evs_len, heq, allL_len]; exact hl
  obtain ⟨A0, c0, rfl, -⟩ := id hma.slice
  have hc0 : c0 ≤ 9223372036854775807 := by
    obtain ⟨_, _, he, h5, hm, -⟩ := hma.shape
    injection he with _ he2 he3
    unfold maxLen at hm
    omega
  have HO : Hid (OfS w2 w2 g (.slice none 0 0) (.slice none 0 0) [] []) := Lib.hid ⟨HX2.out, .nil _ _, .nil _ _, .refl, smem_lt HX2.out⟩
  have HMA := Lib.hid hma
  have HYS := Lib.hid hys
  have HEQ := Lib.hid heq
  have HC2 := Lib.hid hc2
  have HT2 := Lib.hid ht2
  have hs1 : g < w1.heap.size := smem_lt HBX.out
  have HGO := Lib.hid hgo
  have HTA := Lib.hid hta
  clear hma hta hys heq hc2 ht2 HALL HX2 hgo HBX
  go_wp2_with fail
  go_loopw [11] (fun i wr => ∃ a : Nat, i = .int .i64 (a : Int) ∧ a ≤ ys.length ∧ Hid (∃ vr vp, OfS w2 wr g vr vp ((evs (ys.take a)).map Ev.id) (ys.take a))) (fun i _ => ys.length - (intOf i).toNat)
  case atStart => exact ⟨0, rfl, Nat.zero_le _, Lib.hid ⟨_, _, HO.out⟩⟩
  case round =>
    obtain ⟨a, rfl, ha, HOA⟩ := hrel
    obtain ⟨vr, vp, hof⟩ := HOA.out
    obtain ⟨Ar, cr, hvr, -⟩ := id hof.row.slice
    obtain ⟨Ap, cp, hvp, -⟩ := id hof.pars.slice
    subst hvr
    subst hvp
    have HF := Lib.hid hof
    clear HOA hof HO
    by_cases hax : a < ys.length
    · have q1 : decide ((a : Int) < (ys.length : Int)) = true := decide_eq_true (by omega)
      have hy : ys[a]? = some ys[a] := List.getElem?_eq_getElem hax
      generalize ys[a] = y at hy
      have HTK : Hid (ys.take (a + 1) = ys.take a ++ [y]) := Lib.hid (by rw [List.take_add_one, hy]; rfl)
      obtain ⟨b, off, hA, hb, hr⟩ := HMA.out.slice.at hy
      subst hA
      have hix := index_any (P := Tryz.prog) knV (by decide) (b := b) (off := off) (cap := c0) hax
      simp only [LV] at hix
      have hbg : b ≠ g := by have := (HMA.out.lt b rfl).1; omega
      obtain ⟨e0, e1, e2, e3, e4, e5⟩ := ev_cells (w := wr) (fun j u hu => (World.cell?_of_block (a := ⟨b, off + a * 6 + j, none⟩) (HF.out.trn.block b hb hbg)).trans (hr j u hu))
      unfold EvV.pv at e2
      have hbn := below_new wr (.cells #[.string y.ev.id, .string y.ev.room, .slice y.A y.ev.parents.length y.cap, .string y.ev.thread, .string y.ev.user, .int .i64 y.ev.does] 45)
      have HF1 := Lib.hid (HF.out.later hbn)
      have HE := Lib.hid (heap_alloc_new wr (.cells #[.string y.ev.id, .string y.ev.room, .slice y.A y.ev.parents.length y.cap, .string y.ev.thread, .string y.ev.user, .int .i64 y.ev.does] 45))
      have hlt : (evs (ys.take a)).length ≤ 9 := by rw [evs_len, List.length_take]; omega
      have hlp : (ys.take a).length ≤ 9 := by rw [List.length_take]; omega
      generalize hts : (evs (ys.take a)).map Ev.id = ts at HF1
      have hlt2 : ts.length ≤ 9 := by rw [← hts, List.length_map]; exact hlt
      generalize ys.take a = ps at HF1 HTK hlp hts
      have HTS := Lib.hid hts
      clear hy hr hbn HF hts hlt
      go_upto_region 5 with (fail)
      generalize wr.alloc _ = w3 at HF1 HE ⊢
      generalize wr.heap.size = B5 at HE ⊢
      go_cut [3] from 12 to 37 (fun s3 wx => s3 = .pointer (some ⟨g, 0, none⟩) ∧ Hid (∃ A7 c7, OfS w2 wx g (.slice A7 (ts ++ [y.ev.id]).length c7) (.slice Ap ps.length cp) (ts ++ [y.ev.id]) ps) ∧ Hid (wx.heap[B5]? = some (.cells #[.string y.ev.id, .string y.ev.room, .slice y.A y.ev.parents.length y.cap, .string y.ev.thread, .string y.ev.user, .int .i64 y.ev.does] 45 (0, 0))))
      case first =>
        refine wp_region_held_drew (S := fun W => W.heap[B5]? = some (.cells #[.string y.ev.id, .string y.ev.room, .slice y.A y.ev.parents.length y.cap, .string y.ev.thread, .string y.ev.user, .int .i64 y.ev.does] 45 (0, 0))) (by kernel_rfl) HE.out (fun hHeld => ?_)
        have HF2 := Lib.hid (HF1.out.later (show Below w3.heap.size w3 w3.drew from (Below.refl _ _).drew))
        have HE2 := Lib.hid (show w3.drew.heap[B5]? = some (.cells #[.string y.ev.id, .string y.ev.room, .slice y.A y.ev.parents.length y.cap, .string y.ev.thread, .string y.ev.user, .int .i64 y.ev.does] 45 (0, 0)) from HE.out)
        generalize w3.drew = wd at HF2 HE2 hHeld ⊢
        clear HF1 HE
        refine wpAnyH_take (i := 0) (oi := ⟨some 15, _, _, _, _, _⟩) (v := ?va0) rfl (by kernel_rfl) (by kernel_rfl) (by kernel_rfl) (fun _ _ _ h => h) (Or.inl ⟨by rfl, ?ya0⟩) hHeld ?ra0
        case ya0 =>
          intro wx hSx
          go_simp
          try with_reducible rfl
        try simp only [Act.put, List.setIfInBounds_toArray, List.set_cons_zero, List.set_cons_succ]
        refine wpAnyH_take (i := 1) (oi := ⟨some 16, _, _, _, _, _⟩) (v := ?va1) rfl (by kernel_rfl) (by kernel_rfl) (by kernel_rfl) (fun _ _ _ h => h) (Or.inl ⟨by rfl, ?ya1⟩) hHeld ?ra1
        case ya1 =>
          intro wx hSx
          go_simp
          try with_reducible rfl
        try simp only [Act.put, List.setIfInBounds_toArray, List.set_cons_zero, List.set_cons_succ]
        refine wpAnyH_take (i := 2) (oi := ⟨some 17, _, _, _, _, _⟩) (v := ?va2) rfl (by kernel_rfl) (by kernel_rfl) (by kernel_rfl) (fun _ _ _ h => h) (Or.inl ⟨by rfl, ?ya2⟩) hHeld ?ra2
        case ya2 =>
          intro wx hSx
          go_simp
          try with_reducible rfl
        try simp only [Act.put, List.setIfInBounds_toArray, List.set_cons_zero, List.set_cons_succ]
        refine wpAnyH_take (i := 3) (oi := ⟨some 18, _, _, _, _, _⟩) (v := ?va3) rfl (by kernel_rfl) (by kernel_rfl) (by kernel_rfl) (fun _ _ _ h => h) (Or.inl ⟨by rfl, ?ya3⟩) hHeld ?ra3
        case ya3 =>
          intro wx hSx
          go_simp
          try with_reducible rfl
        try simp only [Act.put, List.setIfInBounds_toArray, List.set_cons_zero, List.set_cons_succ]
        refine wpAnyH_take (i := 5) (oi := ⟨some 20, _, _, _, _, _⟩) (v := ?va5) rfl (by kernel_rfl) (by kernel_rfl) (by kernel_rfl) (fun _ _ _ h => h) (Or.inl ⟨by rfl, ?ya5⟩) hHeld ?ra5
        case ya5 =>
          intro wx hSx
          go_simp
          try with_reducible rfl
        try simp only [Act.put, List.setIfInBounds_toArray, List.set_cons_zero, List.set_cons_succ]
        refine wpAnyH_take (i := 6) (oi := ⟨some 21, _, _, _, _, _⟩) (v := ?va6) rfl (by kernel_rfl) (by kernel_rfl) (by kernel_rfl) (fun _ _ _ h => h) (Or.inl ⟨by rfl, ?ya6⟩) hHeld ?ra6
        case ya6 =>
          intro wx hSx
          have p0 := cell_at hSx 0
          have p1 := cell_at hSx 1
          have p2 := cell_at hSx 2
          have p3 := cell_at hSx 3
          have p4 := cell_at hSx 4
          have p5 := cell_at hSx 5
          simp only [List.getElem?_toArray, List.getElem?_cons_succ, List.getElem?_cons_zero] at p0 p1 p2 p3 p4 p5
          go_simp
          try with_reducible rfl
        try simp only [Act.put, List.setIfInBounds_toArray, List.set_cons_zero, List.set_cons_succ]
        refine wpAnyH_ready (rs := [4, 7]) (by kernel_rfl) (by simp) ?_
        refine AllReadyH.cons (o := ⟨some 19, _, _, _, _, _⟩) rfl (fun K hK => ?wayaA) (AllReadyH.cons (o := ⟨some 22, _, _, _, _, _⟩) rfl (fun K hK => ?wayaB) AllReadyH.nil)
        case wayaA =>
          have n0 := cell_at HF2.out.hd 0
          simp only [List.getElem?_toArray, List.getElem?_cons_succ, List.getElem?_cons_zero] at n0
          go_simp
          refine hK.out _ _ HE2.out (fun hHeld => ?_)
          clear hK K n0
          try simp only [Act.put, List.setIfInBounds_toArray, List.set_cons_zero, List.set_cons_succ]
          refine wpAnyH_ready (rs := [7]) (by kernel_rfl) (by simp) ?_
          refine AllReadyH.cons (o := ⟨some 22, _, _, _, _, _⟩) rfl (fun K hK => ?_) AllReadyH.nil
          have hb6 := below_new wd (.cells #[.string y.ev.id] 9)
          have H6 := Lib.hid (HF2.out.later hb6)
          have E6 := Lib.hid ((hb6.block B5 (smem_lt HE2.out)).trans HE2.out)
          have S6 := Lib.hid (show LT.Slice (wd.alloc (.cells #[.string y.ev.id] 9)) (.slice (some ⟨wd.heap.size, 0, none⟩) 1 1) [y.ev.id] from lit_slice (L := LT) wd y.ev.id wd.heap.size rfl #[.string y.ev.id] rfl)
          go_simp
          generalize wd.alloc _ = w6 at H6 E6 S6 ⊢
          generalize wd.heap.size = B6 at S6 ⊢
          refine hK.out _ _ E6.out (fun hHeld => ?_)
          clear hK K hb6 HF2 HE2
          try simp only [Act.put, List.setIfInBounds_toArray, List.set_cons_zero, List.set_cons_succ]
          refine wpAnyH_ready (rs := [8]) (by kernel_rfl) (by simp) ?_
          refine AllReadyH.cons (o := ⟨some 23, _, _, _, _, _⟩) rfl (fun K hK => ?_) AllReadyH.nil
          rw [if_pos (by rfl)]
          refine wp_puts knT (.tmp 19) (.tmp 22) 39 rfl rfl H6.out.row H6.out.trn.size _ [y.ev.id] 1 rfl rfl (S6.out.srcN knT rfl) (by omega) ?_
          intro A9 c9 w7 m7 g7 o7
          have E7 := Lib.hid ((g7.block B5 (smem_lt E6.out) (fun e => mine_neL H6.out.row E6.out (by decide) B5 e.symm rfl)).trans E6.out)
          have D7 := Lib.hid ((g7.block g (smem_lt H6.out.hd) (fun e => mine_neL H6.out.row H6.out.hd (by decide) g e.symm rfl)).trans H6.out.hd)
          have H8 := Lib.hid (H6.out.rowPut m7 g7)
          refine hK.out _ _ E7.out (fun hHeld => ?_)
          clear hK K m7 g7 o7 H6 E6 S6
          try simp only [Act.put, List.setIfInBounds_toArray, List.set_cons_zero, List.set_cons_succ]
          refine wpAnyH_take (i := 9) (oi := ⟨some 24, _, _, _, _, _⟩) (v := ?vax9) rfl (by kernel_rfl) (by kernel_rfl) (by kernel_rfl) (fun _ _ _ h => h) (Or.inl ⟨by rfl, ?yax9⟩) hHeld ?rax9
          case yax9 =>
            intro wx hSx
            go_simp
            try with_reducible rfl
          try simp only [Act.put, List.setIfInBounds_toArray, List.set_cons_zero, List.set_cons_succ]
          refine wpAnyH_take (i := 10) (oi := ⟨some 25, _, _, _, _, _⟩) (v := ?vax10) rfl (by kernel_rfl) (by kernel_rfl) (by kernel_rfl) (fun _ _ _ h => h) (Or.inl ⟨by rfl, ?yax10⟩) hHeld ?rax10
          case yax10 =>
            intro wx hSx
            go_simp
            try with_reducible rfl
          try simp only [Act.put, List.setIfInBounds_toArray, List.set_cons_zero, List.set_cons_succ]
          refine wpAnyH_ready (rs := [11]) (by kernel_rfl) (by simp) ?_
          refine AllReadyH.cons (o := ⟨none, _, _, _, _, _⟩) rfl (fun K hK => ?_) AllReadyH.nil
          have c0 := cell_at D7.out 0
          have f0 : w7.frozen? ⟨g, 0, none⟩ = false := free_at D7.out 0
          simp only [List.getElem?_toArray, List.getElem?_cons_succ, List.getElem?_cons_zero] at c0
          have E8 := Lib.hid (((sm_grown w7 g 0 [.slice A9 (ts.length + 1) c9]).block B5 (smem_lt E7.out) (fun e => by
            injection e with e
            have h9 := E7.out
            rw [e, D7.out] at h9
            cases h9)).trans E7.out)
          simp only [World.setCells] at E8
          go_simp
          generalize World.setCell _ _ _ = w8 at H8 E8 ⊢
          refine hK.out _ _ E8.out (fun hHeld => ?_)
          clear hK K c0 f0 E7 D7
          try simp only [Act.put, List.setIfInBounds_toArray, List.set_cons_zero, List.set_cons_succ]
          refine wpAnyH_done (by kernel_rfl) ?_ _
          go_wp2_with fail
          go_meet
          exact ⟨rfl, Lib.hid ⟨A9, c9, by rw [List.length_append]; exact H8.out⟩, E8⟩
        case wayaB =>
          have hb6 := below_new wd (.cells #[.string y.ev.id] 9)
          have H6 := Lib.hid (HF2.out.later hb6)
          have E6 := Lib.hid ((hb6.block B5 (smem_lt HE2.out)).trans HE2.out)
          have S6 := Lib.hid (show LT.Slice (wd.alloc (.cells #[.string y.ev.id] 9)) (.slice (some ⟨wd.heap.size, 0, none⟩) 1 1) [y.ev.id] from lit_slice (L := LT) wd y.ev.id wd.heap.size rfl #[.string y.ev.id] rfl)
          go_simp
          generalize wd.alloc _ = w6 at H6 E6 S6 ⊢
          generalize wd.heap.size = B6 at S6 ⊢
          refine hK.out _ _ E6.out (fun hHeld => ?_)
          clear hK K hb6 HF2 HE2
          try simp only [Act.put, List.setIfInBounds_toArray, List.set_cons_zero, List.set_cons_succ]
          refine wpAnyH_ready (rs := [4]) (by kernel_rfl) (by simp) ?_
          refine AllReadyH.cons (o := ⟨some 19, _, _, _, _, _⟩) rfl (fun K hK => ?_) AllReadyH.nil
          have n0 := cell_at H6.out.hd 0
          simp only [List.getElem?_toArray, List.getElem?_cons_succ, List.getElem?_cons_zero] at n0
          go_simp
          refine hK.out _ _ E6.out (fun hHeld => ?_)
          clear hK K n0
          try simp only [Act.put, List.setIfInBounds_toArray, List.set_cons_zero, List.set_cons_succ]
          refine wpAnyH_ready (rs := [8]) (by kernel_rfl) (by simp) ?_
          refine AllReadyH.cons (o := ⟨some 23, _, _, _, _, _⟩) rfl (fun K hK => ?_) AllReadyH.nil
          rw [if_pos (by rfl)]
          refine wp_puts knT (.tmp 19) (.tmp 22) 39 rfl rfl H6.out.row H6.out.trn.size _ [y.ev.id] 1 rfl rfl (S6.out.srcN knT rfl) (by omega) ?_
          intro A9 c9 w7 m7 g7 o7
          have E7 := Lib.hid ((g7.block B5 (smem_lt E6.out) (fun e => mine_neL H6.out.row E6.out (by decide) B5 e.symm rfl)).trans E6.out)
          have D7 := Lib.hid ((g7.block g (smem_lt H6.out.hd) (fun e => mine_neL H6.out.row H6.out.hd (by decide) g e.symm rfl)).trans H6.out.hd)
          have H8 := Lib.hid (H6.out.rowPut m7 g7)
          refine hK.out _ _ E7.out (fun hHeld => ?_)
          clear hK K m7 g7 o7 H6 E6 S6
          try simp only [Act.put, List.setIfInBounds_toArray, List.set_cons_zero, List.set_cons_succ]
          refine wpAnyH_take (i := 9) (oi := ⟨some 24, _, _, _, _, _⟩) (v := ?vay9) rfl (by kernel_rfl) (by kernel_rfl) (by kernel_rfl) (fun _ _ _ h => h) (Or.inl ⟨by rfl, ?yay9⟩) hHeld ?ray9
          case yay9 =>
            intro wx hSx
            go_simp
            try with_reducible rfl
          try simp only [Act.put, List.setIfInBounds_toArray, List.set_cons_zero, List.set_cons_succ]
          refine wpAnyH_take (i := 10) (oi := ⟨some 25, _, _, _, _, _⟩) (v := ?vay10) rfl (by kernel_rfl) (by kernel_rfl) (by kernel_rfl) (fun _ _ _ h => h) (Or.inl ⟨by rfl, ?yay10⟩) hHeld ?ray10
          case yay10 =>
            intro wx hSx
            go_simp
            try with_reducible rfl
          try simp only [Act.put, List.setIfInBounds_toArray, List.set_cons_zero, List.set_cons_succ]
          refine wpAnyH_ready (rs := [11]) (by kernel_rfl) (by simp) ?_
          refine AllReadyH.cons (o := ⟨none, _, _, _, _, _⟩) rfl (fun K hK => ?_) AllReadyH.nil
          have c0 := cell_at D7.out 0
          have f0 : w7.frozen? ⟨g, 0, none⟩ = false := free_at D7.out 0
          simp only [List.getElem?_toArray, List.getElem?_cons_succ, List.getElem?_cons_zero] at c0
          have E8 := Lib.hid (((sm_grown w7 g 0 [.slice A9 (ts.length + 1) c9]).block B5 (smem_lt E7.out) (fun e => by
            injection e with e
            have h9 := E7.out
            rw [e, D7.out] at h9
            cases h9)).trans E7.out)
          simp only [World.setCells] at E8
          go_simp
          generalize World.setCell _ _ _ = w8 at H8 E8 ⊢
          refine hK.out _ _ E8.out (fun hHeld => ?_)
          clear hK K c0 f0 E7 D7
          try simp only [Act.put, List.setIfInBounds_toArray, List.set_cons_zero, List.set_cons_succ]
          refine wpAnyH_done (by kernel_rfl) ?_ _
          go_wp2_with fail
          go_meet
          exact ⟨rfl, Lib.hid ⟨A9, c9, by rw [List.length_append]; exact H8.out⟩, E8⟩
      case rest =>
        obtain ⟨rfl, HF3, HE3⟩ := hcut
        obtain ⟨A7, c7, hf3⟩ := HF3.out
        have HF4 := Lib.hid hf3
        clear HF1 HE HF3 hf3
        generalize hts2 : ts ++ [y.ev.id] = ts2 at HF4
        have HTS2 := Lib.hid hts2
        clear hts2
        go_upto_region 6 with (fail)
        have HTQ : Hid ((evs (ys.take (a + 1))).map Ev.id = ts2) := Lib.hid (by
          rw [HTK.out, evs, List.map_append, List.map_append]
          show (evs ps).map Ev.id ++ [y.ev.id] = ts2
          rw [HTS.out, HTS2.out])
        refine wp_region_held_drew (S := fun W => W.heap[B5]? = some (.cells #[.string y.ev.id, .string y.ev.room, .slice y.A y.ev.parents.length y.cap, .string y.ev.thread, .string y.ev.user, .int .i64 y.ev.does] 45 (0, 0))) (by kernel_rfl) HE3.out (fun hHeld => ?_)
        have HF2 := Lib.hid (HF4.out.later (show Below wc.heap.size wc wc.drew from (Below.refl _ _).drew))
        have HE2 := Lib.hid (show wc.drew.heap[B5]? = some (.cells #[.string y.ev.id, .string y.ev.room, .slice y.A y.ev.parents.length y.cap, .string y.ev.thread, .string y.ev.user, .int .i64 y.ev.does] 45 (0, 0)) from HE3.out)
        generalize wc.drew = wd at HF2 HE2 hHeld ⊢
        clear HF4 HE3
        refine wpAnyH_take (i := 0) (oi := ⟨some 26, _, _, _, _, _⟩) (v := ?vb0) rfl (by kernel_rfl) (by kernel_rfl) (by kernel_rfl) (fun _ _ _ h => h) (Or.inl ⟨by rfl, ?yb0⟩) hHeld ?rb0
        case yb0 =>
          intro wx hSx
          go_simp
          try with_reducible rfl
        try simp only [Act.put, List.setIfInBounds_toArray, List.set_cons_zero, List.set_cons_succ]
        refine wpAnyH_take (i := 1) (oi := ⟨some 27, _, _, _, _, _⟩) (v := ?vb1) rfl (by kernel_rfl) (by kernel_rfl) (by kernel_rfl) (fun _ _ _ h => h) (Or.inl ⟨by rfl, ?yb1⟩) hHeld ?rb1
        case yb1 =>
          intro wx hSx
          go_simp
          try with_reducible rfl
        try simp only [Act.put, List.setIfInBounds_toArray, List.set_cons_zero, List.set_cons_succ]
        refine wpAnyH_take (i := 2) (oi := ⟨some 28, _, _, _, _, _⟩) (v := ?vb2) rfl (by kernel_rfl) (by kernel_rfl) (by kernel_rfl) (fun _ _ _ h => h) (Or.inl ⟨by rfl, ?yb2⟩) hHeld ?rb2
        case yb2 =>
          intro wx hSx
          go_simp
          try with_reducible rfl
        try simp only [Act.put, List.setIfInBounds_toArray, List.set_cons_zero, List.set_cons_succ]
        refine wpAnyH_take (i := 3) (oi := ⟨some 29, _, _, _, _, _⟩) (v := ?vb3) rfl (by kernel_rfl) (by kernel_rfl) (by kernel_rfl) (fun _ _ _ h => h) (Or.inl ⟨by rfl, ?yb3⟩) hHeld ?rb3
        case yb3 =>
          intro wx hSx
          go_simp
          try with_reducible rfl
        try simp only [Act.put, List.setIfInBounds_toArray, List.set_cons_zero, List.set_cons_succ]
        refine wpAnyH_take (i := 5) (oi := ⟨some 31, _, _, _, _, _⟩) (v := ?vb5) rfl (by kernel_rfl) (by kernel_rfl) (by kernel_rfl) (fun _ _ _ h => h) (Or.inl ⟨by rfl, ?yb5⟩) hHeld ?rb5
        case yb5 =>
          intro wx hSx
          go_simp
          try with_reducible rfl
        try simp only [Act.put, List.setIfInBounds_toArray, List.set_cons_zero, List.set_cons_succ]
        refine wpAnyH_take (i := 6) (oi := ⟨some 32, _, _, _, _, _⟩) (v := ?vb6) rfl (by kernel_rfl) (by kernel_rfl) (by kernel_rfl) (fun _ _ _ h => h) (Or.inl ⟨by rfl, ?yb6⟩) hHeld ?rb6
        case yb6 =>
          intro wx hSx
          have p0 := cell_at hSx 0
          have p1 := cell_at hSx 1
          have p2 := cell_at hSx 2
          have p3 := cell_at hSx 3
          have p4 := cell_at hSx 4
          have p5 := cell_at hSx 5
          simp only [List.getElem?_toArray, List.getElem?_cons_succ, List.getElem?_cons_zero] at p0 p1 p2 p3 p4 p5
          go_simp
          try with_reducible rfl
        try simp only [Act.put, List.setIfInBounds_toArray, List.set_cons_zero, List.set_cons_succ]
        refine wpAnyH_ready (rs := [4, 7]) (by kernel_rfl) (by simp) ?_
        refine AllReadyH.cons (o := ⟨some 30, _, _, _, _, _⟩) rfl (fun K hK => ?waybA) (AllReadyH.cons (o := ⟨some 33, _, _, _, _, _⟩) rfl (fun K hK => ?waybB) AllReadyH.nil)
        case waybA =>
          have n0 := cell_at HF2.out.hd 1
          simp only [List.getElem?_toArray, List.getElem?_cons_succ, List.getElem?_cons_zero] at n0
          go_simp
          refine hK.out _ _ HE2.out (fun hHeld => ?_)
          clear hK K n0
          try simp only [Act.put, List.setIfInBounds_toArray, List.set_cons_zero, List.set_cons_succ]
          refine wpAnyH_ready (rs := [7]) (by kernel_rfl) (by simp) ?_
          refine AllReadyH.cons (o := ⟨some 33, _, _, _, _, _⟩) rfl (fun K hK => ?_) AllReadyH.nil
          have hb6 := below_new wd (.cells #[.slice y.A y.ev.parents.length y.cap] 39)
          have H6 := Lib.hid (HF2.out.later hb6)
          have E6 := Lib.hid ((hb6.block B5 (smem_lt HE2.out)).trans HE2.out)
          have S6 := Lib.hid (show LS.Slice (wd.alloc (.cells #[.slice y.A y.ev.parents.length y.cap] 39)) (.slice (some ⟨wd.heap.size, 0, none⟩) 1 1) [y] from lit_slice (L := LS) wd y wd.heap.size rfl #[.slice y.A y.ev.parents.length y.cap] rfl)
          go_simp
          generalize wd.alloc _ = w6 at H6 E6 S6 ⊢
          generalize wd.heap.size = B6 at S6 ⊢
          refine hK.out _ _ E6.out (fun hHeld => ?_)
          clear hK K hb6 HF2 HE2
          try simp only [Act.put, List.setIfInBounds_toArray, List.set_cons_zero, List.set_cons_succ]
          refine wpAnyH_ready (rs := [8]) (by kernel_rfl) (by simp) ?_
          refine AllReadyH.cons (o := ⟨some 34, _, _, _, _, _⟩) rfl (fun K hK => ?_) AllReadyH.nil
          rw [if_pos (by rfl)]
          refine wp_puts knS (.tmp 30) (.tmp 33) 58 rfl rfl H6.out.pars H6.out.trn.size _ [y] 1 rfl rfl (S6.out.srcN knS rfl) (by omega) ?_
          intro A9 c9 w7 m7 g7 o7
          have E7 := Lib.hid ((g7.block B5 (smem_lt E6.out) (fun e => mine_neL H6.out.pars E6.out (by decide) B5 e.symm rfl)).trans E6.out)
          have D7 := Lib.hid ((g7.block g (smem_lt H6.out.hd) (fun e => mine_neL H6.out.pars H6.out.hd (by decide) g e.symm rfl)).trans H6.out.hd)
          have H8 := Lib.hid (H6.out.parPut m7 g7)
          refine hK.out _ _ E7.out (fun hHeld => ?_)
          clear hK K m7 g7 o7 H6 E6 S6
          try simp only [Act.put, List.setIfInBounds_toArray, List.set_cons_zero, List.set_cons_succ]
          refine wpAnyH_take (i := 9) (oi := ⟨some 35, _, _, _, _, _⟩) (v := ?vbx9) rfl (by kernel_rfl) (by kernel_rfl) (by kernel_rfl) (fun _ _ _ h => h) (Or.inl ⟨by rfl, ?ybx9⟩) hHeld ?rbx9
          case ybx9 =>
            intro wx hSx
            go_simp
            try with_reducible rfl
          try simp only [Act.put, List.setIfInBounds_toArray, List.set_cons_zero, List.set_cons_succ]
          refine wpAnyH_take (i := 10) (oi := ⟨some 36, _, _, _, _, _⟩) (v := ?vbx10) rfl (by kernel_rfl) (by kernel_rfl) (by kernel_rfl) (fun _ _ _ h => h) (Or.inl ⟨by rfl, ?ybx10⟩) hHeld ?rbx10
          case ybx10 =>
            intro wx hSx
            go_simp
            try with_reducible rfl
          try simp only [Act.put, List.setIfInBounds_toArray, List.set_cons_zero, List.set_cons_succ]
          refine wpAnyH_ready (rs := [11]) (by kernel_rfl) (by simp) ?_
          refine AllReadyH.cons (o := ⟨none, _, _, _, _, _⟩) rfl (fun K hK => ?_) AllReadyH.nil
          have c0 := cell_at D7.out 1
          have f0 : w7.frozen? ⟨g, 1, none⟩ = false := free_at D7.out 1
          simp only [List.getElem?_toArray, List.getElem?_cons_succ, List.getElem?_cons_zero] at c0
          have E8 := Lib.hid (((sm_grown w7 g 1 [.slice A9 (ps.length + 1) c9]).block B5 (smem_lt E7.out) (fun e => by
            injection e with e
            have h9 := E7.out
            rw [e, D7.out] at h9
            cases h9)).trans E7.out)
          simp only [World.setCells] at E8
          go_simp
          generalize World.setCell _ _ _ = w8 at H8 E8 ⊢
          refine hK.out _ _ E8.out (fun hHeld => ?_)
          clear hK K c0 f0 E7 D7
          try simp only [Act.put, List.setIfInBounds_toArray, List.set_cons_zero, List.set_cons_succ]
          refine wpAnyH_done (by kernel_rfl) ?_ _
          go_wp2_with fail
          refine ⟨⟨a + 1, by go_num, by omega, Lib.hid ⟨_, _, by rw [HTQ.out, HTK.out]; exact H8.out⟩⟩, ?_⟩
          simp [intOf]; omega
        case waybB =>
          have hb6 := below_new wd (.cells #[.slice y.A y.ev.parents.length y.cap] 39)
          have H6 := Lib.hid (HF2.out.later hb6)
          have E6 := Lib.hid ((hb6.block B5 (smem_lt HE2.out)).trans HE2.out)
          have S6 := Lib.hid (show LS.Slice (wd.alloc (.cells #[.slice y.A y.ev.parents.length y.cap] 39)) (.slice (some ⟨wd.heap.size, 0, none⟩) 1 1) [y] from lit_slice (L := LS) wd y wd.heap.size rfl #[.slice y.A y.ev.parents.length y.cap] rfl)
          go_simp
          generalize wd.alloc _ = w6 at H6 E6 S6 ⊢
          generalize wd.heap.size = B6 at S6 ⊢
          refine hK.out _ _ E6.out (fun hHeld => ?_)
          clear hK K hb6 HF2 HE2
          try simp only [Act.put, List.setIfInBounds_toArray, List.set_cons_zero, List.set_cons_succ]
          refine wpAnyH_ready (rs := [4]) (by kernel_rfl) (by simp) ?_
          refine AllReadyH.cons (o := ⟨some 30, _, _, _, _, _⟩) rfl (fun K hK => ?_) AllReadyH.nil
          have n0 := cell_at H6.out.hd 1
          simp only [List.getElem?_toArray, List.getElem?_cons_succ, List.getElem?_cons_zero] at n0
          go_simp
          refine hK.out _ _ E6.out (fun hHeld => ?_)
          clear hK K n0
          try simp only [Act.put, List.setIfInBounds_toArray, List.set_cons_zero, List.set_cons_succ]
          refine wpAnyH_ready (rs := [8]) (by kernel_rfl) (by simp) ?_
          refine AllReadyH.cons (o := ⟨some 34, _, _, _, _, _⟩) rfl (fun K hK => ?_) AllReadyH.nil
          rw [if_pos (by rfl)]
          refine wp_puts knS (.tmp 30) (.tmp 33) 58 rfl rfl H6.out.pars H6.out.trn.size _ [y] 1 rfl rfl (S6.out.srcN knS rfl) (by omega) ?_
          intro A9 c9 w7 m7 g7 o7
          have E7 := Lib.hid ((g7.block B5 (smem_lt E6.out) (fun e => mine_neL H6.out.pars E6.out (by decide) B5 e.symm rfl)).trans E6.out)
          have D7 := Lib.hid ((g7.block g (smem_lt H6.out.hd) (fun e => mine_neL H6.out.pars H6.out.hd (by decide) g e.symm rfl)).trans H6.out.hd)
          have H8 := Lib.hid (H6.out.parPut m7 g7)
          refine hK.out _ _ E7.out (fun hHeld => ?_)
          clear hK K m7 g7 o7 H6 E6 S6
          try simp only [Act.put, List.setIfInBounds_toArray, List.set_cons_zero, List.set_cons_succ]
          refine wpAnyH_take (i := 9) (oi := ⟨some 35, _, _, _, _, _⟩) (v := ?vby9) rfl (by kernel_rfl) (by kernel_rfl) (by kernel_rfl) (fun _ _ _ h => h) (Or.inl ⟨by rfl, ?yby9⟩) hHeld ?rby9
          case yby9 =>
            intro wx hSx
            go_simp
            try with_reducible rfl
          try simp only [Act.put, List.setIfInBounds_toArray, List.set_cons_zero, List.set_cons_succ]
          refine wpAnyH_take (i := 10) (oi := ⟨some 36, _, _, _, _, _⟩) (v := ?vby10) rfl (by kernel_rfl) (by kernel_rfl) (by kernel_rfl) (fun _ _ _ h => h) (Or.inl ⟨by rfl, ?yby10⟩) hHeld ?rby10
          case yby10 =>
            intro wx hSx
            go_simp
            try with_reducible rfl
          try simp only [Act.put, List.setIfInBounds_toArray, List.set_cons_zero, List.set_cons_succ]
          refine wpAnyH_ready (rs := [11]) (by kernel_rfl) (by simp) ?_
          refine AllReadyH.cons (o := ⟨none, _, _, _, _, _⟩) rfl (fun K hK => ?_) AllReadyH.nil
          have c0 := cell_at D7.out 1
          have f0 : w7.frozen? ⟨g, 1, none⟩ = false := free_at D7.out 1
          simp only [List.getElem?_toArray, List.getElem?_cons_succ, List.getElem?_cons_zero] at c0
          have E8 := Lib.hid (((sm_grown w7 g 1 [.slice A9 (ps.length + 1) c9]).block B5 (smem_lt E7.out) (fun e => by
            injection e with e
            have h9 := E7.out
            rw [e, D7.out] at h9
            cases h9)).trans E7.out)
          simp only [World.setCells] at E8
          go_simp
          generalize World.setCell _ _ _ = w8 at H8 E8 ⊢
          refine hK.out _ _ E8.out (fun hHeld => ?_)
          clear hK K c0 f0 E7 D7
          try simp only [Act.put, List.setIfInBounds_toArray, List.set_cons_zero, List.set_cons_succ]
          refine wpAnyH_done (by kernel_rfl) ?_ _
          go_wp2_with fail
          refine ⟨⟨a + 1, by go_num, by omega, Lib.hid ⟨_, _, by rw [HTQ.out, HTK.out]; exact H8.out⟩⟩, ?_⟩
          simp [intOf]; omega
    · have q1 : decide ((a : Int) < (ys.length : Int)) = false := decide_eq_false (by omega)
      have htk : ys.take a = ys := List.take_of_length_le (by omega)
      go_wp2_with fail
      go_ret
      have hf := HF.out
      rw [htk, HEQ.out] at hf
      generalize Value.slice Ar _ cr = vr at hf
      generalize Value.slice Ap _ cp = vp at hf
      have hg1 : ¬ C.own w2 gd g := fun ho => by
        rcases HT2.out.owns g ho with hh | hh
        · exact HGO.out hh
        · omega
      have hkp := C.keep HC2.out hf.trn.size (fun k hk => hf.trn.block k (C.old HC2.out hk) (fun e => hg1 (e ▸ hk)))
      have hs2 := HT2.out.size
      have hs0 := HBN.out.size
      have heach : ∀ y ∈ ys, LT.Mine wr 0 y.pv y.ev.parents := fun y hy => ((HYS.out y hy).2.1.keep (fun k hk => hf.trn.block k ((HYS.out y hy).2.1.lt k hk).2 (by have := ((HYS.out y hy).2.1.lt k hk).1; omega))).mono (Nat.zero_le _)
      refine ⟨g, fun k => k = g ∨ vr.ownBlock = some k ∨ vp.ownBlock = some k ∨ ∃ y ∈ ys, y.pv.ownBlock = some k, rfl, ⟨⟨room, C.valid HC2.out⟩, hl, fun k hk => ?_, .inl ⟨vr, vp, ys, ⟨hf.hd, hf.row.mono (Nat.zero_le _), hf.pars.mono (Nat.zero_le _), HEQ.out, fun y hy => ⟨heach y hy, (HYS.out y hy).1.2⟩⟩, ⟨.inl rfl, fun k h => .inr (.inl h), fun k h => .inr (.inr (.inl h)), fun y hy k h => .inr (.inr (.inr ⟨y, hy, h⟩))⟩⟩⟩, fun k hk => ?_, hkp.1, ?_⟩
      · rcases hk with rfl | hk | hk | ⟨y, hy, hk⟩
        · exact smem_lt hf.hd
        · exact (hf.row.lt k hk).2
        · exact (hf.pars.lt k hk).2
        · exact ((heach y hy).lt k hk).2
      · rcases hk with rfl | hk | hk | ⟨y, hy, hk⟩
        · exact ⟨Nat.le_of_eq hgg, fun ho => hg1 (hkp.2 _ ho)⟩
        · have := (hf.row.lt k hk).1
          exact ⟨by omega, fun ho => by have := C.old HC2.out (hkp.2 _ ho); omega⟩
        · have := (hf.pars.lt k hk).1
          exact ⟨by omega, fun ho => by have := C.old HC2.out (hkp.2 _ ho); omega⟩
        · have := ((HYS.out y hy).2.1.lt k hk).1
          exact ⟨by omega, fun ho => (HYS.out y hy).2.2 k hk (hkp.2 _ ho)⟩
      · have ht1 : TurnD C.own w w1 gd := ⟨HBN.out.os, HBN.out.tape, HBN.out.output, HBN.out.size, fun k hk _ => HBN.out.block k hk, fun k hk => .inl (HG.out.2 k hk)⟩
        have ht := ht1.trans HT2.out
        exact ⟨hf.trn.os.trans ht.os, hf.trn.tape.trans ht.tape, hf.trn.output.trans ht.output, Nat.le_trans ht.size hf.trn.size, fun k hk hn => (hf.trn.block k (Nat.lt_of_lt_of_le hk ht.size) (by omega)).trans (ht.block k hk hn), fun k hk => ht.owns k (hkp.2 k hk)⟩
end Go.Proofs.YtfbfdkibdjinaaaGreatDoor

namespace Go.Proofs.YtfbfdkibdjinaaaGreatDoor
set_option maxRecDepth 20000
open Go.RowKit
set_option linter.unusedVariables false
set_option linter.unusedSimpArgs false

def roomR : ByteArray := ⟨#[33, 114, 58, 115, 49]⟩
theorem roomR_room : namedB 33 roomR = true := by decide +kernel
theorem roomR_size : roomR.size ≤ maxLen := by decide
theorem add_take8 {room : ByteArray} {l : List Ev} {a : Nat} {e : Ev} (hv : Valid room l) (he : l[a]? = some e) : errA room (l.take a) e = 0 ∧ addA room (l.take a) e = l.take (a + 1) := by
  have h := hv a e he
  refine ⟨h, ?_⟩
  unfold addA
  rw [if_pos h, List.take_add_one, he]
  rfl
/-- While a dag is built: all of it is new since w. -/
structure BdS (C : Dags) (w wr : World) (g : Nat) (room : ByteArray) (l : List Ev) : Prop where
  code : C.CD wr g room l
  below : Below w.heap.size w wr
  fresh : ∀ k, C.own wr g k → w.heap.size ≤ k
theorem BdS.turn {C : Dags} {w wr w2 : World} {g : Nat} {room : ByteArray} {l l' : List Ev} (h : BdS C w wr g room l) (hc : C.CD w2 g room l') (ht : TurnD C.own wr w2 g) : BdS C w w2 g room l' :=
  ⟨hc, h.below.trans (ht.below h.fresh h.below.size), fun k hk => by
    rcases ht.owns k hk with hh | hh
    · exact h.fresh k hh
    · exact Nat.le_trans h.below.size hh⟩
theorem BdS.later {C : Dags} {w wr w2 : World} {g : Nat} {room : ByteArray} {l : List Ev} (h : BdS C w wr g room l) (hb : Below wr.heap.size wr w2) : BdS C w w2 g room l := by
  obtain ⟨hc, ho⟩ := C.keep h.code hb.size (fun k hk => hb.block k (C.old h.code hk))
  exact ⟨hc, h.below.trans (hb.mono h.below.size), fun k hk => h.fresh k (ho k hk)⟩
/-- The list does not lie in the box. -/
theorem evs_apart8 {wr : World} {B : Nat} {v : Value} {xs : List EvV} {r0 v0 : Value} {tt : TypeId} {ff : Nat × Nat} (h : EvsS wr v xs) (hb : wr.heap[B]? = some (.cells #[r0, v0] tt ff)) (far : ∀ z ∈ xs, ∀ k, footV z k → k ≠ B) {k : Nat} (hk : footE v xs k) : k ≠ B := by
  rcases hk with ⟨h0, hk⟩ | ⟨z, hz, hk⟩
  · rintro rfl
    obtain ⟨A, cap, rfl, -, -, -, h4⟩ := h.1
    obtain ⟨b, off, rfl, hl, hr⟩ := h4 h0
    have h5 : b = k := by simpa [Value.ownBlock] using hk
    subst h5
    cases xs with
    | nil => simp at h0
    | cons x t =>
      have h6 := hr 5 (.int .i64 x.ev.does) rfl
      rw [World.cell?, hb] at h6
      simp at h6
  · exact far z hz k hk
/-- What build tells: a dag of the code, the document's list beside it. -/
structure Bt (C : Dags) (w w' : World) (g : Nat) (v : Value) (xs : List EvV) : Prop where
  bd : BdS C w w' g roomR (evs xs)
  evs : EvsS w' v xs
  off : ∀ k, footE v xs k → ¬ C.own w' g k
  len : xs.length ≤ 9
  zero : ¬ C.own w' g 0
  ids : ∀ e ∈ xs.map EvV.ev, ∃ k : Fin 9, e.id = eventK k.val

set_option maxHeartbeats 1600000 in
theorem build8_any (C : Dags) (v : Value) (gs : List GV) (w : World) (h : GsS w v gs) (h0 : 0 < w.heap.size) :
    Calls Tryz.prog 8 #[v] w fun e w' => ∃ g v' xs, e = .returned (.tuple #[.pointer (some ⟨g, 0, none⟩), .agg #[.string roomR, v']]) ∧ Bt C w w' g v' xs := by
  have HB0 := Lib.hid (below_new w (.cells #[.string ⟨#[]⟩, .slice none 0 0] 26))
  have HX0 := Lib.hid (heap_alloc_new w (.cells #[.string ⟨#[]⟩, .slice none 0 0] 26))
  have hsz0 : (w.alloc (.cells #[.string ⟨#[]⟩, .slice none 0 0] 26)).heap.size = w.heap.size + 1 := by simp
  have HMA := Lib.hid (fun W (hb : Below w.heap.size w W) => refMade_any roomR v gs W (h.below hb) roomR_room)
  have HVA := Lib.hid (madeTo_row roomR_room (gps gs) (min gs.length 9) (by omega) (by rw [List.length_map]; omega))
  obtain ⟨A0, c0, rfl, -⟩ := id h.1
  clear h
  unfold roomR at HMA
  go_enter Tryz.func8, Tryz.ntmps8
  go_upto_region 1 with (fail)
  generalize w.alloc _ = w0 at HB0 HX0 hsz0 ⊢
  generalize hB3 : w.heap.size = B3 at HX0 hsz0 ⊢
  go_wp2_with fail
  go_at_call 25
  refine (HMA.out _ HB0.out).mono ?_
  rintro e w1 ⟨v', xs, rfl, hes, hev, b1, hfp⟩
  have hxl : xs.length ≤ 9 := by
    rw [← evs_len, hev]
    have := HVA.out.2
    unfold roomR at this
    rw [this]; omega
  have HVL : Hid (Valid roomR (evs xs)) := Lib.hid (by rw [hev]; exact HVA.out.1.valid)
  have HID : Hid (∀ e ∈ evs xs, ∃ k : Fin 9, e.id = eventK k.val) := Lib.hid (by
    rw [hev]
    intro e he
    obtain ⟨j, hj⟩ := List.getElem?_of_mem he
    have h1 := HVA.out.1.le
    have h2 := (List.getElem?_eq_some_iff.1 hj).1
    exact ⟨⟨j, by unfold roomR at h1; omega⟩, HVA.out.1.ids j e hj⟩)
  obtain ⟨Av, cv, hv, -, hv2, -⟩ := id hes.1
  have hv3 : cv ≤ 9223372036854775807 := by unfold maxLen at hv2; omega
  subst hv
  have HE1 := Lib.hid hes
  have HFP : Hid (∀ z ∈ xs, ∀ k, footV z k → k ≠ B3) := Lib.hid (fun z hz k hk => by have := (hfp z hz k hk.2).1; omega)
  have HB1 := Lib.hid b1
  have HX1 := Lib.hid ((b1.block B3 (smem_lt HX0.out)).trans HX0.out)
  have HB2 := Lib.hid (below_new w1 (.cells #[.string roomR, .slice Av xs.length cv] 26))
  have HW2 := Lib.hid (heap_alloc_new w1 (.cells #[.string roomR, .slice Av xs.length cv] 26))
  clear HMA hes hev b1 hv2 HVA hfp
  unfold roomR at HB2 HW2
  go_upto_region 2 with (fail)
  generalize w1.alloc _ = w2 at HB2 HW2 ⊢
  have HE2 := Lib.hid (HE1.out.below HB2.out)
  have HX2 := Lib.hid ((HB2.out.block B3 (smem_lt HX1.out)).trans HX1.out)
  have HB02 := Lib.hid (HB0.out.trans ((HB1.out.mono HB0.out.size).trans (HB2.out.mono (Nat.le_trans HB0.out.size HB1.out.size))))
  have hn43 : B3 ≠ w1.heap.size := by have := smem_lt HX1.out; omega
  generalize w1.heap.size = B4 at HW2 hn43 ⊢
  have d0 : w2.cell? ⟨B4, 0, none⟩ = some (.string roomR) := cell_at HW2.out 0
  go_wp2_with fail
  go_at_call 26
  refine (C.new w2 roomR roomR_size roomR_room).mono ?_
  rintro e w3 ⟨g, rfl, hc, hb3, hf⟩
  have HS : Hid (BdS C w2 w3 g roomR []) := Lib.hid ⟨hc, hb3, hf⟩
  clear hc hb3 hf d0 HE1 HB1 HX0 HX1
  go_wp2_with fail
  go_loopw [6] (fun i wr => ∃ a : Nat, i = .int .i64 (a : Int) ∧ a ≤ xs.length ∧ Hid (BdS C w2 wr g roomR ((evs xs).take a))) (fun i _ => xs.length - (intOf i).toNat)
  case atStart => exact ⟨0, rfl, Nat.zero_le _, HS⟩
  case round =>
    obtain ⟨a, rfl, ha, HO⟩ := hrel
    clear HS
    have HW4 := Lib.hid ((HO.out.below.block B4 (smem_lt HW2.out)).trans HW2.out)
    have c1 : wr.cell? ⟨B4, 1, none⟩ = some (.slice Av xs.length cv) := cell_at HW4.out 1
    by_cases hax : a < xs.length
    · have q1 : decide ((a : Int) < (xs.length : Int)) = true := decide_eq_true (by omega)
      have hx : xs[a]? = some xs[a] := List.getElem?_eq_getElem hax
      generalize xs[a] = x at hx
      have HA := Lib.hid (add_take8 HVL.out (evs_get hx))
      have HX := Lib.hid ((HE2.out.2 x (List.mem_of_getElem? hx)).below HO.out.below)
      obtain ⟨b, off, rfl, hb, hrg⟩ := ev_at HE2.out hx
      have hix := index_any (P := Tryz.prog) knV (by decide) (b := b) (off := off) (cap := cv) hax
      simp only [LV] at hix
      obtain ⟨e0, e1, e2, e3, e4, e5⟩ := ev_cells (w := wr) (fun j u hu => (HO.out.below.cell (p := ⟨b, off + a * 6 + j, none⟩) hb).trans (hrg j u hu))
      unfold EvV.pv at e2
      have hta : ((evs xs).take a).length ≤ 100 := by rw [List.length_take]; omega
      have HC := Lib.hid (C.add x HO.out.code hta HX.out)
      unfold EvV.val EvV.pv at HC
      rw [HA.out.1, HA.out.2] at HC
      clear hx hrg hta
      go_wp2_with fail
      go_at_call 28
      refine HC.out.mono ?_
      rintro e w3 ⟨rfl, hc3, ht3⟩
      replace HO := Lib.hid (HO.out.turn hc3 ht3)
      clear hc3 ht3 HC c1 e0 e1 e2 e3 e4 e5 HW4
      go_wp2_with fail
      refine ⟨⟨a + 1, by go_num, by omega, HO⟩, ?_⟩
      simp [intOf]; omega
    · have q1 : decide ((a : Int) < (xs.length : Int)) = false := decide_eq_false (by omega)
      have htk : (evs xs).take a = evs xs := List.take_of_length_le (by rw [evs_len]; omega)
      rw [htk] at HO
      have c0' : wr.cell? ⟨B4, 0, none⟩ = some (.string roomR) := cell_at HW4.out 0
      have HX3 := Lib.hid ((HO.out.below.block B3 (smem_lt HX2.out)).trans HX2.out)
      have x0 : wr.cell? ⟨B3, 0, none⟩ = some (.string ⟨#[]⟩) := cell_at HX3.out 0
      have x1 : wr.cell? ⟨B3, 1, none⟩ = some (.slice none 0 0) := cell_at HX3.out 1
      have z0 : wr.frozen? ⟨B3, 0, none⟩ = false := free_at HX3.out 0
      have z1 : wr.frozen? ⟨B3, 1, none⟩ = false := free_at HX3.out 1
      have HFN : Hid (Bt C w (((wr.setCell ⟨B3, 0, none⟩ (.string roomR)).setCell ⟨B3, 1, none⟩ (.slice Av xs.length cv)).drew) g (.slice Av xs.length cv) xs ∧ (((wr.setCell ⟨B3, 0, none⟩ (.string roomR)).setCell ⟨B3, 1, none⟩ (.slice Av xs.length cv)).drew).heap[B3]? = some (.cells #[.string roomR, .slice Av xs.length cv] 26 (0, 0))) := Lib.hid (by
        have hg := sm_grown wr B3 0 [.string roomR, .slice Av xs.length cv]
        obtain ⟨cur, y1, y2, y3⟩ := sm_at B3 26 [.string roomR, .slice Av xs.length cv] 0 wr _ HX3.out (Nat.le_refl 2)
        have y5 : cur = #[.string roomR, .slice Av xs.length cv] := Array.toList_inj.1 y3
        rw [y5] at y1
        have hb3 := smem_lt HX2.out
        have hbl : ∀ k, k < wr.heap.size → k ≠ B3 → (((wr.setCell ⟨B3, 0, none⟩ (.string roomR)).setCell ⟨B3, 1, none⟩ (.slice Av xs.length cv)).drew).heap[k]? = wr.heap[k]? := fun k hk hn => hg.block k hk (fun e => hn (by injection e))
        have hsz : wr.heap.size ≤ (((wr.setCell ⟨B3, 0, none⟩ (.string roomR)).setCell ⟨B3, 1, none⟩ (.slice Av xs.length cv)).drew).heap.size := hg.size
        have hkp := C.keep (w' := ((wr.setCell ⟨B3, 0, none⟩ (.string roomR)).setCell ⟨B3, 1, none⟩ (.slice Av xs.length cv)).drew) HO.out.code hsz (fun k hk => hbl k (C.old HO.out.code hk) (fun e => by have := HO.out.fresh k hk; omega))
        have hes := HE2.out.below HO.out.below
        have hbw := HB02.out.size
        refine ⟨⟨⟨hkp.1, (HB02.out.trans (HO.out.below.mono hbw)).grown hg (Nat.le_trans hbw HO.out.below.size) (fun k hk => by injection hk with hk; omega) |>.drew, fun k hk => Nat.le_trans hbw (HO.out.fresh k (hkp.2 k hk))⟩, hes.stay hsz (fun k hk hf => hbl k hk (evs_apart8 hes HX3.out HFP.out hf)), fun k hk ho => ?_, hxl, fun ho => ?_, HID.out⟩, y1⟩
        · have h5 := HE2.out.foot hk
          have h6 := HO.out.fresh k (hkp.2 k ho)
          omega
        · have h6 := HO.out.fresh 0 (hkp.2 0 ho)
          omega)
      go_upto_region 10 with (fail)
      go_region
      generalize World.drew _ = w9 at HFN ⊢
      have r0 : w9.cell? ⟨B3, 0, none⟩ = some (.string roomR) := cell_at HFN.out.2 0
      have r1 : w9.cell? ⟨B3, 1, none⟩ = some (.slice Av xs.length cv) := cell_at HFN.out.2 1
      go_wp2_with fail
      refine bodyPost_ret (v := .tuple #[.pointer (some ⟨g, 0, none⟩), .agg #[.string roomR, .slice Av xs.length cv]]) ?_ rfl ?_
      · simp [results, Tryz.results8, go_sem, r0, r1]
      · exact ⟨g, _, xs, rfl, HFN.out.1⟩
end Go.Proofs.YtfbfdkibdjinaaaGreatDoor

namespace Go.Proofs.YtfbfdkibdjinaaaGreatDoor
set_option maxRecDepth 20000
open Go.RowKit
set_option linter.unusedVariables false
set_option linter.unusedSimpArgs false

def rmS : ByteArray := ⟨#[33, 114, 58, 115]⟩
def usS : ByteArray := ⟨#[64, 97, 58, 115]⟩
def idA : ByteArray := ⟨#[36, 97]⟩
def idB : ByteArray := ⟨#[36, 98]⟩
def idC : ByteArray := ⟨#[36, 99]⟩
def evA : Ev := ⟨idA, rmS, [], ⟨#[]⟩, usS, 0⟩
def evB : Ev := ⟨idB, rmS, [idA], ⟨#[]⟩, usS, 0⟩
def evC : Ev := ⟨idC, rmS, [idA], ⟨#[]⟩, usS, 0⟩
def exL : List Ev := [evA, evB, evC]
theorem rmS_room : namedB 33 rmS = true := by decide +kernel
theorem ex_errs : errA rmS [] evA = 0 ∧ errA rmS [evA] evB = 0 ∧ errA rmS [evA, evB] evC = 0 ∧ allL exL = exL ∧ hasE exL idB = true ∧ hasE exL idC = true ∧ decide (idB = idC) = false ∧ decide (idB = idA) = false ∧ decide (idC = idA) = false := by decide +kernel
theorem ex_valid : Valid rmS exL := valid_snoc (valid_snoc (valid_snoc (valid_nil _) ex_errs.1) ex_errs.2.1) ex_errs.2.2.1
theorem ex_top (x : ByteArray) : ¬ AheadR exL x idA := fun h => by
  obtain ⟨p, hp, -⟩ := (ahead_iff ex_valid (show evA ∈ exL by simp [exL])).1 h
  cases hp
theorem ex_low {x : ByteArray} {e : Ev} (he : e ∈ exL) (hp : e.parents = [idA]) (hx : decide (x = idA) = false) : ¬ AheadR exL x e.id := fun h => by
  obtain ⟨p, hp', h2⟩ := (ahead_iff ex_valid he).1 h
  rw [hp, List.mem_singleton] at hp'
  subst hp'
  rcases h2 with rfl | h2
  · simp at hx
  · exact ex_top x h2
theorem aheadB_no {l : List Ev} {a b : ByteArray} (h : ¬ AheadR l a b) : aheadB l a b = false := by
  cases hh : aheadB l a b with
  | false => rfl
  | true => exact absurd (aheadB_iff.1 hh) h
theorem ex_AB : aheadB exL idA idB = true := aheadB_iff.2 (AheadR.par (e := evB) (by simp [exL]) (by simp [evB]))
theorem ex_AC : aheadB exL idA idC = true := aheadB_iff.2 (AheadR.par (e := evC) (by simp [exL]) (by simp [evC]))
theorem ex_BC : aheadB exL idB idC = false := aheadB_no (ex_low (e := evC) (by simp [exL]) rfl ex_errs.2.2.2.2.2.2.2.1)
theorem ex_CB : aheadB exL idC idB = false := aheadB_no (ex_low (e := evB) (by simp [exL]) rfl ex_errs.2.2.2.2.2.2.2.2)
theorem ex_BB : aheadB exL idB idB = false := aheadB_no (fun h => h.irrefl ex_valid)
theorem ex_apart : apartB exL idB idC = true := by
  unfold apartB
  rw [ex_errs.2.2.2.2.1, ex_errs.2.2.2.2.2.1, ex_errs.2.2.2.2.2.2.1, ex_BC, ex_CB]
  rfl
theorem ex_common : commonL exL idB idC = [idA] := by
  unfold commonL
  rw [ex_errs.2.2.2.1]
  show (List.filter (fun f => aheadB exL f.id idB && aheadB exL f.id idC) [evA, evB, evC]).map Ev.id = [idA]
  simp only [List.filter_cons, List.filter_nil]
  rw [show aheadB exL evA.id idB = true from ex_AB, show aheadB exL evA.id idC = true from ex_AC, show aheadB exL evB.id idB = false from ex_BB, show aheadB exL evC.id idB = false from ex_CB]
  rfl
/-- The dag of the example, from w on. -/
structure ExS (C : Dags) (w wr : World) (g : Nat) (l : List Ev) : Prop where
  bd : BdS C w wr g rmS l
theorem lit_ev {w : World} (e : Ev) (p : ByteArray) (hp : e.parents = [p]) (hk : e.ok) : EvV.at ⟨e, some ⟨w.heap.size, 0, none⟩, 1⟩ (w.alloc (.cells #[.string p] 9)) := by
  refine ⟨?_, hk⟩
  show LT.Slice _ (.slice (some ⟨w.heap.size, 0, none⟩) e.parents.length 1) e.parents
  rw [hp]
  exact lit_slice (L := LT) w p w.heap.size rfl #[.string p] rfl

set_option maxHeartbeats 3200000 in
theorem lives8_any (C : Dags) (CA : DagAlls C) (w : World) (ht : TabW w) : Calls Tryz.prog 17 #[] w fun e w' => e = .returned (.bool true) ∧ Below w.heap.size w w' := by
  have HTB := Lib.hid ht
  have hw0 := ht.1
  clear ht
  go_enter Tryz.func17, Tryz.ntmps17
  go_wp2_with fail
  go_at_call 26
  refine (C.new w rmS (by decide) rmS_room).mono ?_
  rintro e w1 ⟨g, rfl, hc, hb1, hf⟩
  have HS : Hid (BdS C w w1 g rmS []) := Lib.hid ⟨hc, hb1, hf⟩
  clear hc hb1 hf
  have HA := Lib.hid (C.add ⟨evA, none, 0⟩ HS.out.code (by simp) ⟨.nil _, by unfold Ev.ok maxLen; decide⟩)
  have HA1 : Hid (addA rmS [] evA = [evA]) := Lib.hid (by unfold addA; rw [if_pos ex_errs.1]; rfl)
  have HA2 : Hid (addA rmS [evA] evB = [evA, evB]) := Lib.hid (by unfold addA; rw [if_pos ex_errs.2.1]; rfl)
  have HA3 : Hid (addA rmS [evA, evB] evC = exL) := Lib.hid (by unfold addA; rw [if_pos ex_errs.2.2.1]; rfl)
  have HL2 : Hid ([evA].length ≤ 100) := Lib.hid (by simp)
  have HL3 : Hid ([evA, evB].length ≤ 100) := Lib.hid (by simp)
  have HLX : Hid (exL.length ≤ 9) := Lib.hid (by simp [exL])
  go_wp2_with fail
  go_at_call 28
  refine HA.out.mono ?_
  rintro e w2 ⟨rfl, hc2, ht2⟩
  rw [HA1.out] at hc2
  have HS2 := Lib.hid (HS.out.turn hc2 ht2)
  clear hc2 ht2 HA HS
  have HS2b := Lib.hid (HS2.out.later (below_new w2 (.cells #[.string idA] 9)))
  have HB := Lib.hid (C.add ⟨evB, some ⟨w2.heap.size, 0, none⟩, 1⟩ HS2b.out.code HL2.out (lit_ev evB idA rfl (by unfold Ev.ok maxLen; decide)))
  go_wp2_with fail
  go_at_call 28
  refine HB.out.mono ?_
  rintro e w3 ⟨rfl, hc3, ht3⟩
  rw [HA2.out] at hc3
  have HS3 := Lib.hid (HS2b.out.turn hc3 ht3)
  clear hc3 ht3 HB HS2 HS2b
  have HS3b := Lib.hid (HS3.out.later (below_new w3 (.cells #[.string idA] 9)))
  have HD := Lib.hid (C.add ⟨evC, some ⟨w3.heap.size, 0, none⟩, 1⟩ HS3b.out.code HL3.out (lit_ev evC idA rfl (by unfold Ev.ok maxLen; decide)))
  go_wp2_with fail
  go_at_call 28
  refine HD.out.mono ?_
  rintro e w4 ⟨rfl, hc4, ht4⟩
  rw [HA3.out] at hc4
  have HS4 := Lib.hid (HS3b.out.turn hc4 ht4)
  clear hc4 ht4 HD HS3 HS3b HA1 HA2 HA3
  have HOF := Lib.hid (of_any C CA w4 HS4.out.code HLX.out)
  go_wp2_with fail
  go_at_call 9
  refine HOF.out.mono ?_
  rintro e w5 ⟨gx, P, rfl, hx, hp, hc5, ht5⟩
  have HS5 := Lib.hid (HS4.out.turn hc5 ht5)
  have HX5 := Lib.hid hx
  have HPF : Hid (∀ k, P k → w.heap.size ≤ k) := Lib.hid (fun k hk => Nat.le_trans HS4.out.below.size (hp k hk).1)
  have hP0 : ¬ P 0 := fun h => by have := HPF.out 0 h; omega
  have HT5 := Lib.hid (HTB.out.below HS5.out.below hw0)
  have HQ1 := Lib.hid (ahead_any w5 HX5.out idA idB (by decide) (by decide))
  rw [ex_AB] at HQ1
  clear hx hp hc5 ht5 HOF HS4
  go_wp2_with fail
  go_at_call 12
  refine HQ1.out.mono ?_
  rintro e w6 ⟨rfl, P6, c6, t6, i6⟩
  have HQ2 := Lib.hid (apart_any w6 c6 idB idC (by decide) (by decide))
  rw [ex_apart] at HQ2
  have HT6 := Lib.hid (HT5.out.turnP t6 hP0)
  have HI6 := Lib.hid (show ∀ k, P6 k → w.heap.size ≤ k from fun k hk => by
    rcases i6 k hk with h | h
    · exact HPF.out k h
    · exact Nat.le_trans HS5.out.below.size h)
  have HB6 := Lib.hid (HS5.out.below.trans (t6.below HPF.out HS5.out.below.size))
  clear c6 t6 i6 HQ1
  go_wp2_with fail
  go_at_call 14
  refine HQ2.out.mono ?_
  rintro e w7 ⟨rfl, P7, c7, t7, i7⟩
  have hP6 : ¬ P6 0 := fun h => by have := HI6.out 0 h; omega
  have HT7 := Lib.hid (HT6.out.turnP t7 hP6)
  have HI7 := Lib.hid (show ∀ k, P7 k → w.heap.size ≤ k from fun k hk => by
    rcases i7 k hk with h | h
    · exact HI6.out k h
    · exact Nat.le_trans HB6.out.size h)
  have HB7 := Lib.hid (HB6.out.trans (t7.below HI6.out HB6.out.size))
  have hP7 : ¬ P7 0 := fun h => by have := HI7.out 0 h; omega
  have HQ3 := Lib.hid (common_any w7 c7 idB idC (by decide) (by decide) HT7.out hP7)
  rw [ex_common] at HQ3
  clear c7 t7 i7 HQ2
  go_wp2_with fail
  go_at_call 22
  refine HQ3.out.mono ?_
  rintro e w8 ⟨v, rfl, hm, P8, c8, t8, i8⟩
  obtain ⟨A8, cc8, rfl, -⟩ := id hm.slice
  have HB8 := Lib.hid (HB7.out.trans (t8.below HI7.out HB7.out.size))
  have HM8 := Lib.hid (hm.below (below_new w8 (.cells #[.string idA] 9))).slice
  have HLT := Lib.hid (show LT.Slice (w8.alloc (.cells #[.string idA] 9)) (.slice (some ⟨w8.heap.size, 0, none⟩) 1 1) [idA] from lit_slice (L := LT) w8 idA w8.heap.size rfl #[.string idA] rfl)
  have HST := Lib.hid (sameTexts_any _ _ [idA] [idA] _ HM8.out HLT.out)
  rw [decide_eq_true rfl] at HST
  have HB9 := Lib.hid (HB8.out.trans ((below_new w8 (.cells #[.string idA] 9)).mono HB8.out.size))
  clear hm c8 t8 i8 HQ3
  go_wp2_with fail
  go_at_call 18
  refine HST.out.mono ?_
  rintro e w9 ⟨rfl, dd, rfl⟩
  go_wp2_with fail
  go_ret
  exact ⟨rfl, HB9.out.trans ⟨rfl, rfl, rfl, Nat.le_refl _, fun _ _ => rfl⟩⟩
end Go.Proofs.YtfbfdkibdjinaaaGreatDoor
