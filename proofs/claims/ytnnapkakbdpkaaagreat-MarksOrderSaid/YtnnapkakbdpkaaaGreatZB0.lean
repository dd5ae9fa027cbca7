/-
  What the statements stand on, part ZB0.
-/
import Derived.Test.YtnnapkakbdpkaaaGreatZA30
set_option linter.unusedVariables false
set_option linter.unusedSimpArgs false
namespace Go.Proofs.YtnnapkakbdpkaaaGreat
set_option maxRecDepth 20000
theorem idx_lt {l : List Ev} {id : ByteArray} {i : Nat} (h : idx l id = some i) : i < l.length := by
 obtain ⟨x, hx, _⟩ := idx_some h
 exact (List.getElem?_eq_some_iff.1 hx).1
end Go.Proofs.YtnnapkakbdpkaaaGreat

namespace Go.Proofs.YtnnapkakbdpkaaaGreat
set_option maxRecDepth 20000
theorem depTo_succ {l : List Ev} {i j : Nat} {e : Ev} (h : j < e.parents.length) : depTo l i e (j + 1) = max (depTo l i e j) ((deps (l.take i)).getD ((idx l (e.parents.getD j ⟨#[]⟩)).getD 0) 0 + 1) := by
 have hg : e.parents.getD j ⟨#[]⟩ = e.parents[j] := by rw [List.getD_eq_getElem?_getD, List.getElem?_eq_getElem h]; rfl
 unfold depTo
 rw [List.take_add_one, List.getElem?_eq_getElem h, List.foldl_append, hg]
 rfl
end Go.Proofs.YtnnapkakbdpkaaaGreat

namespace Go.Proofs.YtnnapkakbdpkaaaGreat
set_option maxRecDepth 20000
open Go.RowKit
def contM (l : List Ev) (k a : Nat) (m : Int) : List Int := (deps (l.take a)).map (fun d : Nat => (d : Int)) ++ m :: List.replicate (k - a) 0
def cont (l : List Ev) (k a : Nat) : List Int := (deps (l.take a)).map (fun d : Nat => (d : Int)) ++ List.replicate (k + 1 - a) 0
theorem cont_zero (l : List Ev) (k : Nat) : cont l k 0 = List.replicate (k + 1) 0 := by simp [cont, deps, depsA]
theorem cont_M {l : List Ev} {k a : Nat} (h : a ≤ k) : cont l k a = contM l k a 0 := by
 unfold cont contM
 rw [show k + 1 - a = k - a + 1 by omega, List.replicate_succ]
theorem contM_len {l : List Ev} {k a : Nat} {m : Int} (h : a ≤ k) (hl : a ≤ l.length) : (contM l k a m).length = k + 1 := by
 unfold contM
 simp [deps_len, List.length_take]
 omega
theorem dlen {l : List Ev} {a : Nat} (hl : a ≤ l.length) : ((deps (l.take a)).map (fun d : Nat => (d : Int))).length = a := by
 rw [List.length_map, deps_len, List.length_take]
 omega
theorem contM_at {l : List Ev} {k a : Nat} {m : Int} (hl : a ≤ l.length) : (contM l k a m)[a]? = some m := by
 unfold contM
 rw [List.getElem?_append_right (by rw [dlen hl]; exact Nat.le_refl _), dlen hl, Nat.sub_self]
 rfl
theorem contM_lt {l : List Ev} {k a t : Nat} {m : Int} (hl : a ≤ l.length) (ht : t < a) : (contM l k a m)[t]? = some (((deps (l.take a)).getD t 0 : Nat) : Int) := by
 unfold contM
 have h1 : t < (deps (l.take a)).length := by rw [deps_len, List.length_take]; omega
 rw [List.getElem?_append_left (by rw [dlen hl]; exact ht), List.getElem?_map, List.getElem?_eq_getElem h1, List.getD_eq_getElem?_getD, List.getElem?_eq_getElem h1]
 rfl
theorem contM_set {l : List Ev} {k a : Nat} {m m' : Int} (hl : a ≤ l.length) : (contM l k a m).set a m' = contM l k a m' := by
 unfold contM
 rw [List.set_append_right _ _ (by rw [dlen hl]; exact Nat.le_refl _), dlen hl, Nat.sub_self]
 rfl
theorem contM_next {l : List Ev} {k a : Nat} {e : Ev} (he : l[a]? = some e) (hak : a ≤ k) : contM l k a (((deps l).getD a 0 : Nat) : Int) = cont l k (a + 1) := by
 have hi := (List.getElem?_eq_some_iff.1 he).1
 unfold contM cont
 have h1 : deps (l.take (a + 1)) = deps (l.take a) ++ [(deps l).getD a 0] := by
  rw [deps_take, deps_take, List.take_add_one, List.getD_eq_getElem?_getD, List.getElem?_eq_getElem (by rw [deps_len]; exact hi)]
  rfl
 rw [h1, List.map_append, List.append_assoc]
 rw [show k + 1 - (a + 1) = k - a by omega]
 rfl
theorem cont_last {l : List Ev} {k : Nat} (hk : k < l.length) : (cont l k (k + 1))[k]? = some (((deps l).getD k 0 : Nat) : Int) := by
 have h1 : k < (deps (l.take (k + 1))).length := by rw [deps_len, List.length_take]; omega
 unfold cont
 rw [List.getElem?_append_left (by rw [List.length_map]; exact h1), List.getElem?_map, List.getElem?_eq_getElem h1]
 simp only [Option.map_some, Option.some.injEq, Int.ofNat_inj]
 have h2 : (deps (l.take (k + 1)))[k]? = (deps l)[k]? := by rw [deps_take, List.getElem?_take, if_pos (by omega)]
 rw [List.getElem?_eq_getElem h1] at h2
 rw [List.getD_eq_getElem?_getD, ← h2]
 rfl
theorem made_zeros (n : Nat) : (madeCells #[.int .i64 0] n).toList = LI.vs (List.replicate n 0) := by
 have h1 : (madeCells #[.int .i64 0] n).toList = List.replicate n (.int .i64 0) := by
  apply List.ext_getElem
  ·simp [madeCells]
  ·intro i h1 h2
   simp [madeCells, Nat.mod_one]
 rw [h1]
 induction n with
 | zero => rfl
 | succ n ih => rw [List.replicate_succ, List.replicate_succ, LI.vs_cons, ← ih (by
   apply List.ext_getElem
   ·simp [madeCells]
   ·intro i h1 h2
    simp [madeCells, Nat.mod_one])]; rfl
theorem gr_cell {W W' : World} {p : Addr} {u : Value} (h : W.cell? p = some u) (g : Gr W W') : W'.cell? p = some u := (g.below.cell (p := p) (World.block_lt_of_cell? W p h)).trans h
theorem far_cell {W : World} {p : Addr} {u x : Value} {D i : Nat} (h : W.cell? p = some u) (hne : p.block ≠ D) : (W.setCell ⟨D, i, none⟩ x).cell? p = some u := (World.cell?_of_block (a := p) (Below.heap_setCell W _ x p.block hne)).trans h
theorem keep4 {W W' : World} {p1 p2 p3 p4 : Addr} {u1 u2 u3 u4 : Value} (h : W.cell? p1 = some u1 ∧ W.cell? p2 = some u2 ∧ W.cell? p3 = some u3 ∧ W.cell? p4 = some u4) (g : Gr W W') : W'.cell? p1 = some u1 ∧ W'.cell? p2 = some u2 ∧ W'.cell? p3 = some u3 ∧ W'.cell? p4 = some u4 :=
 ⟨gr_cell h.1 g, gr_cell h.2.1 g, gr_cell h.2.2.1 g, gr_cell h.2.2.2 g⟩
theorem far4 {W : World} {p1 p2 p3 p4 : Addr} {u1 u2 u3 u4 x : Value} {D i : Nat} (h : W.cell? p1 = some u1 ∧ W.cell? p2 = some u2 ∧ W.cell? p3 = some u3 ∧ W.cell? p4 = some u4) (h1 : p1.block ≠ D) (h2 : p2.block ≠ D) (h3 : p3.block ≠ D) (h4 : p4.block ≠ D) : (W.setCell ⟨D, i, none⟩ x).cell? p1 = some u1 ∧ (W.setCell ⟨D, i, none⟩ x).cell? p2 = some u2 ∧ (W.setCell ⟨D, i, none⟩ x).cell? p3 = some u3 ∧ (W.setCell ⟨D, i, none⟩ x).cell? p4 = some u4 :=
 ⟨far_cell h.1 h1, far_cell h.2.1 h2, far_cell h.2.2.1 h3, far_cell h.2.2.2 h4⟩
set_option maxHeartbeats 1600000 in
theorem refDepth_any (room key : ByteArray) (v : Value) (xs : List EvV) (w : World) (h : EvsS w v xs) (hv : Valid room (evs xs)) (hl : xs.length ≤ 1000) :
  Calls Tryz.prog 91 #[.agg #[.string room, v], .string key] w fun e w' => e = .returned (.int .i64 ((depthL (evs xs) key : Nat) : Int)) ∧ Gr w w' := by
 have h0 := h.1
 obtain ⟨A, cap, rfl, h1, h2, h3, _⟩ := h0
 unfold maxLen at h2
 have HB := Lib.hid (box_new (w := w) #[.string room, .slice A xs.length cap] 93)
 have HG := Lib.hid ((Gr.refl w).alloc (.cells #[.string room, .slice A xs.length cap] 93))
 have HE := Lib.hid h
 have HV := Lib.hid hv
 clear h h3 hv
 go_enter Tryz.func91, Tryz.ntmps91
 go_upto_region 1 with (fail)
 generalize w.alloc _ = w1 at HB HG ⊢
 generalize w.heap.size = B2 at HB ⊢
 have c0 : w1.cell? ⟨B2, 0, none⟩ = some (.string room) := cell_at HB.out 0
 have c1 : w1.cell? ⟨B2, 1, none⟩ = some (.slice A xs.length cap) := cell_at HB.out 1
 have AC := refAt_any room key (.slice A xs.length cap) xs w1 (HE.out.below HG.out.below)
 cases hi : idx (evs xs) key with
 | none =>
  have HD : Hid (depthL (evs xs) key = 0) := Lib.hid (by unfold depthL; rw [hi])
  rw [idxI_none hi] at AC
  go_wp2_with fail
  go_at_call 64
  refine AC.mono ?_
  rintro e w2 ⟨rfl, gm⟩
  replace HG := Lib.hid (HG.out.trans gm)
  clear AC gm
  go_wp2_with fail
  go_ret
  rw [HD.out]
  exact ⟨rfl, HG.out⟩
 | some k =>
  have HD : Hid (depthL (evs xs) key = (deps (evs xs)).getD k 0) := Lib.hid (by unfold depthL; rw [hi])
  have hk : k < xs.length := by have := idx_lt hi; rw [evs_len] at this; exact this
  rw [idxI_some hi] at AC
  have q1 : decide ((k : Int) < 0) = false := decide_eq_false (by omega)
  have hmk := run_make_row' (P := Tryz.prog) 78 3 (.int .i64 0) 8 Tryz.underlying78 (by kernel_rfl) rfl .i64 .i64 (k + 1) (by omega) (by omega)
  rw [show ((k + 1 : Nat) : Int) = (k : Int) + 1 by omega] at hmk
  clear hi
  go_wp2_with fail
  go_at_call 64
  refine AC.mono ?_
  rintro e w2 ⟨rfl, gm⟩
  replace HG := Lib.hid (HG.out.trans gm)
  replace HB := Lib.hid ((Gr.below gm).block B2 (smem_lt HB.out) |>.trans HB.out)
  clear AC gm c0 c1
  have HS : Hid (DepS w (w2.alloc (.cells (madeCells #[.int .i64 0] (k + 1)) 3)) B2 w2.heap.size k room (.slice A xs.length cap) (cont (evs xs) k 0)) := Lib.hid ⟨(heap_alloc_old w2 _ (smem_lt HB.out)).trans HB.out, HG.out.alloc _, by
   refine .inr ⟨w2.heap.size, 0, k + 1, _, by rw [cont_zero, List.length_replicate], HG.out.below.size, heap_alloc_new w2 _, by rw [cont_zero, List.length_replicate]; exact Nat.le_refl _, by unfold maxLen; omega, by simp [LI, madeCells], ?_⟩
   rw [cont_zero, List.length_replicate, ← made_zeros, List.drop_zero, List.take_of_length_le (by rw [Array.length_toList, size_madeCells]; exact Nat.le_of_eq (Nat.mul_one _).symm)]⟩
  go_wp2_with fail
  clear hmk
  generalize w2.alloc _ = w3 at HS ⊢
  generalize w2.heap.size = D at HS ⊢
  go_loopw [7] (fun i wr => ∃ a : Nat, a ≤ k + 1 ∧ i = .int .i64 (a : Int) ∧ Hid (DepS w wr B2 D k room (.slice A xs.length cap) (cont (evs xs) k a))) (fun i _ => k + 1 - (intOf i).toNat)
  case atStart => exact ⟨0, Nat.zero_le _, rfl, HS⟩
  case round =>
   obtain ⟨a, ha, rfl, HO⟩ := hrel
   clear HS
   by_cases hak : a ≤ k
   ·have q2 : decide ((a : Int) ≤ (k : Int)) = true := decide_eq_true (by omega)
    have hax : a < xs.length := by omega
    have hal : a ≤ (evs xs).length := by rw [evs_len]; omega
    have hx : xs[a]? = some xs[a] := List.getElem?_eq_getElem hax
    generalize xs[a] = x at hx
    have Hxe := Lib.hid (evs_get hx)
    have HX := Lib.hid (HE.out.2 x (List.mem_of_getElem? hx))
    obtain ⟨b, off, rfl, hb, hr⟩ := ev_at HE.out hx
    have hix := index_any (P := Tryz.prog) knV (by decide) (b := b) (off := off) (cap := cap) hax
    simp only [LV] at hix
    obtain ⟨Ap, capp, hpv, hp1, hp2, hp3, _⟩ := id HX.out.1
    unfold maxLen at hp2
    obtain ⟨_, _, e2, _⟩ := ev_cells hr
    rw [hpv] at e2
    have HPV := Lib.hid hpv
    have HI0 : Hid (DepS w wr B2 D k room (.slice (some ⟨b, off, none⟩) xs.length cap) (contM (evs xs) k a ((depTo (evs xs) a x.ev 0 : Nat) : Int))) := Lib.hid (by
     have := HO.out
     rw [cont_M hak] at this
     exact this)
    clear hx hr hpv hp3 HO
    go_wp2_with fail
    go_loopw [8] (fun jj wr2 => ∃ c : Nat, c ≤ x.ev.parents.length ∧ jj = .int .i64 (c : Int) ∧ Hid (DepS w wr2 B2 D k room (.slice (some ⟨b, off, none⟩) xs.length cap) (contM (evs xs) k a ((depTo (evs xs) a x.ev c : Nat) : Int)))) (fun jj _ => x.ev.parents.length - (intOf jj).toNat)
    case atStart => exact ⟨0, Nat.zero_le _, rfl, HI0⟩
    case round =>
     obtain ⟨c, hc, rfl, HI⟩ := hrel
     clear HI0
     have hcw := HI.out.gr.below
     have g2 : wr.cell? ⟨b, off + a * 6 + 2, none⟩ = some (.slice Ap x.ev.parents.length capp) := (hcw.cell (p := ⟨b, off + a * 6 + 2, none⟩) hb).trans e2
     have b0 : wr.cell? ⟨B2, 0, none⟩ = some (.string room) := cell_at HI.out.box 0
     have b1 : wr.cell? ⟨B2, 1, none⟩ = some (.slice (some ⟨b, off, none⟩) xs.length cap) := cell_at HI.out.box 1
     by_cases hcn : c < x.ev.parents.length
     ·have q3 : decide ((c : Int) < (x.ev.parents.length : Int)) = true := decide_eq_true (by omega)
      obtain ⟨bp, op, rfl, hbp, hcp, hps⟩ := par_at (HX.out.below hcw) HPV.out hcn
      have hbpw : bp < w.heap.size := by
       obtain ⟨_, _, e9, hb9, _⟩ := par_at HX.out HPV.out hcn
       injection e9 with e9
       injection e9 with e9 _ _
       rw [e9]; exact hb9
      have HPI : Hid (∃ t, idx (evs xs) (x.ev.parents.getD c ⟨#[]⟩) = some t ∧ t < a) := Lib.hid (by
       obtain ⟨_, _, _, hpp, _⟩ := err_zero (HV.out a x.ev Hxe.out)
       obtain ⟨z1, t, z2, z3⟩ := idx_take (hpp (x.ev.parents.getD c ⟨#[]⟩) (by rw [List.getD_eq_getElem?_getD, List.getElem?_eq_getElem hcn]; exact List.getElem_mem _))
       exact ⟨t, z1.trans z2, z3⟩)
      obtain ⟨t, hit, hta⟩ := HPI.out
      have hat := fun W hW => refAt_any room (x.ev.parents.getD c ⟨#[]⟩) (.slice (some ⟨b, off, none⟩) xs.length cap) xs W hW
      rw [idxI_some hit] at hat
      have HM : Hid (depTo (evs xs) a x.ev (c + 1) = max (depTo (evs xs) a x.ev c) ((deps ((evs xs).take a)).getD t 0 + 1)) := Lib.hid (by rw [depTo_succ hcn, hit]; rfl)
      have hdt : (deps ((evs xs).take a)).getD t 0 ≤ 1000 := by
       rw [List.getD_eq_getElem?_getD]
       cases hg : (deps ((evs xs).take a))[t]? with
       | none => simp
       | some d0 =>
        have h1 := deps_le _ d0 (List.mem_of_getElem? hg)
        have h2 : ((evs xs).take a).length ≤ 1000 := by rw [List.length_take, evs_len]; omega
        simp only [Option.getD_some]
        omega
      clear HPI hit
      have HPS := Lib.hid hps
      generalize x.ev.parents.getD c ⟨#[]⟩ = p at *
      have i0 : (0 : Int) ≤ (a : Int) := by omega
      have i1 : (a : Int) < (k : Int) + 1 := by omega
      have i2 : (0 : Int) ≤ (c : Int) := by omega
      have i3 : (c : Int) < (x.ev.parents.length : Int) := by omega
      have i4 : (0 : Int) ≤ (t : Int) := by omega
      have i5 : (t : Int) < (k : Int) + 1 := by omega
      have hDne : B2 ≠ D := HI.out.ne
      have hDw : w.heap.size ≤ D := (HI.out.row.lt D rfl).1
      go_upto_region 11 with (fail)
      refine wp_region_held_drew (S := fun W' => W'.cell? ⟨B2, 0, none⟩ = some (.string room) ∧ W'.cell? ⟨B2, 1, none⟩ = some (.slice (some ⟨b, off, none⟩) xs.length cap) ∧ W'.cell? ⟨b, off + a * 6 + 2, none⟩ = some (.slice (some ⟨bp, op, none⟩) x.ev.parents.length capp) ∧ W'.cell? ⟨bp, op + c, none⟩ = some (.string p)) (by kernel_rfl) ⟨b0, b1, g2, hcp⟩ (fun hS => ?_)
      have hD2 := HE.out.below (HI.out.gr.drew).below
      replace HI := Lib.hid (HI.out.on ((Gr.refl _).drew))
      clear b0 b1 g2 hcp hcw
      generalize World.drew _ = wd at HI hS hD2 ⊢
      obtain ⟨m0, _⟩ := HI.out.cell (contM_at hal)
      generalize hMM : depTo (evs xs) a x.ev c = mm at HI m0 HM
      generalize hDD : (deps ((evs xs).take a)).getD t 0 = dd at hdt HM
      have hw := IntWalk.i64_in ((dd : Int) + 1) (by omega)
      refine wpAnyH_take (i := 0) (oi := ⟨some 33, _, _, _, _, _⟩) (v := ?vx1) rfl (by kernel_rfl) (by kernel_rfl) (by kernel_rfl) (fun _ _ _ h => h) (Or.inl ⟨by rfl, ?yx1⟩) hS ?rx1
      case yx1 =>
       intro wx hSx
       go_simp
       try with_reducible rfl
      try simp only [actS]
      refine wpAnyH_take (i := 1) (oi := ⟨some 34, _, _, _, _, _⟩) (v := ?vx2) rfl (by kernel_rfl) (by kernel_rfl) (by kernel_rfl) (fun _ _ _ h => h) (Or.inl ⟨by rfl, ?yx2⟩) hS ?rx2
      case yx2 =>
       intro wx hSx
       go_simp
       try with_reducible rfl
      try simp only [actS]
      refine wpAnyH_take (i := 2) (oi := ⟨some 35, _, _, _, _, _⟩) (v := ?vx3) rfl (by kernel_rfl) (by kernel_rfl) (by kernel_rfl) (fun _ _ _ h => h) (Or.inl ⟨by rfl, ?yx3⟩) hS ?rx3
      case yx3 =>
       intro wx hSx
       go_simp
       try with_reducible rfl
      try simp only [actS]
      refine wpAnyH_take (i := 3) (oi := ⟨some 36, _, _, _, _, _⟩) (v := ?vx4) rfl (by kernel_rfl) (by kernel_rfl) (by kernel_rfl) (fun _ _ _ h => h) (Or.inl ⟨by rfl, ?yx4⟩) hS ?rx4
      case yx4 =>
       intro wx hSx
       go_simp
       try with_reducible rfl
      try simp only [actS]
      refine wpAnyH_take (i := 4) (oi := ⟨some 37, _, _, _, _, _⟩) (v := ?vx5) rfl (by kernel_rfl) (by kernel_rfl) (by kernel_rfl) (fun _ _ _ h => h) (Or.inl ⟨by rfl, ?yx5⟩) hS ?rx5
      case yx5 =>
       intro wx hSx
       go_simp
       try with_reducible rfl
      try simp only [actS]
      refine wpAnyH_take (i := 6) (oi := ⟨some 39, _, _, _, _, _⟩) (v := ?vx6) rfl (by kernel_rfl) (by kernel_rfl) (by kernel_rfl) (fun _ _ _ h => h) (Or.inl ⟨by rfl, ?yx6⟩) hS ?rx6
      case yx6 =>
       intro wx hSx
       go_simp
       try with_reducible rfl
      try simp only [actS]
      refine wpAnyH_take (i := 7) (oi := ⟨some 40, _, _, _, _, _⟩) (v := ?vx7) rfl (by kernel_rfl) (by kernel_rfl) (by kernel_rfl) (fun _ _ _ h => h) (Or.inl ⟨by rfl, ?yx7⟩) hS ?rx7
      case yx7 =>
       intro wx hSx
       have s0 := hSx.1
       have s1 := hSx.2.1
       have s2 := hSx.2.2.1
       have s3 := hSx.2.2.2
       go_simp
       try with_reducible rfl
      try simp only [actS]
      refine wpAnyH_take (i := 8) (oi := ⟨some 41, _, _, _, _, _⟩) (v := ?vx8) rfl (by kernel_rfl) (by kernel_rfl) (by kernel_rfl) (fun _ _ _ h => h) (Or.inl ⟨by rfl, ?yx8⟩) hS ?rx8
      case yx8 =>
       intro wx hSx
       go_simp
       try with_reducible rfl
      try simp only [actS]
      refine wpAnyH_take (i := 9) (oi := ⟨some 42, _, _, _, _, _⟩) (v := ?vx9) rfl (by kernel_rfl) (by kernel_rfl) (by kernel_rfl) (fun _ _ _ h => h) (Or.inl ⟨by rfl, ?yx9⟩) hS ?rx9
      case yx9 =>
       intro wx hSx
       have s0 := hSx.1
       have s1 := hSx.2.1
       have s2 := hSx.2.2.1
       have s3 := hSx.2.2.2
       go_simp
       try with_reducible rfl
      try simp only [actS]
      refine wpAnyH_take (i := 10) (oi := ⟨some 43, _, _, _, _, _⟩) (v := ?vx10) rfl (by kernel_rfl) (by kernel_rfl) (by kernel_rfl) (fun _ _ _ h => h) (Or.inl ⟨by rfl, ?yx10⟩) hS ?rx10
      case yx10 =>
       intro wx hSx
       go_simp
       try with_reducible rfl
      try simp only [actS]
      refine wpAnyH_take (i := 11) (oi := ⟨some 44, _, _, _, _, _⟩) (v := ?vx11) rfl (by kernel_rfl) (by kernel_rfl) (by kernel_rfl) (fun _ _ _ h => h) (Or.inl ⟨by rfl, ?yx11⟩) hS ?rx11
      case yx11 =>
       intro wx hSx
       go_simp
       try with_reducible rfl
      try simp only [actS]
      refine wpAnyH_take (i := 12) (oi := ⟨some 45, _, _, _, _, _⟩) (v := ?vx12) rfl (by kernel_rfl) (by kernel_rfl) (by kernel_rfl) (fun _ _ _ h => h) (Or.inl ⟨by rfl, ?yx12⟩) hS ?rx12
      case yx12 =>
       intro wx hSx
       go_simp
       try with_reducible rfl
      try simp only [actS]
      refine wpAnyH_take (i := 13) (oi := ⟨some 46, _, _, _, _, _⟩) (v := ?vx13) rfl (by kernel_rfl) (by kernel_rfl) (by kernel_rfl) (fun _ _ _ h => h) (Or.inl ⟨by rfl, ?yx13⟩) hS ?rx13
      case yx13 =>
       intro wx hSx
       have s0 := hSx.1
       have s1 := hSx.2.1
       have s2 := hSx.2.2.1
       have s3 := hSx.2.2.2
       go_simp
       try with_reducible rfl
      try simp only [actS]
      refine wpAnyH_take (i := 14) (oi := ⟨some 47, _, _, _, _, _⟩) (v := ?vx14) rfl (by kernel_rfl) (by kernel_rfl) (by kernel_rfl) (fun _ _ _ h => h) (Or.inl ⟨by rfl, ?yx14⟩) hS ?rx14
      case yx14 =>
       intro wx hSx
       go_simp
       try with_reducible rfl
      try simp only [actS]
      refine wpAnyH_take (i := 15) (oi := ⟨some 48, _, _, _, _, _⟩) (v := ?vx15) rfl (by kernel_rfl) (by kernel_rfl) (by kernel_rfl) (fun _ _ _ h => h) (Or.inl ⟨by rfl, ?yx15⟩) hS ?rx15
      case yx15 =>
       intro wx hSx
       go_simp
       try with_reducible rfl
      try simp only [actS]
      refine wpAnyH_take (i := 16) (oi := ⟨some 49, _, _, _, _, _⟩) (v := ?vx16) rfl (by kernel_rfl) (by kernel_rfl) (by kernel_rfl) (fun _ _ _ h => h) (Or.inl ⟨by rfl, ?yx16⟩) hS ?rx16
      case yx16 =>
       intro wx hSx
       have s0 := hSx.1
       have s1 := hSx.2.1
       have s2 := hSx.2.2.1
       have s3 := hSx.2.2.2
       go_simp
       try with_reducible rfl
      try simp only [actS]
      refine wpAnyH_ready (rs := [5, 17]) (by kernel_rfl) (by simp) ?_
      refine (AllReadyH.cons (o := ⟨some 38, _, _, _, _, _⟩) rfl (fun K hK => ?way17_0) (AllReadyH.cons (o := ⟨some 50, _, _, _, _, _⟩) rfl (fun K hK => ?way17_1) AllReadyH.nil))
      case way17_0 =>
       have hSn := hS
       go_simp
       refine hK.out _ _ hSn (fun _ => ?_)
       clear hK K
       try simp only [actS]
       refine wpAnyH_ready (rs := [17]) (by kernel_rfl) (by simp) ?_
       refine (AllReadyH.cons (o := ⟨some 50, _, _, _, _, _⟩) rfl (fun K hK => ?way18_0) AllReadyH.nil)
       case way18_0 =>
        go_simp
        refine (hat _ hD2).mono ?_
        rintro e w5 ⟨rfl, gm⟩
        replace HI := Lib.hid (HI.out.on gm)
        have hSn := keep4 hS gm
        clear hD2 hS
        have hS := hSn
        obtain ⟨m0, _⟩ := HI.out.cell (contM_at hal)
        obtain ⟨m1, _⟩ := HI.out.cell (contM_lt hal hta)
        rw [hDD] at m1
        refine hK.out _ _ hSn (fun _ => ?_)
        clear hK K
        try simp only [actS]
        refine wpAnyH_take (i := 18) (oi := ⟨some 51, _, _, _, _, _⟩) (v := ?vx19) rfl (by kernel_rfl) (by kernel_rfl) (by kernel_rfl) (fun _ _ _ h => h) (Or.inl ⟨by rfl, ?yx19⟩) hS ?rx19
        case yx19 =>
         intro wx hSx
         go_simp
         try with_reducible rfl
        try simp only [actS]
        refine wpAnyH_ready (rs := [19]) (by kernel_rfl) (by simp) ?_
        refine (AllReadyH.cons (o := ⟨some 52, _, _, _, _, _⟩) rfl (fun K hK => ?way20_0) AllReadyH.nil)
        case way20_0 =>
         have hSn := hS
         go_simp
         refine hK.out _ _ hSn (fun _ => ?_)
         clear hK K
         try simp only [actS]
         refine wpAnyH_take (i := 20) (oi := ⟨some 53, _, _, _, _, _⟩) (v := ?vx21) rfl (by kernel_rfl) (by kernel_rfl) (by kernel_rfl) (fun _ _ _ h => h) (Or.inl ⟨by rfl, ?yx21⟩) hS ?rx21
         case yx21 =>
          intro wx hSx
          go_simp
          try with_reducible rfl
         try simp only [actS]
         refine wpAnyH_take (i := 21) (oi := ⟨some 54, _, _, _, _, _⟩) (v := ?vx22) rfl (by kernel_rfl) (by kernel_rfl) (by kernel_rfl) (fun _ _ _ h => h) (Or.inl ⟨by rfl, ?yx22⟩) hS ?rx22
         case yx22 =>
          intro wx hSx
          go_simp
          try with_reducible rfl
         try simp only [actS]
         refine wpAnyH_take (i := 22) (oi := ⟨some 55, _, _, _, _, _⟩) (v := ?vx23) rfl (by kernel_rfl) (by kernel_rfl) (by kernel_rfl) (fun _ _ _ h => h) (Or.inl ⟨by rfl, ?yx23⟩) hS ?rx23
         case yx23 =>
          intro wx hSx
          go_simp
          try with_reducible rfl
         try simp only [actS]
         refine wpAnyH_ready (rs := [23]) (by kernel_rfl) (by simp) ?_
         refine (AllReadyH.cons (o := ⟨none, _, _, _, _, _⟩) rfl (fun K hK => ?way24_0) AllReadyH.nil)
         case way24_0 =>
          obtain ⟨m2, f2⟩ := HI.out.cell (contM_at hal)
          have HI2 := HI.out.set (i := a) (by rw [contM_len hak hal]; omega) (max (mm : Int) ((dd : Int) + 1))
          rw [contM_set hal] at HI2
          have HI3 : Hid (DepS w (w5.setCell ⟨D, a, none⟩ (.int .i64 (max (mm : Int) ((dd : Int) + 1)))) B2 D k room (.slice (some ⟨b, off, none⟩) xs.length cap) (contM (evs xs) k a ((depTo (evs xs) a x.ev (c + 1) : Nat) : Int))) := Lib.hid (by rw [HM.out, show ((max mm (dd + 1) : Nat) : Int) = max (mm : Int) ((dd : Int) + 1) by omega]; exact HI2)
          clear HI2
          have hSn := far4 (x := .int .i64 (max (mm : Int) ((dd : Int) + 1))) (D := D) (i := a) hS hDne hDne (show b ≠ D by omega) (show bp ≠ D by omega)
          go_simp
          generalize World.setCell _ _ _ = w6 at HI3 hSn ⊢
          refine hK.out _ _ hSn (fun _ => ?_)
          clear hK K
          try simp only [actS]
          refine wpAnyH_done (by kernel_rfl) ?_ _
          go_wp2_with fail
          refine ⟨⟨c + 1, by omega, by go_num, HI3⟩, ?_⟩
          simp [intOf]; omega
      case way17_1 =>
       go_simp
       refine (hat _ hD2).mono ?_
       rintro e w5 ⟨rfl, gm⟩
       replace HI := Lib.hid (HI.out.on gm)
       have hSn := keep4 hS gm
       clear hD2 hS
       have hS := hSn
       obtain ⟨m0, _⟩ := HI.out.cell (contM_at hal)
       obtain ⟨m1, _⟩ := HI.out.cell (contM_lt hal hta)
       rw [hDD] at m1
       refine hK.out _ _ hSn (fun _ => ?_)
       clear hK K
       try simp only [actS]
       refine wpAnyH_take (i := 18) (oi := ⟨some 51, _, _, _, _, _⟩) (v := ?vx25) rfl (by kernel_rfl) (by kernel_rfl) (by kernel_rfl) (fun _ _ _ h => h) (Or.inl ⟨by rfl, ?yx25⟩) hS ?rx25
       case yx25 =>
        intro wx hSx
        go_simp
        try with_reducible rfl
       try simp only [actS]
       refine wpAnyH_ready (rs := [5, 19]) (by kernel_rfl) (by simp) ?_
       refine (AllReadyH.cons (o := ⟨some 38, _, _, _, _, _⟩) rfl (fun K hK => ?way26_0) (AllReadyH.cons (o := ⟨some 52, _, _, _, _, _⟩) rfl (fun K hK => ?way26_1) AllReadyH.nil))
       case way26_0 =>
        have hSn := hS
        go_simp
        refine hK.out _ _ hSn (fun _ => ?_)
        clear hK K
        try simp only [actS]
        refine wpAnyH_ready (rs := [19]) (by kernel_rfl) (by simp) ?_
        refine (AllReadyH.cons (o := ⟨some 52, _, _, _, _, _⟩) rfl (fun K hK => ?way27_0) AllReadyH.nil)
        case way27_0 =>
         have hSn := hS
         go_simp
         refine hK.out _ _ hSn (fun _ => ?_)
         clear hK K
         try simp only [actS]
         refine wpAnyH_take (i := 20) (oi := ⟨some 53, _, _, _, _, _⟩) (v := ?vx28) rfl (by kernel_rfl) (by kernel_rfl) (by kernel_rfl) (fun _ _ _ h => h) (Or.inl ⟨by rfl, ?yx28⟩) hS ?rx28
         case yx28 =>
          intro wx hSx
          go_simp
          try with_reducible rfl
         try simp only [actS]
         refine wpAnyH_take (i := 21) (oi := ⟨some 54, _, _, _, _, _⟩) (v := ?vx29) rfl (by kernel_rfl) (by kernel_rfl) (by kernel_rfl) (fun _ _ _ h => h) (Or.inl ⟨by rfl, ?yx29⟩) hS ?rx29
         case yx29 =>
          intro wx hSx
          go_simp
          try with_reducible rfl
         try simp only [actS]
         refine wpAnyH_take (i := 22) (oi := ⟨some 55, _, _, _, _, _⟩) (v := ?vx30) rfl (by kernel_rfl) (by kernel_rfl) (by kernel_rfl) (fun _ _ _ h => h) (Or.inl ⟨by rfl, ?yx30⟩) hS ?rx30
         case yx30 =>
          intro wx hSx
          go_simp
          try with_reducible rfl
         try simp only [actS]
         refine wpAnyH_ready (rs := [23]) (by kernel_rfl) (by simp) ?_
         refine (AllReadyH.cons (o := ⟨none, _, _, _, _, _⟩) rfl (fun K hK => ?way31_0) AllReadyH.nil)
         case way31_0 =>
          obtain ⟨m2, f2⟩ := HI.out.cell (contM_at hal)
          have HI2 := HI.out.set (i := a) (by rw [contM_len hak hal]; omega) (max (mm : Int) ((dd : Int) + 1))
          rw [contM_set hal] at HI2
          have HI3 : Hid (DepS w (w5.setCell ⟨D, a, none⟩ (.int .i64 (max (mm : Int) ((dd : Int) + 1)))) B2 D k room (.slice (some ⟨b, off, none⟩) xs.length cap) (contM (evs xs) k a ((depTo (evs xs) a x.ev (c + 1) : Nat) : Int))) := Lib.hid (by rw [HM.out, show ((max mm (dd + 1) : Nat) : Int) = max (mm : Int) ((dd : Int) + 1) by omega]; exact HI2)
          clear HI2
          have hSn := far4 (x := .int .i64 (max (mm : Int) ((dd : Int) + 1))) (D := D) (i := a) hS hDne hDne (show b ≠ D by omega) (show bp ≠ D by omega)
          go_simp
          generalize World.setCell _ _ _ = w6 at HI3 hSn ⊢
          refine hK.out _ _ hSn (fun _ => ?_)
          clear hK K
          try simp only [actS]
          refine wpAnyH_done (by kernel_rfl) ?_ _
          go_wp2_with fail
          refine ⟨⟨c + 1, by omega, by go_num, HI3⟩, ?_⟩
          simp [intOf]; omega
       case way26_1 =>
        have hSn := hS
        go_simp
        refine hK.out _ _ hSn (fun _ => ?_)
        clear hK K
        try simp only [actS]
        refine wpAnyH_take (i := 20) (oi := ⟨some 53, _, _, _, _, _⟩) (v := ?vx32) rfl (by kernel_rfl) (by kernel_rfl) (by kernel_rfl) (fun _ _ _ h => h) (Or.inl ⟨by rfl, ?yx32⟩) hS ?rx32
        case yx32 =>
         intro wx hSx
         go_simp
         try with_reducible rfl
        try simp only [actS]
        refine wpAnyH_ready (rs := [5]) (by kernel_rfl) (by simp) ?_
        refine (AllReadyH.cons (o := ⟨some 38, _, _, _, _, _⟩) rfl (fun K hK => ?way33_0) AllReadyH.nil)
        case way33_0 =>
         have hSn := hS
         go_simp
         refine hK.out _ _ hSn (fun _ => ?_)
         clear hK K
         try simp only [actS]
         refine wpAnyH_take (i := 21) (oi := ⟨some 54, _, _, _, _, _⟩) (v := ?vx34) rfl (by kernel_rfl) (by kernel_rfl) (by kernel_rfl) (fun _ _ _ h => h) (Or.inl ⟨by rfl, ?yx34⟩) hS ?rx34
         case yx34 =>
          intro wx hSx
          go_simp
          try with_reducible rfl
         try simp only [actS]
         refine wpAnyH_take (i := 22) (oi := ⟨some 55, _, _, _, _, _⟩) (v := ?vx35) rfl (by kernel_rfl) (by kernel_rfl) (by kernel_rfl) (fun _ _ _ h => h) (Or.inl ⟨by rfl, ?yx35⟩) hS ?rx35
         case yx35 =>
          intro wx hSx
          go_simp
          try with_reducible rfl
         try simp only [actS]
         refine wpAnyH_ready (rs := [23]) (by kernel_rfl) (by simp) ?_
         refine (AllReadyH.cons (o := ⟨none, _, _, _, _, _⟩) rfl (fun K hK => ?way36_0) AllReadyH.nil)
         case way36_0 =>
          obtain ⟨m2, f2⟩ := HI.out.cell (contM_at hal)
          have HI2 := HI.out.set (i := a) (by rw [contM_len hak hal]; omega) (max (mm : Int) ((dd : Int) + 1))
          rw [contM_set hal] at HI2
          have HI3 : Hid (DepS w (w5.setCell ⟨D, a, none⟩ (.int .i64 (max (mm : Int) ((dd : Int) + 1)))) B2 D k room (.slice (some ⟨b, off, none⟩) xs.length cap) (contM (evs xs) k a ((depTo (evs xs) a x.ev (c + 1) : Nat) : Int))) := Lib.hid (by rw [HM.out, show ((max mm (dd + 1) : Nat) : Int) = max (mm : Int) ((dd : Int) + 1) by omega]; exact HI2)
          clear HI2
          have hSn := far4 (x := .int .i64 (max (mm : Int) ((dd : Int) + 1))) (D := D) (i := a) hS hDne hDne (show b ≠ D by omega) (show bp ≠ D by omega)
          go_simp
          generalize World.setCell _ _ _ = w6 at HI3 hSn ⊢
          refine hK.out _ _ hSn (fun _ => ?_)
          clear hK K
          try simp only [actS]
          refine wpAnyH_done (by kernel_rfl) ?_ _
          go_wp2_with fail
          refine ⟨⟨c + 1, by omega, by go_num, HI3⟩, ?_⟩
          simp [intOf]; omega
     ·have q3 : decide ((c : Int) < (x.ev.parents.length : Int)) = false := decide_eq_false (by omega)
      obtain rfl : c = x.ev.parents.length := by omega
      have HN : Hid (DepS w wr B2 D k room (.slice (some ⟨b, off, none⟩) xs.length cap) (cont (evs xs) k (a + 1))) := Lib.hid (by
       have := HI.out
       rw [depTo_all HV.out Hxe.out, contM_next Hxe.out hak] at this
       exact this)
      clear HI hcw
      go_wp2_with fail
      refine ⟨⟨a + 1, by omega, by go_num, HN⟩, ?_⟩
      simp [intOf]; omega
   ·have q2 : decide ((a : Int) ≤ (k : Int)) = false := decide_eq_false (by omega)
    obtain rfl : a = k + 1 := by omega
    obtain ⟨m0, _⟩ := HO.out.cell (cont_last (by rw [evs_len]; exact hk))
    generalize (deps (evs xs)).getD k 0 = dv at m0 HD
    go_wp2_with fail
    go_ret
    rw [HD.out]
    exact ⟨rfl, HO.out.gr⟩
end Go.Proofs.YtnnapkakbdpkaaaGreat

namespace Go.Proofs.YtnnapkakbdpkaaaGreat
set_option maxRecDepth 20000
open Go.RowKit
set_option maxHeartbeats 800000 in
theorem refPosition_any (room key : ByteArray) (v : Value) (xs : List EvV) (w : World) (h : EvsS w v xs) (hv : Valid room (evs xs)) (hl : xs.length ≤ 1000) :
  Calls Tryz.prog 65 #[.agg #[.string room, v], .string key] w fun e w' => e = .returned (.agg #[.int .i64 (posL (evs xs) key).depth, .string (posL (evs xs) key).id]) ∧ Gr w w' := by
 have s1 : ∀ (u : World) (o : Obj), (u.alloc o).heap.size = u.heap.size + 1 := fun u o => by simp
 have h2 := heap_alloc_new w (.cells #[.string room, v] 93)
 have h4 := heap_alloc_new (w.alloc (.cells #[.string room, v] 93)) (.cells #[.int .i64 0, .string ⟨#[]⟩] 83)
 rw [s1] at h4
 have HG := Lib.hid (((Gr.refl w).alloc (.cells #[.string room, v] 93)).alloc (.cells #[.int .i64 0, .string ⟨#[]⟩] 83))
 have HB := Lib.hid ((heap_alloc_old (w.alloc (.cells #[.string room, v] 93)) (.cells #[.int .i64 0, .string ⟨#[]⟩] 83) (smem_lt h2)).trans h2)
 have HP := Lib.hid h4
 have HC := Lib.hid (fun W hW => refDepth_any room key v xs W (h.below hW) hv hl)
 obtain ⟨A, cap, rfl, _⟩ := id h.1
 have hd : (posL (evs xs) key) = ⟨((depthL (evs xs) key : Nat) : Int), key⟩ := rfl
 rw [hd]
 generalize depthL (evs xs) key = dp at HC
 clear h hv h2 h4 s1 hd
 go_enter Tryz.func65, Tryz.ntmps65
 go_upto_region 1 with (fail)
 generalize World.alloc _ _ = w1 at HG HB HP ⊢
 have hB4 : w.heap.size ≤ w.heap.size + 1 := Nat.le_succ _
 generalize w.heap.size + 1 = B4 at HP hB4 ⊢
 generalize hB2 : w.heap.size = B2 at HB ⊢
 have c0 : w1.cell? ⟨B2, 0, none⟩ = some (.string room) := cell_at HB.out 0
 have c1 : w1.cell? ⟨B2, 1, none⟩ = some (.slice A xs.length cap) := cell_at HB.out 1
 go_wp2_with fail
 go_at_call 91
 refine (HC.out w1 (by have := HG.out.below; rw [← hB2] at *; exact this)).mono ?_
 rintro e w2 ⟨rfl, gm⟩
 replace HG := Lib.hid (HG.out.trans gm)
 replace HP := Lib.hid ((gm.below.block B4 (smem_lt HP.out)).trans HP.out)
 clear gm c0 c1
 have c0 : w2.cell? ⟨B4, 0, none⟩ = some (.int .i64 0) := cell_at HP.out 0
 have c1 : w2.cell? ⟨B4, 1, none⟩ = some (.string ⟨#[]⟩) := cell_at HP.out 1
 have f0 : w2.frozen? ⟨B4, 0, none⟩ = false := free_at HP.out 0
 have f1 : w2.frozen? ⟨B4, 1, none⟩ = false := free_at HP.out 1
 have HF := Lib.hid ((HG.out.setCell (b := B4) (by omega) 0 (.int .i64 (dp : Int))).setCell (b := B4) (by omega) 1 (.string key))
 have HZ := Lib.hid (sm_at B4 83 [.int .i64 (dp : Int), .string key] 0 w2 _ HP.out (Nat.le_refl 2))
 simp only [World.setCells] at HZ
 go_wp2_with fail
 clear c0 c1 f0 f1
 generalize World.setCell _ _ _ = w9 at HF HZ ⊢
 obtain ⟨cur, z1, z2, z3⟩ := HZ.out
 have g0 : w9.cell? ⟨B4, 0, none⟩ = some (.int .i64 (dp : Int)) := by rw [cell_at z1 0, ← Array.getElem?_toList, z3]; rfl
 have g1 : w9.cell? ⟨B4, 1, none⟩ = some (.string key) := by rw [cell_at z1 1, ← Array.getElem?_toList, z3]; rfl
 refine bodyPost_ret (v := .agg #[.int .i64 (dp : Int), .string key]) ?_ rfl ⟨rfl, HF.out⟩
 simp [results, Tryz.results65, go_sem, g0, g1]
end Go.Proofs.YtnnapkakbdpkaaaGreat
