/-
  Whether two lists of texts, two events, two lists of events are the same.
-/
import Derived.Test.YtjiecjpepiknmaaGreatDagAdd
namespace Go.Proofs.YtjiecjpepiknmaaGreat
set_option maxRecDepth 20000
open Go.RowKit
set_option linter.unusedVariables false
set_option linter.unusedSimpArgs false

theorem same_miss {α : Type} {xs ys : List α} {j : Nat} {x y : α} (hx : xs[j]? = some x) (hy : ys[j]? = some y) (h : x ≠ y) : xs ≠ ys := by
  rintro rfl
  rw [hx] at hy
  injection hy with hy
  exact h hy
theorem same_all {α : Type} {xs ys : List α} (hl : xs.length = ys.length) (h : ∀ (j : Nat) x y, xs[j]? = some x → ys[j]? = some y → x = y) : xs = ys := by
  refine List.ext_getElem? fun j => ?_
  by_cases hj : j < xs.length
  · rw [List.getElem?_eq_getElem hj, List.getElem?_eq_getElem (by omega)]
    exact congrArg some (h j _ _ (List.getElem?_eq_getElem hj) (List.getElem?_eq_getElem (by omega)))
  · rw [List.getElem?_eq_none (by omega), List.getElem?_eq_none (by omega)]
theorem drewN_slice {α : Type} {L : Lies α} {w : World} {v : Value} {xs : List α} (h : L.Slice w v xs) (d : Nat) : L.Slice (w.drewN d) v xs := h

set_option maxHeartbeats 1600000 in
theorem sameTexts_any (v v' : Value) (xs ys : List ByteArray) (w : World) (h : LT.Slice w v xs) (h' : LT.Slice w v' ys) :
    Calls Tryz.prog 17 #[v, v'] w fun e w' => e = .returned (.bool (decide (xs = ys))) ∧ ∃ d, w' = w.drewN d := by
  have H := Lib.hid h
  have H' := Lib.hid h'
  have hl := h.len
  have hl' := h'.len
  unfold maxLen at hl hl'
  obtain ⟨A, cap, rfl, _⟩ := h
  obtain ⟨A', cap', rfl, _⟩ := h'
  by_cases hn : xs.length = ys.length
  · have q0 : ((xs.length : Int) != (ys.length : Int)) = false := by rw [bne_eq_false_iff_eq]; omega
    have Hn := Lib.hid hn
    clear hn
    go_enter Tryz.func17, Tryz.ntmps17
    go_wp2_with fail
    go_loopw [5] (fun i wr => ∃ j d : Nat, j ≤ xs.length ∧ i = .int .i64 (j : Int) ∧ wr = w.drewN d ∧ Hid (∀ (a : Nat) x y, a < j → xs[a]? = some x → ys[a]? = some y → x = y)) (fun i _ => xs.length - (intOf i).toNat)
    case atStart => exact ⟨0, 0, by omega, rfl, rfl, Lib.hid (fun a x y ha _ _ => by omega)⟩
    case round =>
      obtain ⟨j, d, hj, rfl, rfl, HJ⟩ := hrel
      by_cases hlt : j < xs.length
      · have q1 : decide ((j : Int) < (xs.length : Int)) = true := decide_eq_true (by omega)
        have hlt' : j < ys.length := by have := Hn.out; omega
        have i0 : (0 : Int) ≤ (j : Int) := by omega
        have i1 : (j : Int) < (xs.length : Int) := by omega
        have i2 : (j : Int) < (ys.length : Int) := by omega
        have hx : xs[j]? = some xs[j] := List.getElem?_eq_getElem hlt
        have hy : ys[j]? = some ys[j] := List.getElem?_eq_getElem hlt'
        generalize xs[j] = x at hx
        generalize ys[j] = y at hy
        obtain ⟨b, off, rfl, hb, hr⟩ := H.out.at hx
        obtain ⟨b', off', rfl, hb', hr'⟩ := H'.out.at hy
        have d0 : w.cell? ⟨b, off + j, none⟩ = some (.string x) := by have := hr 0 _ rfl; simpa [LT] using this
        have d1 : w.cell? ⟨b', off' + j, none⟩ = some (.string y) := by have := hr' 0 _ rfl; simpa [LT] using this
        have Hx := Lib.hid hx
        have Hy := Lib.hid hy
        clear hx hy hr hr'
        by_cases hk : x = y
        · have q2 : (x.toList == y.toList) = true := by rw [keyB]; exact decide_eq_true hk
          have HJ2 : Hid (∀ (a : Nat) u v, a < j + 1 → xs[a]? = some u → ys[a]? = some v → u = v) := Lib.hid (fun a u v ha hu hv => by
            by_cases haj : a < j
            · exact HJ.out a u v haj hu hv
            · obtain rfl : a = j := by omega
              rw [Hx.out] at hu
              rw [Hy.out] at hv
              injection hu with hu
              injection hv with hv
              rw [← hu, ← hv]
              exact hk)
          replace hk := Lib.hid hk
          go_wp2_with fail
          go_quiet (fail)
          go_wp2_with fail
          refine ⟨⟨j + 1, d + nq, by omega, by go_num, rfl, HJ2⟩, ?_⟩
          simp [intOf]; omega
        · have q2 : (x.toList == y.toList) = false := by rw [keyB]; exact decide_eq_false hk
          have HE := Lib.hid (decide_eq_false (same_miss Hx.out Hy.out hk))
          replace hk := Lib.hid hk
          go_wp2_with fail
          go_quiet (fail)
          go_wp2_with fail
          go_ret
          rw [HE.out]
          exact ⟨rfl, _, World.drewN_drewN _ _ _⟩
      · have q1 : decide ((j : Int) < (xs.length : Int)) = false := decide_eq_false (by omega)
        have HE := Lib.hid (decide_eq_true (same_all Hn.out (fun a x y hx hy => HJ.out a x y (by have := (List.getElem?_eq_some_iff.1 hx).1; omega) hx hy)))
        go_wp2_with fail
        go_ret
        rw [HE.out]
        exact ⟨rfl, _, rfl⟩
  · have q0 : ((xs.length : Int) != (ys.length : Int)) = true := by rw [bne_iff_ne]; omega
    have HE := Lib.hid (decide_eq_false (show ¬ xs = ys from fun e => hn (by rw [e])))
    clear hn
    go_enter Tryz.func17, Tryz.ntmps17
    go_wp2_with fail
    go_ret
    rw [HE.out]
    exact ⟨rfl, 0, rfl⟩

theorem same_ev (a b : Ev) : decide (a = b) = (decide (a.parents = b.parents) && (a.id.toList == b.id.toList) && (a.room.toList == b.room.toList) && (a.thread.toList == b.thread.toList) && (a.user.toList == b.user.toList) && (a.does == b.does)) := by
  rw [Bool.eq_iff_iff]
  simp only [keyB, Bool.and_eq_true, decide_eq_true_eq, beq_iff_eq]
  cases a; cases b
  simp only [Ev.mk.injEq]
  constructor
  · rintro ⟨h1, h2, h3, h4, h5, h6⟩
    exact ⟨⟨⟨⟨⟨h3, h1⟩, h2⟩, h4⟩, h5⟩, h6⟩
  · rintro ⟨⟨⟨⟨⟨h3, h1⟩, h2⟩, h4⟩, h5⟩, h6⟩
    exact ⟨h1, h2, h3, h4, h5, h6⟩
theorem two_boxes (w : World) (c1 c2 : Array Value) (t : TypeId) : ((w.alloc (.cells c1 t)).alloc (.cells c2 t)).heap[w.heap.size]? = some (.cells c1 t (0, 0)) ∧ ((w.alloc (.cells c1 t)).alloc (.cells c2 t)).heap[w.heap.size + 1]? = some (.cells c2 t (0, 0)) := by
  have h2 := heap_alloc_new w (.cells c1 t)
  have h3 := heap_alloc_new (w.alloc (.cells c1 t)) (.cells c2 t)
  rw [show (w.alloc (.cells c1 t)).heap.size = w.heap.size + 1 by simp] at h3
  exact ⟨(heap_alloc_old _ _ (smem_lt h2)).trans h2, h3⟩
theorem val_of {x : EvV} {A : Option Addr} {n cap : Nat} (h : x.pv = .slice A n cap) : x.val = .agg #[.string x.ev.id, .string x.ev.room, .slice A n cap, .string x.ev.thread, .string x.ev.user, .int .i64 x.ev.does] := by unfold EvV.val; rw [h]

set_option maxHeartbeats 1600000 in
theorem refSame_any (x y : EvV) (w : World) (hx : LT.Slice w x.pv x.ev.parents) (hy : LT.Slice w y.pv y.ev.parents) :
    Calls Tryz.prog 55 #[x.val, y.val] w fun e w' => e = .returned (.bool (decide (x.ev = y.ev))) ∧ Gr w w' := by
  obtain ⟨Ax, cx, hpx, _⟩ := id hx
  obtain ⟨Ay, cy, hpy, _⟩ := id hy
  rw [val_of hpx, val_of hpy, same_ev]
  have HG := Lib.hid (((Gr.refl w).alloc (.cells #[.string x.ev.id, .string x.ev.room, .slice Ax x.ev.parents.length cx, .string x.ev.thread, .string x.ev.user, .int .i64 x.ev.does] 33)).alloc (.cells #[.string y.ev.id, .string y.ev.room, .slice Ay y.ev.parents.length cy, .string y.ev.thread, .string y.ev.user, .int .i64 y.ev.does] 33))
  have HB := Lib.hid (two_boxes w #[.string x.ev.id, .string x.ev.room, .slice Ax x.ev.parents.length cx, .string x.ev.thread, .string x.ev.user, .int .i64 x.ev.does] #[.string y.ev.id, .string y.ev.room, .slice Ay y.ev.parents.length cy, .string y.ev.thread, .string y.ev.user, .int .i64 y.ev.does] 33)
  rw [hpx] at hx
  rw [hpy] at hy
  have HX := Lib.hid hx
  have HY := Lib.hid hy
  clear hx hy hpx hpy
  have hsix := six_ways (decide (x.ev.parents = y.ev.parents)) (x.ev.id.toList == y.ev.id.toList) (x.ev.room.toList == y.ev.room.toList) (x.ev.thread.toList == y.ev.thread.toList) (x.ev.user.toList == y.ev.user.toList) (x.ev.does == y.ev.does)
  go_enter Tryz.func55, Tryz.ntmps55
  go_upto_region 1 with (fail)
  generalize World.alloc _ _ = w1 at HG HB ⊢
  replace HX := Lib.hid (HX.out.below HG.out.below)
  replace HY := Lib.hid (HY.out.below HG.out.below)
  generalize w.heap.size + 1 = B3 at HB ⊢
  generalize w.heap.size = B2 at HB ⊢
  have c0 : w1.cell? ⟨B2, 0, none⟩ = some (.string x.ev.id) := cell_at HB.out.1 0
  have d0 : w1.cell? ⟨B3, 0, none⟩ = some (.string y.ev.id) := cell_at HB.out.2 0
  have c1 : w1.cell? ⟨B2, 1, none⟩ = some (.string x.ev.room) := cell_at HB.out.1 1
  have d1 : w1.cell? ⟨B3, 1, none⟩ = some (.string y.ev.room) := cell_at HB.out.2 1
  have c2 : w1.cell? ⟨B2, 2, none⟩ = some (.slice Ax x.ev.parents.length cx) := cell_at HB.out.1 2
  have d2 : w1.cell? ⟨B3, 2, none⟩ = some (.slice Ay y.ev.parents.length cy) := cell_at HB.out.2 2
  have c3 : w1.cell? ⟨B2, 3, none⟩ = some (.string x.ev.thread) := cell_at HB.out.1 3
  have d3 : w1.cell? ⟨B3, 3, none⟩ = some (.string y.ev.thread) := cell_at HB.out.2 3
  have c4 : w1.cell? ⟨B2, 4, none⟩ = some (.string x.ev.user) := cell_at HB.out.1 4
  have d4 : w1.cell? ⟨B3, 4, none⟩ = some (.string y.ev.user) := cell_at HB.out.2 4
  have c5 : w1.cell? ⟨B2, 5, none⟩ = some (.int .i64 x.ev.does) := cell_at HB.out.1 5
  have d5 : w1.cell? ⟨B3, 5, none⟩ = some (.int .i64 y.ev.does) := cell_at HB.out.2 5
  go_wp2_with fail
  go_at_call 17
  refine (sameTexts_any _ _ _ _ w1 HX.out HY.out).mono ?_
  rintro e w2 ⟨rfl, dd, rfl⟩
  rcases hsix with hh | hh | hh | hh | hh | hh | hh
  · simp only [Bool.and_eq_true] at hh
    obtain ⟨⟨⟨⟨⟨k1, k2⟩, k3⟩, k4⟩, k5⟩, k6⟩ := hh
    go_wp2_with fail
    go_ret
    exact ⟨by simp only [*]; rfl, HG.out.drewN dd⟩
  · have k1 := hh
    go_wp2_with fail
    go_ret
    exact ⟨by simp only [*]; rfl, HG.out.drewN dd⟩
  · obtain ⟨k1, k2⟩ := hh
    go_wp2_with fail
    go_ret
    exact ⟨by simp only [*]; rfl, HG.out.drewN dd⟩
  · obtain ⟨k1, k2, k3⟩ := hh
    go_wp2_with fail
    go_ret
    exact ⟨by simp only [*]; rfl, HG.out.drewN dd⟩
  · obtain ⟨k1, k2, k3, k4⟩ := hh
    go_wp2_with fail
    go_ret
    exact ⟨by simp only [*]; rfl, HG.out.drewN dd⟩
  · obtain ⟨k1, k2, k3, k4, k5⟩ := hh
    go_wp2_with fail
    go_ret
    exact ⟨by simp only [*]; rfl, HG.out.drewN dd⟩
  · obtain ⟨k1, k2, k3, k4, k5, k6⟩ := hh
    go_wp2_with fail
    go_ret
    exact ⟨by simp only [*]; rfl, HG.out.drewN dd⟩

theorem evs_len (xs : List EvV) : (evs xs).length = xs.length := by simp [evs]
set_option maxHeartbeats 1600000 in
theorem refSameAll_any (v v' : Value) (xs ys : List EvV) (w : World) (h : EvsS w v xs) (h' : EvsS w v' ys) (hl : xs.length ≤ 1000) (hl' : ys.length ≤ 1000) :
    Calls Tryz.prog 14 #[v, v'] w fun e w' => e = .returned (.bool (decide (evs xs = evs ys))) ∧ Gr w w' := by
  have H := Lib.hid h
  have H' := Lib.hid h'
  obtain ⟨A, cap, rfl, _, hc2, _⟩ := id h.1
  obtain ⟨A', cap', rfl, _, hc2', _⟩ := id h'.1
  unfold maxLen at hc2 hc2'
  have mixed : Tryz.prog.follows .mixedOrders = true := by kernel_rfl
  clear h h'
  by_cases hn : xs.length = ys.length
  · have q0 : ((xs.length : Int) != (ys.length : Int)) = false := by rw [bne_eq_false_iff_eq]; omega
    have Hn := Lib.hid hn
    clear hn
    go_enter Tryz.func14, Tryz.ntmps14
    go_wp2_with fail
    go_loopw [5] (fun i wr => ∃ j : Nat, j ≤ xs.length ∧ i = .int .i64 (j : Int) ∧ Hid (Gr w wr) ∧ Hid (∀ (a : Nat) x y, a < j → (evs xs)[a]? = some x → (evs ys)[a]? = some y → x = y)) (fun i _ => xs.length - (intOf i).toNat)
    case atStart => exact ⟨0, Nat.zero_le _, rfl, Lib.hid (Gr.refl w), Lib.hid (fun a x y ha _ _ => by omega)⟩
    case round =>
      obtain ⟨j, hj, rfl, HG, HJ⟩ := hrel
      by_cases hlt : j < xs.length
      · have q1 : decide ((j : Int) < (xs.length : Int)) = true := decide_eq_true (by omega)
        have hlt' : j < ys.length := by have := Hn.out; omega
        have hx : xs[j]? = some xs[j] := List.getElem?_eq_getElem hlt
        have hy : ys[j]? = some ys[j] := List.getElem?_eq_getElem hlt'
        generalize xs[j] = x at hx
        generalize ys[j] = y at hy
        have Hr := H.out.below HG.out.below
        have Hr' := H'.out.below HG.out.below
        obtain ⟨b, off, rfl, hb, hr⟩ := ev_at Hr hx
        obtain ⟨b', off', rfl, hb', hr'⟩ := ev_at Hr' hy
        have hi := index_any (P := Tryz.prog) knV (by decide) (b := b) (off := off) (cap := cap) hlt
        have hi' := index_any (P := Tryz.prog) knV (by decide) (b := b') (off := off') (cap := cap') hlt'
        simp only [LV] at hi hi'
        have hxp := (Hr.2 x (List.mem_of_getElem? hx)).1
        have hyp := (Hr'.2 y (List.mem_of_getElem? hy)).1
        obtain ⟨Ax, cx, hpx, _⟩ := id hxp
        obtain ⟨Ay, cy, hpy, _⟩ := id hyp
        have hsm := fun q os => refSame_any x y (Sort.grow (wr.drewN q) os) (hxp.below (Gr.below ⟨q, os, rfl⟩)) (hyp.below (Gr.below ⟨q, os, rfl⟩))
        rw [val_of hpx, val_of hpy] at hsm
        obtain ⟨c0, c1, c2, c3, c4, c5⟩ := ev_cells hr
        obtain ⟨d0, d1, d2, d3, d4, d5⟩ := ev_cells hr'
        rw [hpx] at c2
        rw [hpy] at d2
        have g0 := fun q os => cell_grown (w := wr) (a := ⟨b, off + j * 6, none⟩) hb c0 q os
        have k0 := fun q os => cell_grown (w := wr) (a := ⟨b', off' + j * 6, none⟩) hb' d0 q os
        have g1 := fun q os => cell_grown (w := wr) (a := ⟨b, off + j * 6 + 1, none⟩) hb c1 q os
        have k1 := fun q os => cell_grown (w := wr) (a := ⟨b', off' + j * 6 + 1, none⟩) hb' d1 q os
        have g2 := fun q os => cell_grown (w := wr) (a := ⟨b, off + j * 6 + 2, none⟩) hb c2 q os
        have k2 := fun q os => cell_grown (w := wr) (a := ⟨b', off' + j * 6 + 2, none⟩) hb' d2 q os
        have g3 := fun q os => cell_grown (w := wr) (a := ⟨b, off + j * 6 + 3, none⟩) hb c3 q os
        have k3 := fun q os => cell_grown (w := wr) (a := ⟨b', off' + j * 6 + 3, none⟩) hb' d3 q os
        have g4 := fun q os => cell_grown (w := wr) (a := ⟨b, off + j * 6 + 4, none⟩) hb c4 q os
        have k4 := fun q os => cell_grown (w := wr) (a := ⟨b', off' + j * 6 + 4, none⟩) hb' d4 q os
        have g5 := fun q os => cell_grown (w := wr) (a := ⟨b, off + j * 6 + 5, none⟩) hb c5 q os
        have k5 := fun q os => cell_grown (w := wr) (a := ⟨b', off' + j * 6 + 5, none⟩) hb' d5 q os
        have Hx := Lib.hid (evs_get hx)
        have Hy := Lib.hid (evs_get hy)
        clear hx hy hr hr' Hr Hr' hxp hyp hpx hpy c0 c1 c2 c3 c4 c5 d0 d1 d2 d3 d4 d5
        go_upto_region 6 with (fail)
        go_quiet_grown (first | (go_at_call 55; exact Calls.grown_of (hsm _ _)))
        replace HG := Lib.hid (HG.out.trans ⟨(GrownBy.mk nq osq).n, (GrownBy.mk nq osq).os, rfl⟩)
        clear g0 g1 g2 g3 g4 g5 k0 k1 k2 k3 k4 k5 hsm hi hi'
        generalize Sort.grow _ _ = w4 at HG ⊢
        by_cases hk : x.ev = y.ev
        · have q2 : decide (x.ev = y.ev) = true := decide_eq_true hk
          have HJ2 : Hid (∀ (a : Nat) u v, a < j + 1 → (evs xs)[a]? = some u → (evs ys)[a]? = some v → u = v) := Lib.hid (fun a u v ha hu hv => by
            by_cases haj : a < j
            · exact HJ.out a u v haj hu hv
            · obtain rfl : a = j := by omega
              rw [Hx.out] at hu
              rw [Hy.out] at hv
              injection hu with hu
              injection hv with hv
              rw [← hu, ← hv]
              exact hk)
          clear hk
          go_wp2_with fail
          refine ⟨⟨j + 1, by omega, by go_num, HG, HJ2⟩, ?_⟩
          simp [intOf]; omega
        · have q2 : decide (x.ev = y.ev) = false := decide_eq_false hk
          have HE := Lib.hid (decide_eq_false (same_miss Hx.out Hy.out hk))
          clear hk
          go_wp2_with fail
          go_ret
          rw [HE.out]
          exact ⟨rfl, HG.out⟩
      · have q1 : decide ((j : Int) < (xs.length : Int)) = false := decide_eq_false (by omega)
        have HE := Lib.hid (decide_eq_true (same_all (xs := evs xs) (ys := evs ys) (by rw [evs_len, evs_len]; exact Hn.out) (fun a x y hx hy => HJ.out a x y (by have := (List.getElem?_eq_some_iff.1 hx).1; rw [evs_len] at this; omega) hx hy)))
        go_wp2_with fail
        go_ret
        rw [HE.out]
        exact ⟨rfl, HG.out⟩
  · have q0 : ((xs.length : Int) != (ys.length : Int)) = true := by rw [bne_iff_ne]; omega
    have HE := Lib.hid (decide_eq_false (show ¬ evs xs = evs ys from fun e => hn (by rw [← evs_len xs, e, evs_len])))
    clear hn
    go_enter Tryz.func14, Tryz.ntmps14
    go_wp2_with fail
    go_ret
    rw [HE.out]
    exact ⟨rfl, Gr.refl w⟩
end Go.Proofs.YtjiecjpepiknmaaGreat
