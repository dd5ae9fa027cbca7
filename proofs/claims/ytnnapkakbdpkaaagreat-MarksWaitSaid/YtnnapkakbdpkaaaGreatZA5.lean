/-
  What the statements stand on, part ZA5.
-/
import Derived.Test.YtnnapkakbdpkaaaGreatZA4
set_option linter.unusedVariables false
set_option linter.unusedSimpArgs false
namespace Go.Proofs.YtnnapkakbdpkaaaGreat
set_option maxRecDepth 20000
open Go.RowKit
structure AddS (w wr : World) (B2 B3 B4 : Nat) (room : ByteArray) (v : Value) (x : EvV) : Prop where
 b2 : wr.heap[B2]? = some (.cells #[.string room, v] 93 (0, 0))
 b3 : wr.heap[B3]? = some (.cells #[.string x.ev.id, .string x.ev.room, x.pv, .string x.ev.thread, .string x.ev.user, .int .i64 x.ev.does] 52 (0, 0))
 b4 : wr.heap[B4]? = some (.cells #[.string ⟨#[]⟩, .slice none 0 0] 93 (0, 0))
 below : Below w.heap.size w wr
 base : w.heap.size ≤ B4
 ne : B2 ≠ B4
theorem AddS.on {w wr w2 : World} {B2 B3 B4 : Nat} {room : ByteArray} {v : Value} {x : EvV} (h : AddS w wr B2 B3 B4 room v x) (hb : Below wr.heap.size wr w2) : AddS w w2 B2 B3 B4 room v x :=
 ⟨(hb.block B2 (smem_lt h.b2)).trans h.b2, (hb.block B3 (smem_lt h.b3)).trans h.b3, (hb.block B4 (smem_lt h.b4)).trans h.b4, h.below.trans (hb.mono h.below.size), h.base, h.ne⟩
theorem AddS.start (w : World) (room : ByteArray) (v : Value) (x : EvV) : AddS w (((w.alloc (.cells #[.string room, v] 93)).alloc (.cells #[.string x.ev.id, .string x.ev.room, x.pv, .string x.ev.thread, .string x.ev.user, .int .i64 x.ev.does] 52)).alloc (.cells #[.string ⟨#[]⟩, .slice none 0 0] 93)) w.heap.size (w.heap.size + 1) (w.heap.size + 1 + 1) room v x := by
 have h2 := heap_alloc_new w (.cells #[.string room, v] 93)
 have h3 := heap_alloc_new (w.alloc (.cells #[.string room, v] 93)) (.cells #[.string x.ev.id, .string x.ev.room, x.pv, .string x.ev.thread, .string x.ev.user, .int .i64 x.ev.does] 52)
 have h4 := heap_alloc_new ((w.alloc (.cells #[.string room, v] 93)).alloc (.cells #[.string x.ev.id, .string x.ev.room, x.pv, .string x.ev.thread, .string x.ev.user, .int .i64 x.ev.does] 52)) (.cells #[.string ⟨#[]⟩, .slice none 0 0] 93)
 have s1 : ∀ (u : World) (o : Obj), (u.alloc o).heap.size = u.heap.size + 1 := fun u o => by simp
 rw [s1] at h3
 rw [s1, s1] at h4
 refine ⟨?_, ?_, h4, ((Gr.refl w).alloc _ |>.alloc _ |>.alloc _).below, by omega, by omega⟩
 ·rw [heap_alloc_old _ _ (by rw [s1, s1]; omega), heap_alloc_old _ _ (by rw [s1]; omega)]
  exact h2
 ·rw [heap_alloc_old _ _ (by rw [s1, s1]; omega)]
  exact h3
theorem AddS.answer {w wr : World} {B2 B3 B4 : Nat} {room : ByteArray} {v : Value} {x : EvV} (h : AddS w wr B2 B3 B4 room v x) (u : Value) : ((wr.setCell ⟨B4, 0, none⟩ (.string room)).setCell ⟨B4, 1, none⟩ u).cell? ⟨B4, 0, none⟩ = some (.string room) ∧ ((wr.setCell ⟨B4, 0, none⟩ (.string room)).setCell ⟨B4, 1, none⟩ u).cell? ⟨B4, 1, none⟩ = some u ∧ Below w.heap.size w ((wr.setCell ⟨B4, 0, none⟩ (.string room)).setCell ⟨B4, 1, none⟩ u) ∧ ∀ k, k ≠ B4 → ((wr.setCell ⟨B4, 0, none⟩ (.string room)).setCell ⟨B4, 1, none⟩ u).heap[k]? = wr.heap[k]? := by
 obtain ⟨cur, z1, z2, z3⟩ := sm_at B4 93 [.string room, u] 0 wr _ h.b4 (Nat.le_refl 2)
 simp only [World.setCells] at z1
 refine ⟨?_, ?_, h.below.grown (sm_grown wr B4 0 [.string room, u]) h.below.size (fun k hk => by injection hk with hk; have := h.base; omega), fun k hk => sm_far B4 k hk [.string room, u] 0 wr⟩
 ·rw [cell_at z1 0, ← Array.getElem?_toList, z3]; rfl
 ·rw [cell_at z1 1, ← Array.getElem?_toList, z3]; rfl
def AddPost (w : World) (room : ByteArray) (xs : List EvV) (x : EvV) (e : Ending) (w' : World) : Prop :=
 ∃ v' xs', e = .returned (.tuple #[.agg #[.string room, v'], .int .i64 (errA room (evs xs) x.ev)]) ∧ EvsS w' v' xs' ∧ evs xs' = addA room (evs xs) x.ev ∧ Below w.heap.size w w' ∧ (xs' = xs ∨ xs' = xs ++ [x])
theorem AddPost.refuse {w w' : World} {room : ByteArray} {v : Value} {xs : List EvV} {x : EvV} {n : Int} (h : EvsS w v xs) (he : errA room (evs xs) x.ev = n) (hn : n ≠ 0) (hb : Below w.heap.size w w') : AddPost w room xs x (.returned (.tuple #[.agg #[.string room, v], .int .i64 n])) w' :=
 ⟨v, xs, by rw [he], h.below hb, by unfold addA; rw [he, if_neg hn], hb, .inl rfl⟩
theorem idxI_neg {l : List Ev} {k : ByteArray} : hasE l k = false → idxI l k = -1 := fun h => by
 unfold hasE at h
 cases hi : idx l k with
 | none => exact idxI_none hi
 | some i => rw [hi] at h; cases h
theorem idxI_pos {l : List Ev} {k : ByteArray} : hasE l k = true → ∃ i : Nat, idx l k = some i ∧ idxI l k = (i : Int) := fun h => by
 unfold hasE at h
 cases hi : idx l k with
 | none => rw [hi] at h; cases h
 | some i => exact ⟨i, rfl, idxI_some hi⟩
theorem AddPost.takes {w w' : World} {room : ByteArray} {v v' : Value} {xs : List EvV} {x : EvV} {B : Nat} (h : EvsS w v xs) (hx : x.at w) (he : errA room (evs xs) x.ev = 0) (hm : LV.Mine w' B v' (xs ++ [x])) (hb : Below w.heap.size w w') : AddPost w room xs x (.returned (.tuple #[.agg #[.string room, v'], .int .i64 0])) w' :=
 ⟨v', xs ++ [x], by rw [he], ⟨hm.slice, fun y hy => by rcases List.mem_append.1 hy with hy | hy; exact (h.2 y hy).below hb; rw [List.mem_singleton.1 hy]; exact hx.below hb⟩, by unfold addA; rw [he, if_pos rfl]; simp [evs], hb, .inr rfl⟩
theorem fill_ev (x : EvV) : Instr.fill (fun i => some (i * 6, 6)) ((Array.range (1 * 6)).map ((Value.agg #[.string ⟨#[]⟩, .string ⟨#[]⟩, .slice none 0 0, .string ⟨#[]⟩, .string ⟨#[]⟩, .int .i64 0]).cells[· % (Value.agg #[.string ⟨#[]⟩, .string ⟨#[]⟩, .slice none 0 0, .string ⟨#[]⟩, .string ⟨#[]⟩, .int .i64 0]).cells.size]!)) [(0, x.val)] = some x.cells.toArray := by
 cases x
 kernel_rfl
theorem build_ev (x : EvV) (w : World) : (Instr.buildSlice 40 1 #[(0, x.val)]).run Tryz.prog w = .ok (.slice (some ⟨w.heap.size, 0, none⟩) 1 1) (w.alloc (.cells x.cells.toArray 52)) := by
 obtain ⟨i0, hi0, hz0, hz1, hz2⟩ := info_parts knV.info
 refine run_buildSlice w 40 52 1 _ _ i0 _ Tryz.underlying40 hi0 hz0 (by rw [hz1]; decide) (by rw [hz1]; decide) ?_
 rw [hz1]
 exact fill_ev x
theorem wp_buildV {w : World} {o : Oper} {a : Act} {K : Act → World → Prop} {Q : Exit → Act → World → Prop} (s : Operand) (ho : o.op = .buildSlice 40 1 #[(0, s)]) (x : EvV) (hv : a.eval s = x.val)
  (hK : K (a.put o.dst (.slice (some ⟨w.heap.size, 0, none⟩) 1 1)) (w.alloc (.cells x.cells.toArray 52))) : o.wp Tryz.prog a w K Q := by
 have h := build_ev x w
 unfold Oper.wp execOp
 simp only [ho, Sem.run_bind, Sem.run_pure, Result.andThen_ok, List.map_toArray, List.map_cons, List.map_nil, hv, h]
 exact hK
set_option maxHeartbeats 1600000 in
theorem refAdd_any (room : ByteArray) (v : Value) (xs : List EvV) (x : EvV) (w : World) (h : EvsS w v xs) (hx : x.at w) (hl : xs.length ≤ 1000) :
  Calls Tryz.prog 50 #[.agg #[.string room, v], x.val] w (AddPost w room xs x) := by
 have h0 := h.1
 obtain ⟨A, cap, rfl, h1, h2, h3, _⟩ := h0
 have hp0 := hx.1
 obtain ⟨Ap, capp, hpv, hp1, hp2, hp3, _⟩ := hp0
 have hpl := hx.1.len
 unfold maxLen at h2 hpl hp2
 have HS := Lib.hid (AddS.start w room (.slice A xs.length cap) x)
 have HE := Lib.hid h
 have HX := Lib.hid hx
 have HPV := Lib.hid hpv
 have hu : x.val = .agg #[.string x.ev.id, .string x.ev.room, .slice Ap x.ev.parents.length capp, .string x.ev.thread, .string x.ev.user, .int .i64 x.ev.does] := by unfold EvV.val; rw [hpv]
 have mixed : Tryz.prog.follows .mixedOrders = true := by kernel_rfl
 have HU := Lib.hid hu
 rw [hu]
 rw [hpv] at HS
 clear h hx h3 hp3 hpv hu
 go_enter Tryz.func50, Tryz.ntmps50
 go_upto_region 1 with (fail)
 generalize World.alloc _ _ = w1 at HS ⊢
 generalize w.heap.size + 1 + 1 = B4 at HS ⊢
 generalize w.heap.size + 1 = B3 at HS ⊢
 generalize w.heap.size = B2 at HS ⊢
 have c20 : w1.cell? ⟨B2, 0, none⟩ = some (.string room) := cell_at HS.out.b2 0
 have c21 : w1.cell? ⟨B2, 1, none⟩ = some (.slice A xs.length cap) := cell_at HS.out.b2 1
 have c30 : w1.cell? ⟨B3, 0, none⟩ = some (.string x.ev.id) := cell_at HS.out.b3 0
 have c31 : w1.cell? ⟨B3, 1, none⟩ = some (.string x.ev.room) := cell_at HS.out.b3 1
 have c32 : w1.cell? ⟨B3, 2, none⟩ = some (.slice Ap x.ev.parents.length capp) := (cell_at HS.out.b3 2).trans (by rw [← HPV.out]; rfl)
 have c33 : w1.cell? ⟨B3, 3, none⟩ = some (.string x.ev.thread) := cell_at HS.out.b3 3
 have c34 : w1.cell? ⟨B3, 4, none⟩ = some (.string x.ev.user) := cell_at HS.out.b3 4
 have c35 : w1.cell? ⟨B3, 5, none⟩ = some (.int .i64 x.ev.does) := cell_at HS.out.b3 5
 have c40 : w1.cell? ⟨B4, 0, none⟩ = some (.string ⟨#[]⟩) := cell_at HS.out.b4 0
 have c41 : w1.cell? ⟨B4, 1, none⟩ = some (.slice none 0 0) := cell_at HS.out.b4 1
 have f40 : w1.frozen? ⟨B4, 0, none⟩ = false := free_at HS.out.b4 0
 have f41 : w1.frozen? ⟨B4, 1, none⟩ = false := free_at HS.out.b4 1
 have MC := refMay_any x w1 (HX.out.below HS.out.below)
 rw [HU.out] at MC
 go_wp2_with fail
 go_at_call 82
 refine MC.mono ?_
 rintro e w2 ⟨rfl, gm⟩
 replace HS := Lib.hid (HS.out.on (Gr.below gm))
 clear gm MC
 clear c20 c21 c30 c31 c32 c33 c34 c35 c40 c41 f40 f41
 have c20 : w2.cell? ⟨B2, 0, none⟩ = some (.string room) := cell_at HS.out.b2 0
 have c21 : w2.cell? ⟨B2, 1, none⟩ = some (.slice A xs.length cap) := cell_at HS.out.b2 1
 have c30 : w2.cell? ⟨B3, 0, none⟩ = some (.string x.ev.id) := cell_at HS.out.b3 0
 have c31 : w2.cell? ⟨B3, 1, none⟩ = some (.string x.ev.room) := cell_at HS.out.b3 1
 have c32 : w2.cell? ⟨B3, 2, none⟩ = some (.slice Ap x.ev.parents.length capp) := (cell_at HS.out.b3 2).trans (by rw [← HPV.out]; rfl)
 have c33 : w2.cell? ⟨B3, 3, none⟩ = some (.string x.ev.thread) := cell_at HS.out.b3 3
 have c34 : w2.cell? ⟨B3, 4, none⟩ = some (.string x.ev.user) := cell_at HS.out.b3 4
 have c35 : w2.cell? ⟨B3, 5, none⟩ = some (.int .i64 x.ev.does) := cell_at HS.out.b3 5
 have c40 : w2.cell? ⟨B4, 0, none⟩ = some (.string ⟨#[]⟩) := cell_at HS.out.b4 0
 have c41 : w2.cell? ⟨B4, 1, none⟩ = some (.slice none 0 0) := cell_at HS.out.b4 1
 have f40 : w2.frozen? ⟨B4, 0, none⟩ = false := free_at HS.out.b4 0
 have f41 : w2.frozen? ⟨B4, 1, none⟩ = false := free_at HS.out.b4 1
 cases hm : mayE x.ev
 ·have HA := Lib.hid (HS.out.answer (.slice A xs.length cap))
  have HER : Hid (errA room (evs xs) x.ev = 1) := Lib.hid (by unfold errA; rw [hm]; rfl)
  go_wp2_with fail
  clear c20 c21 c30 c31 c32 c33 c34 c35 c40 c41 f40 f41
  generalize World.setCell _ _ _ = w9 at HA ⊢
  obtain ⟨g0, g1, g2, _⟩ := HA.out
  refine bodyPost_ret (v := .tuple #[.agg #[.string room, .slice A xs.length cap], .int .i64 1]) ?_ rfl ?_
  ·simp [results, Tryz.results50, go_sem, g0, g1]
  ·exact AddPost.refuse HE.out HER.out (by decide) g2
 ·by_cases hr : x.ev.room = room
  ·have q1 : (x.ev.room.toList == room.toList) = true := by rw [keyB]; exact decide_eq_true hr
   have q1' : (x.ev.room.toList != room.toList) = false := by rw [bne, q1]; rfl
   have HM : Hid ((mayE x.ev && decide (x.ev.room = room)) = true) := Lib.hid (by rw [hm, decide_eq_true hr]; rfl)
   clear hm hr
   have AC := refAt_any room x.ev.id (.slice A xs.length cap) xs w2 (HE.out.below HS.out.below)
   cases hh : hasE (evs xs) x.ev.id
   ·rw [idxI_neg hh] at AC
    have HH := Lib.hid hh
    clear hh
    go_wp2_with fail
    go_at_call 64
    refine AC.mono ?_
    rintro e w3 ⟨rfl, gm⟩
    replace HS := Lib.hid (HS.out.on (Gr.below gm))
    clear gm AC
    clear c20 c21 c30 c31 c32 c33 c34 c35 c40 c41 f40 f41
    have c20 : w3.cell? ⟨B2, 0, none⟩ = some (.string room) := cell_at HS.out.b2 0
    have c21 : w3.cell? ⟨B2, 1, none⟩ = some (.slice A xs.length cap) := cell_at HS.out.b2 1
    have c30 : w3.cell? ⟨B3, 0, none⟩ = some (.string x.ev.id) := cell_at HS.out.b3 0
    have c31 : w3.cell? ⟨B3, 1, none⟩ = some (.string x.ev.room) := cell_at HS.out.b3 1
    have c32 : w3.cell? ⟨B3, 2, none⟩ = some (.slice Ap x.ev.parents.length capp) := (cell_at HS.out.b3 2).trans (by rw [← HPV.out]; rfl)
    have c33 : w3.cell? ⟨B3, 3, none⟩ = some (.string x.ev.thread) := cell_at HS.out.b3 3
    have c34 : w3.cell? ⟨B3, 4, none⟩ = some (.string x.ev.user) := cell_at HS.out.b3 4
    have c35 : w3.cell? ⟨B3, 5, none⟩ = some (.int .i64 x.ev.does) := cell_at HS.out.b3 5
    have c40 : w3.cell? ⟨B4, 0, none⟩ = some (.string ⟨#[]⟩) := cell_at HS.out.b4 0
    have c41 : w3.cell? ⟨B4, 1, none⟩ = some (.slice none 0 0) := cell_at HS.out.b4 1
    have f40 : w3.frozen? ⟨B4, 0, none⟩ = false := free_at HS.out.b4 0
    have f41 : w3.frozen? ⟨B4, 1, none⟩ = false := free_at HS.out.b4 1
    go_wp2_with fail
    clear c20 c21 c30 c31 c32 c33 c34 c35 c40 c41 f40 f41
    go_loopw [7] (fun i wr => ∃ j : Nat, j ≤ x.ev.parents.length ∧ i = .int .i64 (j : Int) ∧ Hid (AddS w wr B2 B3 B4 room (.slice A xs.length cap) x) ∧ Hid (∀ a, a < j → hasE (evs xs) (x.ev.parents.getD a ⟨#[]⟩) = true)) (fun i _ => x.ev.parents.length - (intOf i).toNat)
    case atStart => exact ⟨0, Nat.zero_le _, rfl, HS, Lib.hid (fun a ha => absurd ha (Nat.not_lt_zero a))⟩
    case round =>
     obtain ⟨j, hj, rfl, HR, HJ⟩ := hrel
     clear HS
     by_cases hlt : j < x.ev.parents.length
     ·have q3 : decide ((j : Int) < (x.ev.parents.length : Int)) = true := decide_eq_true (by omega)
      have i0 : (0 : Int) ≤ (j : Int) := by omega
      have i1 : (j : Int) < (x.ev.parents.length : Int) := by omega
      obtain ⟨b, off, rfl, hbl, hc, hps⟩ := par_at (HX.out.below HR.out.below) HPV.out hlt
      have HP : Hid (x.ev.parents.getD j ⟨#[]⟩ ∈ x.ev.parents) := Lib.hid (by rw [List.getD_eq_getElem?_getD, List.getElem?_eq_getElem hlt]; exact List.getElem_mem _)
      have hat := fun q os => refAt_any room (x.ev.parents.getD j ⟨#[]⟩) (.slice A xs.length cap) xs (Sort.grow (wr.drewN q) os) ((HE.out.below HR.out.below).below (Gr.below ⟨q, os, rfl⟩))
      have c32w : wr.cell? ⟨B3, 2, none⟩ = some (.slice (some ⟨b, off, none⟩) x.ev.parents.length capp) := (cell_at HR.out.b3 2).trans (by rw [← HPV.out]; rfl)
      have c20 := fun q os => cell_grown (w := wr) (a := ⟨B2, 0, none⟩) (smem_lt HR.out.b2) (cell_at HR.out.b2 0) q os
      have c21 := fun q os => cell_grown (w := wr) (a := ⟨B2, 1, none⟩) (smem_lt HR.out.b2) (cell_at HR.out.b2 1) q os
      have c32 := fun q os => cell_grown (w := wr) (a := ⟨B3, 2, none⟩) (smem_lt HR.out.b3) c32w q os
      have cp := fun q os => cell_grown (w := wr) (a := ⟨b, off + j, none⟩) hbl hc q os
      clear hc
      cases hh : hasE (evs xs) (x.ev.parents.getD j ⟨#[]⟩)
      ·rw [idxI_neg hh] at hat
       have HER : Hid (errA room (evs xs) x.ev = 4) := Lib.hid (by
        unfold errA
        rw [if_neg (by rw [HM.out]; decide), if_neg (by rw [HH.out]; decide), if_pos]
        rw [Bool.eq_false_iff]
        intro ha
        have := (List.all_eq_true.1 ha) _ HP.out
        rw [hh] at this
        cases this)
       generalize x.ev.parents.getD j ⟨#[]⟩ = p at *
       go_upto_region 9 with (fail)
       go_quiet_grown (first | (go_at_call 64; exact Calls.grown_of (hat _ _)))
       replace HR := Lib.hid (HR.out.on (Gr.below ⟨(GrownBy.mk nq osq).n, (GrownBy.mk nq osq).os, rfl⟩))
       clear c20 c21 c32 cp hat c32w
       generalize Sort.grow _ _ = w4 at HR ⊢
       have c20 : w4.cell? ⟨B2, 0, none⟩ = some (.string room) := cell_at HR.out.b2 0
       have c21 : w4.cell? ⟨B2, 1, none⟩ = some (.slice A xs.length cap) := cell_at HR.out.b2 1
       have c30 : w4.cell? ⟨B3, 0, none⟩ = some (.string x.ev.id) := cell_at HR.out.b3 0
       have c31 : w4.cell? ⟨B3, 1, none⟩ = some (.string x.ev.room) := cell_at HR.out.b3 1
       have c32 : w4.cell? ⟨B3, 2, none⟩ = some (.slice (some ⟨b, off, none⟩) x.ev.parents.length capp) := (cell_at HR.out.b3 2).trans (by rw [← HPV.out]; rfl)
       have c33 : w4.cell? ⟨B3, 3, none⟩ = some (.string x.ev.thread) := cell_at HR.out.b3 3
       have c34 : w4.cell? ⟨B3, 4, none⟩ = some (.string x.ev.user) := cell_at HR.out.b3 4
       have c35 : w4.cell? ⟨B3, 5, none⟩ = some (.int .i64 x.ev.does) := cell_at HR.out.b3 5
       have c40 : w4.cell? ⟨B4, 0, none⟩ = some (.string ⟨#[]⟩) := cell_at HR.out.b4 0
       have c41 : w4.cell? ⟨B4, 1, none⟩ = some (.slice none 0 0) := cell_at HR.out.b4 1
       have f40 : w4.frozen? ⟨B4, 0, none⟩ = false := free_at HR.out.b4 0
       have f41 : w4.frozen? ⟨B4, 1, none⟩ = false := free_at HR.out.b4 1
       have HA := Lib.hid (HR.out.answer (.slice A xs.length cap))
       go_wp2_with fail
       clear c20 c21 c30 c31 c32 c33 c34 c35 c40 c41 f40 f41
       generalize World.setCell _ _ _ = w9 at HA ⊢
       obtain ⟨g0, g1, g2, _⟩ := HA.out
       refine bodyPost_ret (v := .tuple #[.agg #[.string room, .slice A xs.length cap], .int .i64 4]) ?_ rfl ?_
       ·simp [results, Tryz.results50, go_sem, g0, g1]
       ·exact AddPost.refuse HE.out HER.out (by decide) g2
      ·obtain ⟨i, hi, hii⟩ := idxI_pos hh
       rw [hii] at hat
       have q4 : decide ((i : Int) < 0) = false := decide_eq_false (by omega)
       have HJ2 : Hid (∀ a, a < j + 1 → hasE (evs xs) (x.ev.parents.getD a ⟨#[]⟩) = true) := Lib.hid (fun a ha => by
        by_cases haj : a < j
        ·exact HJ.out a haj
        ·obtain rfl : a = j := by omega
         exact hh)
       clear hi hii hh
       generalize x.ev.parents.getD j ⟨#[]⟩ = p at *
       go_upto_region 9 with (fail)
       go_quiet_grown (first | (go_at_call 64; exact Calls.grown_of (hat _ _)))
       replace HR := Lib.hid (HR.out.on (Gr.below ⟨(GrownBy.mk nq osq).n, (GrownBy.mk nq osq).os, rfl⟩))
       clear c20 c21 c32 cp hat c32w
       generalize Sort.grow _ _ = w4 at HR ⊢
       go_wp2_with fail
       refine ⟨⟨j + 1, by omega, by go_num, HR, HJ2⟩, ?_⟩
       simp [intOf]; omega
     ·have q3 : decide ((j : Int) < (x.ev.parents.length : Int)) = false := decide_eq_false (by omega)
      obtain rfl : j = x.ev.parents.length := by omega
      have HALL : Hid (x.ev.parents.all (hasE (evs xs)) = true) := Lib.hid (by
       rw [List.all_eq_true]
       intro p hp
       obtain ⟨a, ha, he⟩ := List.getElem_of_mem hp
       have := HJ.out a ha
       rw [List.getD_eq_getElem?_getD, List.getElem?_eq_getElem ha, he] at this
       exact this)
      clear HJ
      have c20 : wr.cell? ⟨B2, 0, none⟩ = some (.string room) := cell_at HR.out.b2 0
      have c21 : wr.cell? ⟨B2, 1, none⟩ = some (.slice A xs.length cap) := cell_at HR.out.b2 1
      have c30 : wr.cell? ⟨B3, 0, none⟩ = some (.string x.ev.id) := cell_at HR.out.b3 0
      have c31 : wr.cell? ⟨B3, 1, none⟩ = some (.string x.ev.room) := cell_at HR.out.b3 1
      have c32 : wr.cell? ⟨B3, 2, none⟩ = some (.slice Ap x.ev.parents.length capp) := (cell_at HR.out.b3 2).trans (by rw [← HPV.out]; rfl)
      have c33 : wr.cell? ⟨B3, 3, none⟩ = some (.string x.ev.thread) := cell_at HR.out.b3 3
      have c34 : wr.cell? ⟨B3, 4, none⟩ = some (.string x.ev.user) := cell_at HR.out.b3 4
      have c35 : wr.cell? ⟨B3, 5, none⟩ = some (.int .i64 x.ev.does) := cell_at HR.out.b3 5
      have c40 : wr.cell? ⟨B4, 0, none⟩ = some (.string ⟨#[]⟩) := cell_at HR.out.b4 0
      have c41 : wr.cell? ⟨B4, 1, none⟩ = some (.slice none 0 0) := cell_at HR.out.b4 1
      have f40 : wr.frozen? ⟨B4, 0, none⟩ = false := free_at HR.out.b4 0
      have f41 : wr.frozen? ⟨B4, 1, none⟩ = false := free_at HR.out.b4 1
      by_cases ht : x.ev.thread = ⟨#[]⟩
      ·have q5 : x.ev.thread.toList.isEmpty = true := by rw [ht, empty_list]; rfl
       have HT := Lib.hid ht
       clear ht
       have HER : Hid (errA room (evs xs) x.ev = 0) := Lib.hid (by unfold errA; rw [if_neg (by rw [HM.out]; decide), if_neg (by rw [HH.out]; decide), if_neg (by rw [HALL.out]; decide), if_pos HT.out])
       have HEr := Lib.hid (HE.out.below HR.out.below)
       have hlen : xs.length ≤ 1000 := hl
       go_upto_region 19 with (at_builtin; refine wpList_puts rfl knV (.tmp 71) (.tmp 73) 40 rfl (v := .slice none 0 0) rfl (Lies.Mine.nil wr wr.heap.size) (Nat.le_refl _) (.slice A xs.length cap) xs xs.length rfl rfl (HEr.out.1.srcN knV rfl) (by simp only [List.length_nil, Nat.zero_add]; omega) ?_; simp only [List.length_nil, Nat.zero_add, List.nil_append]; intro A5 cap5 w5 m5 g5 o5; have hb5 : Below wr.heap.size wr w5 := (Below.refl _ _).grown g5 (Nat.le_refl _) (fun k hk => by cases hk); have M5 := Lib.hid m5; have H5 := Lib.hid (HR.out.on hb5); have L5 : Hid (B2 < wr.heap.size ∧ B3 < wr.heap.size ∧ B4 < wr.heap.size ∧ wr.heap.size ≤ w5.heap.size) := Lib.hid ⟨smem_lt HR.out.b2, smem_lt HR.out.b3, smem_lt HR.out.b4, hb5.size⟩; clear m5 g5 o5 hb5)
       clear c20 c21 c30 c31 c32 c33 c34 c35 c40 c41 f40 f41
       clear HR HEr
       refine wp_region_held_drew (S := fun W' => W'.heap[B2]? = some (.cells #[.string room, .slice A xs.length cap] 93 (0, 0)) ∧ W'.heap[B3]? = some (.cells #[.string x.ev.id, .string x.ev.room, x.pv, .string x.ev.thread, .string x.ev.user, .int .i64 x.ev.does] 52 (0, 0))) (by kernel_rfl) ⟨H5.out.b2, H5.out.b3⟩ (fun hS5 => ?_)
       replace H5 := Lib.hid (H5.out.on (show Below w5.heap.size w5 w5.drew from ⟨rfl, rfl, rfl, Nat.le_refl _, fun _ _ => rfl⟩))
       replace M5 := Lib.hid (show LV.Mine w5.drew wr.heap.size (.slice A5 xs.length cap5) xs from M5.out)
       replace L5 := Lib.hid (show B2 < wr.heap.size ∧ B3 < wr.heap.size ∧ B4 < wr.heap.size ∧ wr.heap.size ≤ w5.drew.heap.size from L5.out)
       generalize hwd : w5.drew = wd at H5 M5 L5 hS5 ⊢
       clear hwd
       refine wpAnyH_take (i := 0) (oi := ⟨some 75, _, _, _, _, _⟩) (v := ?vx1) rfl (by kernel_rfl) (by kernel_rfl) (by kernel_rfl) (fun _ _ _ h => h) (Or.inl ⟨by rfl, ?yx1⟩) hS5 ?rx1
       case yx1 =>
        intro wx hSx
        go_simp
        try with_reducible rfl
       try simp only [actS]
       refine wpAnyH_take (i := 1) (oi := ⟨some 76, _, _, _, _, _⟩) (v := ?vx2) rfl (by kernel_rfl) (by kernel_rfl) (by kernel_rfl) (fun _ _ _ h => h) (Or.inl ⟨by rfl, ?yx2⟩) hS5 ?rx2
       case yx2 =>
        intro wx hSx
        have d0 := cell_at hSx.1 0
        go_simp
        try with_reducible rfl
       try simp only [actS]
       refine wpAnyH_take (i := 2) (oi := ⟨some 77, _, _, _, _, _⟩) (v := ?vx3) rfl (by kernel_rfl) (by kernel_rfl) (by kernel_rfl) (fun _ _ _ h => h) (Or.inl ⟨by rfl, ?yx3⟩) hS5 ?rx3
       case yx3 =>
        intro wx hSx
        go_simp
        try with_reducible rfl
       try simp only [actS]
       refine wpAnyH_take (i := 3) (oi := ⟨some 78, _, _, _, _, _⟩) (v := ?vx4) rfl (by kernel_rfl) (by kernel_rfl) (by kernel_rfl) (fun _ _ _ h => h) (Or.inl ⟨by rfl, ?yx4⟩) hS5 ?rx4
       case yx4 =>
        intro wx hSx
        have d0 := cell_at hSx.2 0
        have d1 := cell_at hSx.2 1
        have d2 : wx.cell? ⟨B3, 2, none⟩ = some (.slice Ap x.ev.parents.length capp) := (cell_at hSx.2 2).trans (by rw [← HPV.out]; rfl)
        have d3 := cell_at hSx.2 3
        have d4 := cell_at hSx.2 4
        have d5 := cell_at hSx.2 5
        go_simp
        try with_reducible rfl
       try simp only [actS]
       refine wpAnyH_ready (rs := [4]) (by kernel_rfl) (by simp) ?_
       refine AllReadyH.cons (o := ⟨some 79, _, _, _, _, _⟩) rfl (fun K hK => ?_) AllReadyH.nil
       rw [if_pos (by rfl)]
       refine wp_buildV (.tmp 78) rfl x (by rw [HU.out]; rfl) ?_
       have hb6 := below_new wd (.cells x.cells.toArray 52)
       have H6 := Lib.hid (H5.out.on hb6)
       have M6 := Lib.hid (M5.out.below hb6)
       have S6 := Lib.hid (lit_slice (L := LV) wd x wd.heap.size rfl x.cells.toArray rfl)
       replace S6 := Lib.hid (show LV.Slice (wd.alloc (.cells x.cells.toArray 52)) (.slice (some ⟨wd.heap.size, 0, none⟩) 1 1) [x] from S6.out)
       have L6 : Hid (B2 < wr.heap.size ∧ B3 < wr.heap.size ∧ B4 < wr.heap.size ∧ wr.heap.size ≤ (wd.alloc (.cells x.cells.toArray 52)).heap.size) := Lib.hid ⟨L5.out.1, L5.out.2.1, L5.out.2.2.1, Nat.le_trans L5.out.2.2.2 hb6.size⟩
       clear hb6 H5 M5 L5 hS5
       generalize wd.alloc (.cells x.cells.toArray 52) = w6 at H6 M6 S6 L6 ⊢
       generalize wd.heap.size = B6 at S6 ⊢
       refine hK.out _ _ ⟨H6.out.b2, H6.out.b3⟩ (fun hS6 => ?_)
       clear hK K
       try simp only [actS]
       refine wpAnyH_ready (rs := [5]) (by kernel_rfl) (by simp) ?_
       refine AllReadyH.cons (o := ⟨some 80, _, _, _, _, _⟩) rfl (fun K hK => ?_) AllReadyH.nil
       rw [if_pos (by rfl)]
       refine wp_puts knV (.tmp 77) (.tmp 79) 40 rfl rfl M6.out L6.out.2.2.2 _ [x] 1 rfl rfl (S6.out.srcN knV rfl) (by omega) ?_
       intro A7 cap7 w7 m7 g7 o7
       have hno : ∀ k, k < wr.heap.size → w7.heap[k]? = w6.heap[k]? := fun k hk => g7.block k (by have := L6.out.2.2.2; omega) (fun e => by have := (M6.out.lt k e.symm).1; omega)
       have H7 : Hid (AddS w w7 B2 B3 B4 room (.slice A xs.length cap) x) := Lib.hid ⟨(hno B2 L6.out.1).trans H6.out.b2, (hno B3 L6.out.2.1).trans H6.out.b3, (hno B4 L6.out.2.2.1).trans H6.out.b4, H6.out.below.grown g7 H6.out.below.size (fun k hk => by have := (M6.out.lt k hk).1; have := H6.out.base; have := L6.out.2.2.1; omega), H6.out.base, H6.out.ne⟩
       have M7 := Lib.hid m7
       have L7 := Lib.hid L6.out.2.2.1
       clear m7 g7 o7 hno H6 M6 S6 L6 hS6
       refine hK.out _ _ ⟨H7.out.b2, H7.out.b3⟩ (fun hS7 => ?_)
       clear hK K
       try simp only [actS]
       refine wpAnyH_take (i := 6) (oi := ⟨some 81, _, _, _, _, _⟩) (v := ?vx7) rfl (by kernel_rfl) (by kernel_rfl) (by kernel_rfl) (fun _ _ _ h => h) (Or.inl ⟨by rfl, ?yx7⟩) hS7 ?rx7
       case yx7 =>
        intro wx hSx
        go_simp
        try with_reducible rfl
       try simp only [actS]
       have c40 : w7.cell? ⟨B4, 0, none⟩ = some (.string ⟨#[]⟩) := cell_at H7.out.b4 0
       have c41 : w7.cell? ⟨B4, 1, none⟩ = some (.slice none 0 0) := cell_at H7.out.b4 1
       have f40 : w7.frozen? ⟨B4, 0, none⟩ = false := free_at H7.out.b4 0
       have f41 : w7.frozen? ⟨B4, 1, none⟩ = false := free_at H7.out.b4 1
       have HA := Lib.hid (H7.out.answer (.slice A7 (xs.length + 1) cap7))
       have M8 := Lib.hid (M7.out.keep (w' := (w7.setCell ⟨B4, 0, none⟩ (.string room)).setCell ⟨B4, 1, none⟩ (.slice A7 (xs.length + 1) cap7)) (fun k hk => HA.out.2.2.2 k (fun e => by have := (M7.out.lt k hk).1; have := L7.out; omega)))
       refine wpAnyH_ready (rs := [7]) (by kernel_rfl) (by simp) ?_
       refine AllReadyH.cons (o := ⟨none, _, _, _, _, _⟩) rfl (fun K hK => ?_) AllReadyH.nil
       go_simp
       clear c40 c41 f40 f41
       generalize World.setCell _ _ _ = w9 at HA M8 ⊢
       have hS9 : w9.heap[B2]? = some (.cells #[.string room, .slice A xs.length cap] 93 (0, 0)) ∧ w9.heap[B3]? = some (.cells #[.string x.ev.id, .string x.ev.room, x.pv, .string x.ev.thread, .string x.ev.user, .int .i64 x.ev.does] 52 (0, 0)) := ⟨(HA.out.2.2.2 B2 (H7.out.ne)).trans H7.out.b2, (HA.out.2.2.2 B3 (fun e => by have h1 := H7.out.b3; have h2 := H7.out.b4; rw [e, h2] at h1; injection h1 with h1; injection h1 with _ h1; exact absurd h1 (by decide))).trans H7.out.b3⟩
       refine hK.out _ _ hS9 (fun _ => ?_)
       clear hK K
       try simp only [actS]
       refine wpAnyH_take (i := 8) (oi := ⟨some 5, _, _, _, _, _⟩) (v := ?vx9) rfl (by kernel_rfl) (by kernel_rfl) (by kernel_rfl) (fun _ _ _ h => h) (Or.inl ⟨by rfl, ?yx9⟩) hS9 ?rx9
       case yx9 =>
        intro wx hSx
        go_simp
        try with_reducible rfl
       try simp only [actS]
       refine wpAnyH_done (by kernel_rfl) ?_ _
       go_wp2_with fail
       obtain ⟨g0, g1, g2, _⟩ := HA.out
       refine bodyPost_ret (v := .tuple #[.agg #[.string room, .slice A7 (xs.length + 1) cap7], .int .i64 0]) ?_ rfl ?_
       ·simp [results, Tryz.results50, go_sem, g0, g1]
       ·exact AddPost.takes HE.out HX.out HER.out M8.out g2
      ·have q5 : x.ev.thread.toList.isEmpty = false := by
        rw [Bool.eq_false_iff]
        intro he
        exact ht (key_ext (by rw [List.isEmpty_iff.1 he, empty_list]))
       have HT := Lib.hid ht
       clear ht
       have AC := refAt_any room x.ev.thread (.slice A xs.length cap) xs wr (HE.out.below HR.out.below)
       have HER0 : Hid (errA room (evs xs) x.ev = match idx (evs xs) x.ev.thread with | none => 4 | some k => match (evs xs)[k]? with | none => 4 | some t => if t.thread = ⟨#[]⟩ ∧ t.does = 0 then 0 else 7) := Lib.hid (by unfold errA; rw [if_neg (by rw [HM.out]; decide), if_neg (by rw [HH.out]; decide), if_neg (by rw [HALL.out]; decide), if_neg HT.out]; rfl)
       cases hi : idx (evs xs) x.ev.thread with
       | none =>
        rw [idxI_none hi] at AC
        go_wp2_with fail
        go_at_call 64
        refine AC.mono ?_
        rintro e w3 ⟨rfl, gm⟩
        replace HR := Lib.hid (HR.out.on (Gr.below gm))
        clear gm AC
        clear c20 c21 c30 c31 c32 c33 c34 c35 c40 c41 f40 f41
        have c20 : w3.cell? ⟨B2, 0, none⟩ = some (.string room) := cell_at HR.out.b2 0
        have c21 : w3.cell? ⟨B2, 1, none⟩ = some (.slice A xs.length cap) := cell_at HR.out.b2 1
        have c30 : w3.cell? ⟨B3, 0, none⟩ = some (.string x.ev.id) := cell_at HR.out.b3 0
        have c31 : w3.cell? ⟨B3, 1, none⟩ = some (.string x.ev.room) := cell_at HR.out.b3 1
        have c32 : w3.cell? ⟨B3, 2, none⟩ = some (.slice Ap x.ev.parents.length capp) := (cell_at HR.out.b3 2).trans (by rw [← HPV.out]; rfl)
        have c33 : w3.cell? ⟨B3, 3, none⟩ = some (.string x.ev.thread) := cell_at HR.out.b3 3
        have c34 : w3.cell? ⟨B3, 4, none⟩ = some (.string x.ev.user) := cell_at HR.out.b3 4
        have c35 : w3.cell? ⟨B3, 5, none⟩ = some (.int .i64 x.ev.does) := cell_at HR.out.b3 5
        have c40 : w3.cell? ⟨B4, 0, none⟩ = some (.string ⟨#[]⟩) := cell_at HR.out.b4 0
        have c41 : w3.cell? ⟨B4, 1, none⟩ = some (.slice none 0 0) := cell_at HR.out.b4 1
        have f40 : w3.frozen? ⟨B4, 0, none⟩ = false := free_at HR.out.b4 0
        have f41 : w3.frozen? ⟨B4, 1, none⟩ = false := free_at HR.out.b4 1
        have HA := Lib.hid (HR.out.answer (.slice A xs.length cap))
        have HER : Hid (errA room (evs xs) x.ev = 4) := Lib.hid (by rw [HER0.out, hi])
        go_wp2_with fail
        clear c20 c21 c30 c31 c32 c33 c34 c35 c40 c41 f40 f41
        generalize World.setCell _ _ _ = w9 at HA ⊢
        obtain ⟨g0, g1, g2, _⟩ := HA.out
        refine bodyPost_ret (v := .tuple #[.agg #[.string room, .slice A xs.length cap], .int .i64 4]) ?_ rfl ?_
        ·simp [results, Tryz.results50, go_sem, g0, g1]
        ·exact AddPost.refuse HE.out HER.out (by decide) g2
       | some i =>
        rw [idxI_some hi] at AC
        obtain ⟨tv, htv, _, _⟩ := idx_some hi
        obtain ⟨y, hy, hye⟩ := evs_of htv
        have q6 : decide ((i : Int) < 0) = false := decide_eq_false (by omega)
        have hil : i < xs.length := (List.getElem?_eq_some_iff.1 hy).1
        have HER1 : Hid (errA room (evs xs) x.ev = if y.ev.thread = ⟨#[]⟩ ∧ y.ev.does = 0 then 0 else 7) := Lib.hid (by
         have h1 := HER0.out
         rw [hi] at h1
         simp only [htv, ← hye] at h1
         exact h1)
        obtain ⟨b, off, rfl, hbl, hrg⟩ := ev_at HE.out hy
        have hix := index_any (P := Tryz.prog) knV (by decide) (b := b) (off := off) (cap := cap) hil
        simp only [LV] at hix
        clear HER0 htv hye hi
        go_wp2_with fail
        go_at_call 64
        refine AC.mono ?_
        rintro e w3 ⟨rfl, gm⟩
        replace HR := Lib.hid (HR.out.on (Gr.below gm))
        clear gm AC
        have hrg3 : w3.rangeAt b (off + i * 6) y.cells := fun j u hu => (HR.out.below.cell (p := ⟨b, off + i * 6 + j, none⟩) hbl).trans (hrg j u hu)
        obtain ⟨_, _, _, e3, _, e5⟩ := ev_cells hrg3
        clear hrg hrg3
        clear c20 c21 c30 c31 c32 c33 c34 c35 c40 c41 f40 f41
        have c20 : w3.cell? ⟨B2, 0, none⟩ = some (.string room) := cell_at HR.out.b2 0
        have c21 : w3.cell? ⟨B2, 1, none⟩ = some (.slice (some ⟨b, off, none⟩) xs.length cap) := cell_at HR.out.b2 1
        have c30 : w3.cell? ⟨B3, 0, none⟩ = some (.string x.ev.id) := cell_at HR.out.b3 0
        have c31 : w3.cell? ⟨B3, 1, none⟩ = some (.string x.ev.room) := cell_at HR.out.b3 1
        have c32 : w3.cell? ⟨B3, 2, none⟩ = some (.slice Ap x.ev.parents.length capp) := (cell_at HR.out.b3 2).trans (by rw [← HPV.out]; rfl)
        have c33 : w3.cell? ⟨B3, 3, none⟩ = some (.string x.ev.thread) := cell_at HR.out.b3 3
        have c34 : w3.cell? ⟨B3, 4, none⟩ = some (.string x.ev.user) := cell_at HR.out.b3 4
        have c35 : w3.cell? ⟨B3, 5, none⟩ = some (.int .i64 x.ev.does) := cell_at HR.out.b3 5
        have c40 : w3.cell? ⟨B4, 0, none⟩ = some (.string ⟨#[]⟩) := cell_at HR.out.b4 0
        have c41 : w3.cell? ⟨B4, 1, none⟩ = some (.slice none 0 0) := cell_at HR.out.b4 1
        have f40 : w3.frozen? ⟨B4, 0, none⟩ = false := free_at HR.out.b4 0
        have f41 : w3.frozen? ⟨B4, 1, none⟩ = false := free_at HR.out.b4 1
        by_cases hyt : y.ev.thread = ⟨#[]⟩
        ·have q7 : y.ev.thread.toList.isEmpty = true := by rw [hyt, empty_list]; rfl
         by_cases hyd : y.ev.does = 0
         ·have q8 : (y.ev.does != 0) = false := by simp [hyd]
          have HERZ : Hid (errA room (evs xs) x.ev = 0) := Lib.hid (by rw [HER1.out, if_pos ⟨hyt, hyd⟩])
          clear hyt hyd HER1
          have HER : Hid (errA room (evs xs) x.ev = 0) := Lib.hid (by exact HERZ.out)
          have HEr := Lib.hid (HE.out.below HR.out.below)
          have hlen : xs.length ≤ 1000 := hl
          go_upto_region 19 with (at_builtin; refine wpList_puts rfl knV (.tmp 71) (.tmp 73) 40 rfl (v := .slice none 0 0) rfl (Lies.Mine.nil w3 w3.heap.size) (Nat.le_refl _) (.slice (some ⟨b, off, none⟩) xs.length cap) xs xs.length rfl rfl (HEr.out.1.srcN knV rfl) (by simp only [List.length_nil, Nat.zero_add]; omega) ?_; simp only [List.length_nil, Nat.zero_add, List.nil_append]; intro A5 cap5 w5 m5 g5 o5; have hb5 : Below w3.heap.size w3 w5 := (Below.refl _ _).grown g5 (Nat.le_refl _) (fun k hk => by cases hk); have M5 := Lib.hid m5; have H5 := Lib.hid (HR.out.on hb5); have L5 : Hid (B2 < w3.heap.size ∧ B3 < w3.heap.size ∧ B4 < w3.heap.size ∧ w3.heap.size ≤ w5.heap.size) := Lib.hid ⟨smem_lt HR.out.b2, smem_lt HR.out.b3, smem_lt HR.out.b4, hb5.size⟩; clear m5 g5 o5 hb5)
          clear c20 c21 c30 c31 c32 c33 c34 c35 c40 c41 f40 f41
          clear HR HEr
          refine wp_region_held_drew (S := fun W' => W'.heap[B2]? = some (.cells #[.string room, .slice (some ⟨b, off, none⟩) xs.length cap] 93 (0, 0)) ∧ W'.heap[B3]? = some (.cells #[.string x.ev.id, .string x.ev.room, x.pv, .string x.ev.thread, .string x.ev.user, .int .i64 x.ev.does] 52 (0, 0))) (by kernel_rfl) ⟨H5.out.b2, H5.out.b3⟩ (fun hS5 => ?_)
          replace H5 := Lib.hid (H5.out.on (show Below w5.heap.size w5 w5.drew from ⟨rfl, rfl, rfl, Nat.le_refl _, fun _ _ => rfl⟩))
          replace M5 := Lib.hid (show LV.Mine w5.drew w3.heap.size (.slice A5 xs.length cap5) xs from M5.out)
          replace L5 := Lib.hid (show B2 < w3.heap.size ∧ B3 < w3.heap.size ∧ B4 < w3.heap.size ∧ w3.heap.size ≤ w5.drew.heap.size from L5.out)
          generalize hwd : w5.drew = wd at H5 M5 L5 hS5 ⊢
          clear hwd
          refine wpAnyH_take (i := 0) (oi := ⟨some 75, _, _, _, _, _⟩) (v := ?vx10) rfl (by kernel_rfl) (by kernel_rfl) (by kernel_rfl) (fun _ _ _ h => h) (Or.inl ⟨by rfl, ?yx10⟩) hS5 ?rx10
          case yx10 =>
           intro wx hSx
           go_simp
           try with_reducible rfl
          try simp only [actS]
          refine wpAnyH_take (i := 1) (oi := ⟨some 76, _, _, _, _, _⟩) (v := ?vx11) rfl (by kernel_rfl) (by kernel_rfl) (by kernel_rfl) (fun _ _ _ h => h) (Or.inl ⟨by rfl, ?yx11⟩) hS5 ?rx11
          case yx11 =>
           intro wx hSx
           have d0 := cell_at hSx.1 0
           go_simp
           try with_reducible rfl
          try simp only [actS]
          refine wpAnyH_take (i := 2) (oi := ⟨some 77, _, _, _, _, _⟩) (v := ?vx12) rfl (by kernel_rfl) (by kernel_rfl) (by kernel_rfl) (fun _ _ _ h => h) (Or.inl ⟨by rfl, ?yx12⟩) hS5 ?rx12
          case yx12 =>
           intro wx hSx
           go_simp
           try with_reducible rfl
          try simp only [actS]
          refine wpAnyH_take (i := 3) (oi := ⟨some 78, _, _, _, _, _⟩) (v := ?vx13) rfl (by kernel_rfl) (by kernel_rfl) (by kernel_rfl) (fun _ _ _ h => h) (Or.inl ⟨by rfl, ?yx13⟩) hS5 ?rx13
          case yx13 =>
           intro wx hSx
           have d0 := cell_at hSx.2 0
           have d1 := cell_at hSx.2 1
           have d2 : wx.cell? ⟨B3, 2, none⟩ = some (.slice Ap x.ev.parents.length capp) := (cell_at hSx.2 2).trans (by rw [← HPV.out]; rfl)
           have d3 := cell_at hSx.2 3
           have d4 := cell_at hSx.2 4
           have d5 := cell_at hSx.2 5
           go_simp
           try with_reducible rfl
          try simp only [actS]
          refine wpAnyH_ready (rs := [4]) (by kernel_rfl) (by simp) ?_
          refine AllReadyH.cons (o := ⟨some 79, _, _, _, _, _⟩) rfl (fun K hK => ?_) AllReadyH.nil
          rw [if_pos (by rfl)]
          refine wp_buildV (.tmp 78) rfl x (by rw [HU.out]; rfl) ?_
          have hb6 := below_new wd (.cells x.cells.toArray 52)
          have H6 := Lib.hid (H5.out.on hb6)
          have M6 := Lib.hid (M5.out.below hb6)
          have S6 := Lib.hid (lit_slice (L := LV) wd x wd.heap.size rfl x.cells.toArray rfl)
          replace S6 := Lib.hid (show LV.Slice (wd.alloc (.cells x.cells.toArray 52)) (.slice (some ⟨wd.heap.size, 0, none⟩) 1 1) [x] from S6.out)
          have L6 : Hid (B2 < w3.heap.size ∧ B3 < w3.heap.size ∧ B4 < w3.heap.size ∧ w3.heap.size ≤ (wd.alloc (.cells x.cells.toArray 52)).heap.size) := Lib.hid ⟨L5.out.1, L5.out.2.1, L5.out.2.2.1, Nat.le_trans L5.out.2.2.2 hb6.size⟩
          clear hb6 H5 M5 L5 hS5
          generalize wd.alloc (.cells x.cells.toArray 52) = w6 at H6 M6 S6 L6 ⊢
          generalize wd.heap.size = B6 at S6 ⊢
          refine hK.out _ _ ⟨H6.out.b2, H6.out.b3⟩ (fun hS6 => ?_)
          clear hK K
          try simp only [actS]
          refine wpAnyH_ready (rs := [5]) (by kernel_rfl) (by simp) ?_
          refine AllReadyH.cons (o := ⟨some 80, _, _, _, _, _⟩) rfl (fun K hK => ?_) AllReadyH.nil
          rw [if_pos (by rfl)]
          refine wp_puts knV (.tmp 77) (.tmp 79) 40 rfl rfl M6.out L6.out.2.2.2 _ [x] 1 rfl rfl (S6.out.srcN knV rfl) (by omega) ?_
          intro A7 cap7 w7 m7 g7 o7
          have hno : ∀ k, k < w3.heap.size → w7.heap[k]? = w6.heap[k]? := fun k hk => g7.block k (by have := L6.out.2.2.2; omega) (fun e => by have := (M6.out.lt k e.symm).1; omega)
          have H7 : Hid (AddS w w7 B2 B3 B4 room (.slice (some ⟨b, off, none⟩) xs.length cap) x) := Lib.hid ⟨(hno B2 L6.out.1).trans H6.out.b2, (hno B3 L6.out.2.1).trans H6.out.b3, (hno B4 L6.out.2.2.1).trans H6.out.b4, H6.out.below.grown g7 H6.out.below.size (fun k hk => by have := (M6.out.lt k hk).1; have := H6.out.base; have := L6.out.2.2.1; omega), H6.out.base, H6.out.ne⟩
          have M7 := Lib.hid m7
          have L7 := Lib.hid L6.out.2.2.1
          clear m7 g7 o7 hno H6 M6 S6 L6 hS6
          refine hK.out _ _ ⟨H7.out.b2, H7.out.b3⟩ (fun hS7 => ?_)
          clear hK K
          try simp only [actS]
          refine wpAnyH_take (i := 6) (oi := ⟨some 81, _, _, _, _, _⟩) (v := ?vx16) rfl (by kernel_rfl) (by kernel_rfl) (by kernel_rfl) (fun _ _ _ h => h) (Or.inl ⟨by rfl, ?yx16⟩) hS7 ?rx16
          case yx16 =>
           intro wx hSx
           go_simp
           try with_reducible rfl
          try simp only [actS]
          have c40 : w7.cell? ⟨B4, 0, none⟩ = some (.string ⟨#[]⟩) := cell_at H7.out.b4 0
          have c41 : w7.cell? ⟨B4, 1, none⟩ = some (.slice none 0 0) := cell_at H7.out.b4 1
          have f40 : w7.frozen? ⟨B4, 0, none⟩ = false := free_at H7.out.b4 0
          have f41 : w7.frozen? ⟨B4, 1, none⟩ = false := free_at H7.out.b4 1
          have HA := Lib.hid (H7.out.answer (.slice A7 (xs.length + 1) cap7))
          have M8 := Lib.hid (M7.out.keep (w' := (w7.setCell ⟨B4, 0, none⟩ (.string room)).setCell ⟨B4, 1, none⟩ (.slice A7 (xs.length + 1) cap7)) (fun k hk => HA.out.2.2.2 k (fun e => by have := (M7.out.lt k hk).1; have := L7.out; omega)))
          refine wpAnyH_ready (rs := [7]) (by kernel_rfl) (by simp) ?_
          refine AllReadyH.cons (o := ⟨none, _, _, _, _, _⟩) rfl (fun K hK => ?_) AllReadyH.nil
          go_simp
          clear c40 c41 f40 f41
          generalize World.setCell _ _ _ = w9 at HA M8 ⊢
          have hS9 : w9.heap[B2]? = some (.cells #[.string room, .slice (some ⟨b, off, none⟩) xs.length cap] 93 (0, 0)) ∧ w9.heap[B3]? = some (.cells #[.string x.ev.id, .string x.ev.room, x.pv, .string x.ev.thread, .string x.ev.user, .int .i64 x.ev.does] 52 (0, 0)) := ⟨(HA.out.2.2.2 B2 (H7.out.ne)).trans H7.out.b2, (HA.out.2.2.2 B3 (fun e => by have h1 := H7.out.b3; have h2 := H7.out.b4; rw [e, h2] at h1; injection h1 with h1; injection h1 with _ h1; exact absurd h1 (by decide))).trans H7.out.b3⟩
          refine hK.out _ _ hS9 (fun _ => ?_)
          clear hK K
          try simp only [actS]
          refine wpAnyH_take (i := 8) (oi := ⟨some 5, _, _, _, _, _⟩) (v := ?vx18) rfl (by kernel_rfl) (by kernel_rfl) (by kernel_rfl) (fun _ _ _ h => h) (Or.inl ⟨by rfl, ?yx18⟩) hS9 ?rx18
          case yx18 =>
           intro wx hSx
           go_simp
           try with_reducible rfl
          try simp only [actS]
          refine wpAnyH_done (by kernel_rfl) ?_ _
          go_wp2_with fail
          obtain ⟨g0, g1, g2, _⟩ := HA.out
          refine bodyPost_ret (v := .tuple #[.agg #[.string room, .slice A7 (xs.length + 1) cap7], .int .i64 0]) ?_ rfl ?_
          ·simp [results, Tryz.results50, go_sem, g0, g1]
          ·exact AddPost.takes HE.out HX.out HER.out M8.out g2
         ·have q8 : (y.ev.does != 0) = true := by simp [hyd]
          have HA := Lib.hid (HR.out.answer (.slice (some ⟨b, off, none⟩) xs.length cap))
          have HER : Hid (errA room (evs xs) x.ev = 7) := Lib.hid (by rw [HER1.out, if_neg (fun h => hyd h.2)])
          go_wp2_with fail
          clear c20 c21 c30 c31 c32 c33 c34 c35 c40 c41 f40 f41
          generalize World.setCell _ _ _ = w9 at HA ⊢
          obtain ⟨g0, g1, g2, _⟩ := HA.out
          refine bodyPost_ret (v := .tuple #[.agg #[.string room, .slice (some ⟨b, off, none⟩) xs.length cap], .int .i64 7]) ?_ rfl ?_
          ·simp [results, Tryz.results50, go_sem, g0, g1]
          ·exact AddPost.refuse HE.out HER.out (by decide) g2
        ·have q7 : y.ev.thread.toList.isEmpty = false := by
          rw [Bool.eq_false_iff]
          intro he
          exact hyt (key_ext (by rw [List.isEmpty_iff.1 he, empty_list]))
         have HA := Lib.hid (HR.out.answer (.slice (some ⟨b, off, none⟩) xs.length cap))
         have HER : Hid (errA room (evs xs) x.ev = 7) := Lib.hid (by rw [HER1.out, if_neg (fun h => hyt h.1)])
         go_wp2_with fail
         clear c20 c21 c30 c31 c32 c33 c34 c35 c40 c41 f40 f41
         generalize World.setCell _ _ _ = w9 at HA ⊢
         obtain ⟨g0, g1, g2, _⟩ := HA.out
         refine bodyPost_ret (v := .tuple #[.agg #[.string room, .slice (some ⟨b, off, none⟩) xs.length cap], .int .i64 7]) ?_ rfl ?_
         ·simp [results, Tryz.results50, go_sem, g0, g1]
         ·exact AddPost.refuse HE.out HER.out (by decide) g2
   ·obtain ⟨i, hi, hii⟩ := idxI_pos hh
    rw [hii] at AC
    have q2 : decide ((0 : Int) ≤ (i : Int)) = true := decide_eq_true (by omega)
    go_wp2_with fail
    go_at_call 64
    refine AC.mono ?_
    rintro e w3 ⟨rfl, gm⟩
    replace HS := Lib.hid (HS.out.on (Gr.below gm))
    clear gm AC
    clear c20 c21 c30 c31 c32 c33 c34 c35 c40 c41 f40 f41
    have c20 : w3.cell? ⟨B2, 0, none⟩ = some (.string room) := cell_at HS.out.b2 0
    have c21 : w3.cell? ⟨B2, 1, none⟩ = some (.slice A xs.length cap) := cell_at HS.out.b2 1
    have c30 : w3.cell? ⟨B3, 0, none⟩ = some (.string x.ev.id) := cell_at HS.out.b3 0
    have c31 : w3.cell? ⟨B3, 1, none⟩ = some (.string x.ev.room) := cell_at HS.out.b3 1
    have c32 : w3.cell? ⟨B3, 2, none⟩ = some (.slice Ap x.ev.parents.length capp) := (cell_at HS.out.b3 2).trans (by rw [← HPV.out]; rfl)
    have c33 : w3.cell? ⟨B3, 3, none⟩ = some (.string x.ev.thread) := cell_at HS.out.b3 3
    have c34 : w3.cell? ⟨B3, 4, none⟩ = some (.string x.ev.user) := cell_at HS.out.b3 4
    have c35 : w3.cell? ⟨B3, 5, none⟩ = some (.int .i64 x.ev.does) := cell_at HS.out.b3 5
    have c40 : w3.cell? ⟨B4, 0, none⟩ = some (.string ⟨#[]⟩) := cell_at HS.out.b4 0
    have c41 : w3.cell? ⟨B4, 1, none⟩ = some (.slice none 0 0) := cell_at HS.out.b4 1
    have f40 : w3.frozen? ⟨B4, 0, none⟩ = false := free_at HS.out.b4 0
    have f41 : w3.frozen? ⟨B4, 1, none⟩ = false := free_at HS.out.b4 1
    have HA := Lib.hid (HS.out.answer (.slice A xs.length cap))
    have HER : Hid (errA room (evs xs) x.ev = 9) := Lib.hid (by unfold errA; rw [if_neg (by rw [HM.out]; decide), if_pos hh])
    go_wp2_with fail
    clear c20 c21 c30 c31 c32 c33 c34 c35 c40 c41 f40 f41
    generalize World.setCell _ _ _ = w9 at HA ⊢
    obtain ⟨g0, g1, g2, _⟩ := HA.out
    refine bodyPost_ret (v := .tuple #[.agg #[.string room, .slice A xs.length cap], .int .i64 9]) ?_ rfl ?_
    ·simp [results, Tryz.results50, go_sem, g0, g1]
    ·exact AddPost.refuse HE.out HER.out (by decide) g2
  ·have q1 : (x.ev.room.toList == room.toList) = false := by rw [keyB]; exact decide_eq_false hr
   have q1' : (x.ev.room.toList != room.toList) = true := by rw [bne, q1]; rfl
   have HA := Lib.hid (HS.out.answer (.slice A xs.length cap))
   have HER : Hid (errA room (evs xs) x.ev = 1) := Lib.hid (by unfold errA; rw [hm, decide_eq_false hr]; rfl)
   go_wp2_with fail
   clear c20 c21 c30 c31 c32 c33 c34 c35 c40 c41 f40 f41
   generalize World.setCell _ _ _ = w9 at HA ⊢
   obtain ⟨g0, g1, g2, _⟩ := HA.out
   refine bodyPost_ret (v := .tuple #[.agg #[.string room, .slice A xs.length cap], .int .i64 1]) ?_ rfl ?_
   ·simp [results, Tryz.results50, go_sem, g0, g1]
   ·exact AddPost.refuse HE.out HER.out (by decide) g2
end Go.Proofs.YtnnapkakbdpkaaaGreat
