/-
  What the statements stand on, part ZA23.
-/
import Derived.Test.YtnnapkakbdpkaaaGreatZA22
set_option linter.unusedVariables false
set_option linter.unusedSimpArgs false
namespace Go.Proofs.YtnnapkakbdpkaaaGreat
set_option maxRecDepth 20000
open Go.RowKit
theorem isOf_def (room event : ByteArray) (e : Edu) : isOf room event e = ((e.room.toList == room.toList) && (e.event.toList == event.toList)) := rfl
set_option maxHeartbeats 800000 in
theorem takes_any (e : Edu) (room event : ByteArray) (b4 b5 : Nat) (w : World) (c4 : w.cell? ⟨b4, 0, none⟩ = some (.string room)) (c5 : w.cell? ⟨b5, 0, none⟩ = some (.string event)) :
  Calls Tryz.prog 84 #[e.val, .pointer (some ⟨b4, 0, none⟩), .pointer (some ⟨b5, 0, none⟩)] w fun x w' => x = .returned (.bool (isOf room event e)) ∧ Below w.heap.size w w' := by
 have HR := Lib.hid (isOf_def room event e)
 have HB := Lib.hid (below_new w (.cells e.cells.toArray 43))
 have HX := Lib.hid (heap_alloc_new w (.cells e.cells.toArray 43))
 have HC4 := Lib.hid ((HB.out.cell (World.block_lt_of_cell? _ _ c4)).trans c4)
 have HC5 := Lib.hid ((HB.out.cell (World.block_lt_of_cell? _ _ c5)).trans c5)
 generalize isOf room event e = R at *
 obtain ⟨k, r, u, z, t, pr, o, s, y, c, m⟩ := e
 simp only [Edu.val, Edu.cells] at *
 obtain ⟨p1, HP1⟩ : ∃ x, (r.toList == room.toList) = x := ⟨_, rfl⟩
 obtain ⟨p2, HP2⟩ : ∃ x, (z.toList == event.toList) = x := ⟨_, rfl⟩
 rw [HP1, HP2] at HR
 clear c4 c5
 go_enter Tryz.func84, Tryz.ntmps84
 go_upto_region 1 with (fail)
 generalize World.alloc _ _ = w1 at HB HX HC4 HC5 ⊢
 obtain ⟨d0, d1, d2, d3, d4, d5, d6, d7, d8, d9, d10⟩ := cells11 HX.out
 have c4 := HC4.out
 have c5 := HC5.out
 cases p1
 ·go_wp2_with fail
  go_ret
  exact ⟨by rw [HR.out]; rfl, HB.out⟩
 ·go_wp2_with fail
  go_ret
  exact ⟨by rw [HR.out]; rfl, HB.out⟩
structure ApS (w wr : World) (u v : Value) (q : Edu → Bool) (us : List Edu) (a : Nat) : Prop where
 below : Below w.heap.size w wr
 mu : LE.Mine wr w.heap.size u ((us.take a).filter q)
 mv : LE.Mine wr w.heap.size v ((us.take a).filter (fun e => !q e))
 ne : ∀ k, u.ownBlock = some k → v.ownBlock ≠ some k
section
variable {w wr w2 : World} {u u2 v : Value} {q : Edu → Bool} {us : List Edu} {a : Nat} {x : Edu}
theorem ApS.later (h : ApS w wr u v q us a) (hb : Below wr.heap.size wr w2) : ApS w w2 u v q us a := ⟨h.below.trans (hb.mono h.below.size), h.mu.below hb, h.mv.below hb, h.ne⟩
theorem ApS.yes (h : ApS w wr u v q us a) (hx : us[a]? = some x) (hq : q x = true) (hm : LE.Mine w2 w.heap.size u2 ((us.take a).filter q ++ [x])) (hg : wr.grownBy w2 u.ownBlock) (ho : ∀ k, u2.ownBlock = some k → u.ownBlock = some k ∨ wr.heap.size ≤ k) : ApS w w2 u2 v q us (a + 1) := by
 refine ⟨h.below.grown hg h.below.size (fun k hk => (h.mu.lt k hk).1), by rw [filter_yes hx hq]; exact hm, ?_, fun k hk hv => ?_⟩
 ·rw [filter_no hx (by rw [hq]; rfl)]
  exact h.mv.keep (fun k hk => hg.block k (h.mv.lt k hk).2 (fun e => h.ne k e.symm hk))
 ·rcases ho k hk with h1 | h1
  ·exact h.ne k h1 hv
  ·have := (h.mv.lt k hv).2
   omega
theorem ApS.no (h : ApS w wr u v q us a) (hx : us[a]? = some x) (hq : q x = false) (hm : LE.Mine w2 w.heap.size u2 ((us.take a).filter (fun e => !q e) ++ [x])) (hg : wr.grownBy w2 v.ownBlock) (ho : ∀ k, u2.ownBlock = some k → v.ownBlock = some k ∨ wr.heap.size ≤ k) : ApS w w2 u u2 q us (a + 1) := by
 refine ⟨h.below.grown hg h.below.size (fun k hk => (h.mv.lt k hk).1), ?_, by rw [filter_yes hx (by rw [hq]; rfl)]; exact hm, fun k hk hv => ?_⟩
 ·rw [filter_no hx hq]
  exact h.mu.keep (fun k hk => hg.block k (h.mu.lt k hk).2 (fun e => h.ne k hk e.symm))
 ·rcases ho k hv with h1 | h1
  ·exact h.ne k hk h1
  ·have := (h.mu.lt k hk).2
   omega
theorem ApS.len (h : ApS w wr u v q us a) : ((us.take a).filter q).length ≤ us.length ∧ ((us.take a).filter (fun e => !q e)).length ≤ us.length := by
 have h1 := List.length_filter_le q (us.take a)
 have h2 := List.length_filter_le (fun e => !q e) (us.take a)
 rw [List.length_take] at h1 h2
 omega
end
set_option maxHeartbeats 3200000 in
theorem apart_any (vv : Value) (us : List Edu) (room event : ByteArray) (b4 b5 : Nat) (w : World) (h : LE.Slice w vv us) (hl : us.length ≤ 100000) (c4 : w.cell? ⟨b4, 0, none⟩ = some (.string room)) (c5 : w.cell? ⟨b5, 0, none⟩ = some (.string event)) :
  Calls Tryz.prog 83 #[vv, .func (.func 84) #[] #[.pointer (some ⟨b4, 0, none⟩), .pointer (some ⟨b5, 0, none⟩)]] w fun x w' => ∃ u v, x = .returned (.tuple #[u, v]) ∧ ApS w w' u v (isOf room event) us us.length := by
 obtain ⟨A, cap, rfl, h1, h2, -⟩ := id h
 unfold maxLen at h2
 have HR := Lib.hid h
 have HQ := Lib.hid (fun e W (hb : Below w.heap.size w W) => takes_any e room event b4 b5 W ((hb.cell (World.block_lt_of_cell? _ _ c4)).trans c4) ((hb.cell (World.block_lt_of_cell? _ _ c5)).trans c5))
 generalize isOf room event = q at *
 have H0 : Hid (ApS w w (.slice none 0 0) (.slice none 0 0) q us 0) := Lib.hid ⟨Below.refl _ _, Lies.Mine.nil _ _, Lies.Mine.nil _ _, fun k hk => by cases hk⟩
 clear h c4 c5
 go_enter Tryz.func83, Tryz.ntmps83
 go_wp2_with fail
 go_loopw [10, 4, 5, 7] (fun i u v _ wr => ∃ a : Nat, i = .int .i64 (a : Int) ∧ a ≤ us.length ∧ Hid (ApS w wr u v q us a)) (fun i _ _ _ _ => us.length - (intOf i).toNat)
 case atStart => exact ⟨0, rfl, Nat.zero_le _, H0⟩
 case round =>
  obtain ⟨a, rfl, ha, HA⟩ := hrel
  clear H0
  by_cases hax : a < us.length
  ·have q1 : decide ((a : Int) < (us.length : Int)) = true := decide_eq_true (by omega)
   have hx : us[a]? = some us[a] := List.getElem?_eq_getElem hax
   generalize us[a] = x at hx
   have HX := Lib.hid hx
   obtain ⟨bo, oo, rfl, hbo, hco⟩ := (HR.out.below HA.out.below).at hx
   have hiy := index_any (P := Tryz.prog) knE (by decide) (b := bo) (off := oo) (cap := cap) hax
   simp only [LE] at hiy hco
   obtain ⟨a0, a1, a2, a3, a4, a5, a6, a7, a8, a9, a10⟩ := range11 hco
   have hln := HA.out.len
   have HQX := Lib.hid (fun W hb => HQ.out x W hb)
   have HY := Lib.hid (fun w2 u2 (hq : q x = true) (wr' : World) u' v' (hh : ApS w wr' u' v' q us a) (hm : LE.Mine w2 w.heap.size u2 ((us.take a).filter q ++ [x])) hg ho => hh.yes hx hq hm hg ho)
   have HN := Lib.hid (fun w2 u2 (hq : q x = false) (wr' : World) u' v' (hh : ApS w wr' u' v' q us a) (hm : LE.Mine w2 w.heap.size u2 ((us.take a).filter (fun e => !q e) ++ [x])) hg ho => hh.no hx hq hm hg ho)
   generalize hqq : q x = b at HQX HY HN
   clear hqq hx hco
   have HNW := Lib.hid (heap_alloc_new wr (.cells x.cells.toArray 43))
   have HBW := Lib.hid (below_new wr (.cells x.cells.toArray 43))
   obtain ⟨xk, xr, xu, xz, xt, xp, xo, xs, xy, xc, xm⟩ := x
   simp only [Edu.val, Edu.cells] at *
   go_upto_region 4 with (fail)
   replace HA := Lib.hid (HA.out.later HBW.out)
   generalize World.alloc _ _ = w1 at HNW HA ⊢
   generalize wr.heap.size = g7 at HNW ⊢
   clear a0 a1 a2 a3 a4 a5 a6 a7 a8 a9 a10 HBW hiy
   obtain ⟨d0, d1, d2, d3, d4, d5, d6, d7, d8, d9, d10⟩ := cells11 HNW.out
   go_wp2_with fail
   refine (HQX.out _ HA.out.below).mono ?_
   rintro e w5 ⟨rfl, hb5⟩
   replace HA := Lib.hid (HA.out.later hb5)
   have HN5 := Lib.hid ((hb5.block g7 (smem_lt HNW.out)).trans HNW.out)
   clear hb5 HNW d0 d1 d2 d3 d4 d5 d6 d7 d8 d9 d10 HQX
   obtain ⟨d0, d1, d2, d3, d4, d5, d6, d7, d8, d9, d10⟩ := cells11 HN5.out
   have hsr : LE.Slice (w5.alloc (.cells #[.int .i64 xk, .string xr, .string xu, .string xz, .string xt, .bool xp, .bool xo, .int .i64 xs, .int .i64 xy, .int .i64 xc, .int .i64 xm] 43)) (.slice (some ⟨w5.heap.size, 0, none⟩) 1 1) [⟨xk, xr, xu, xz, xt, xp, xo, xs, xy, xc, xm⟩] := lit_slice (L := LE) w5 ⟨xk, xr, xu, xz, xt, xp, xo, xs, xy, xc, xm⟩ w5.heap.size rfl #[.int .i64 xk, .string xr, .string xu, .string xz, .string xt, .bool xp, .bool xo, .int .i64 xs, .int .i64 xy, .int .i64 xc, .int .i64 xm] rfl
   have HSR := Lib.hid (hsr.srcN knE (n := 1) rfl)
   have HA5 := Lib.hid (HA.out.later (below_new w5 (.cells #[.int .i64 xk, .string xr, .string xu, .string xz, .string xt, .bool xp, .bool xo, .int .i64 xs, .int .i64 xy, .int .i64 xc, .int .i64 xm] 43)))
   clear hsr HA HN5
   cases b
   ·clear HY
    go_wp2_with (refine wpList_puts rfl knE (.tmp 21) (.tmp 23) 23 rfl rfl HA5.out.mv (HA5.out.below.size) (.slice (some ⟨w5.heap.size, 0, none⟩) 1 1) [⟨xk, xr, xu, xz, xt, xp, xo, xs, xy, xc, xm⟩] 1 rfl rfl HSR.out (by omega) (fun A2 cap2 w6 hm6 hg6 ho6 => ?_))
    refine ⟨⟨a + 1, by go_num, by omega, Lib.hid (HN.out _ _ (by trivial) _ _ _ HA5.out hm6 hg6 ho6)⟩, ?_⟩
    simp [intOf]; omega
   ·clear HN
    go_wp2_with (refine wpList_puts rfl knE (.tmp 17) (.tmp 19) 23 rfl rfl HA5.out.mu (HA5.out.below.size) (.slice (some ⟨w5.heap.size, 0, none⟩) 1 1) [⟨xk, xr, xu, xz, xt, xp, xo, xs, xy, xc, xm⟩] 1 rfl rfl HSR.out (by omega) (fun A2 cap2 w6 hm6 hg6 ho6 => ?_))
    refine ⟨⟨a + 1, by go_num, by omega, Lib.hid (HY.out _ _ (by trivial) _ _ _ HA5.out hm6 hg6 ho6)⟩, ?_⟩
    simp [intOf]; omega
  ·have q1 : decide ((a : Int) < (us.length : Int)) = false := decide_eq_false (by omega)
   obtain rfl : a = us.length := by omega
   go_wp2_with fail
   refine bodyPost_ret (v := .tuple #[u4, u5]) ?_ rfl ⟨_, _, rfl, HA.out⟩
   simp [results, Tryz.results83, go_sem]
set_option maxHeartbeats 1600000 in
theorem pkTake_any {w : World} {B b : Nat} {v : Value} {p : Pk} (h : CPk w B b v p) (room event : ByteArray) (hl : p.l.length ≤ 100000) :
  Calls Tryz.prog 53 #[.pointer (some ⟨b, 0, none⟩), .string room, .string event] w fun x w' => ∃ u v', x = .returned u ∧ LE.Mine w' w.heap.size u (p.took room event) ∧ PutK w w' B b v v' (p.take room event) ∧ ∀ k, u.ownBlock = some k → v'.ownBlock ≠ some k := by
 have H := Lib.hid h
 obtain ⟨H4, H5, HB, hsz⟩ := at_two (.cells #[.string room] 9) (.cells #[.string event] 9) (rfl : (w.alloc (.cells #[.string room] 9)).alloc (.cells #[.string event] 9) = _)
 have H4 := Lib.hid H4
 have H5 := Lib.hid H5
 have HB := Lib.hid HB
 clear h hsz
 go_enter Tryz.func53, Tryz.ntmps53
 go_upto_region 1 with (fail)
 generalize World.alloc _ _ = w1 at H4 H5 HB ⊢
 have HC := Lib.hid (H.out.below HB.out)
 have HAP := Lib.hid (apart_any v p.l room event w.heap.size (w.heap.size + 1) w1 HC.out.row.slice hl (cell_at H4.out 0) (cell_at H5.out 0))
 clear H4 H5
 have HLB : Hid (b < w1.heap.size) := Lib.hid (smem_lt HC.out.hd)
 have HLW : Hid (B ≤ w.heap.size) := Lib.hid (Nat.le_trans H.out.lo (Nat.le_of_lt (smem_lt H.out.hd)))
 have c1 : w1.cell? ⟨b, 1, none⟩ = some v := cell_at HC.out.hd 1
 go_wp2_with fail
 go_at_call 83
 refine HAP.out.mono ?_
 rintro e w2 ⟨u, v2, rfl, hap⟩
 have hd2 := (hap.below.block b HLB.out).trans HC.out.hd
 have HM : Hid (LE.Mine w2 w1.heap.size u (p.took room event)) := Lib.hid (by
  have := hap.mu
  rw [List.take_length] at this
  exact this)
 have HV : Hid (LE.Mine w2 w1.heap.size v2 (p.take room event).l) := Lib.hid (by
  have := hap.mv
  rw [List.take_length] at this
  exact this)
 have HNE := Lib.hid hap.ne
 have HBB := Lib.hid (HB.out.trans (hap.below.mono HB.out.size))
 have HSZ := Lib.hid HB.out.size
 have HD2 := Lib.hid hd2
 clear hap HAP hd2 c1 HC HB
 have z0 : w2.cell? ⟨b, 1, none⟩ = some v := cell_at HD2.out 1
 have z1 : w2.frozen? ⟨b, 1, none⟩ = false := free_at HD2.out 1
 obtain ⟨Au, cu, rfl, -⟩ := HM.out.shape
 obtain ⟨Av, cv, rfl, -⟩ := HV.out.shape
 obtain ⟨nu, hnu⟩ : ∃ n, (p.took room event).length = n := ⟨_, rfl⟩
 obtain ⟨nv, hnv⟩ : ∃ n, (p.take room event).l.length = n := ⟨_, rfl⟩
 rw [hnu] at HM HNE ⊢
 rw [hnv] at HV HNE ⊢
 clear hnu hnv
 go_wp2_with fail
 go_ret
 have hne : ∀ {x : Value} {xs : List Edu}, LE.Mine w2 w1.heap.size x xs → ∀ k, x.ownBlock = some k → k ≠ b := fun hm k hk e => by
  have := (hm.lt k hk).1
  have := HLB.out
  omega
 refine ⟨_, _, rfl, ?_, ⟨⟨heap_set HD2.out 1 _, ?_, H.out.lo, fun e he => H.out.ok e (List.mem_filter.1 he).1⟩, ?_, fun k hk => .inr ?_⟩, HNE.out⟩
 ·exact (HM.out.mono HSZ.out).keep (fun k hk => Below.heap_setCell w2 _ _ k (hne HM.out k hk))
 ·exact (HV.out.mono (Nat.le_trans HLW.out HSZ.out)).keep (fun k hk => Below.heap_setCell w2 _ _ k (hne HV.out k hk))
 ·exact (TurnP.of HBB.out).grown (sm_grown w2 b 1 [_]) (fun k hk => by
   injection hk with hk
   exact .inl (.inl hk.symm))
 ·exact Nat.le_trans HSZ.out (HV.out.lt k hk).1
theorem makeE_any (n : Nat) (hn : n ≤ 100000) : ∃ cs : Array Value, cs.size = n * 11 ∧ ∀ w, (Instr.makeSlice 23 (.int .i64 0) (.int .i64 (n : Int))).run Tryz.prog w = .ok (.slice (some ⟨w.heap.size, 0, none⟩) 0 n) (w.alloc (.cells cs 43)) := by
 obtain ⟨i0, hi0, hz0, hz1, hz2⟩ := info_parts knE.info
 have hb : (i0.bytes : Int) * (n : Int) ≤ 281474976710656 := by rw [hz2]; omega
 refine ⟨madeCells zeroE.val.cells (n * 11), size_madeCells _ _, fun w => ?_⟩
 have hr := run_make (P := Tryz.prog) w 23 43 i0 _ Tryz.underlying23 hi0 hz0 .i64 .i64 0 (n : Int) (Int.le_refl _) (by omega) hb (by omega)
 rw [hz1, Int.toNat_natCast] at hr
 exact hr
theorem mine_madeE (w : World) (n : Nat) (hn : n ≤ 100000) (cs : Array Value) (hc : cs.size = n * 11) : LE.Mine (w.alloc (.cells cs 43)) w.heap.size (.slice (some ⟨w.heap.size, 0, none⟩) 0 n) [] :=
 .inr ⟨w.heap.size, 0, n, cs, rfl, Nat.le_refl _, heap_alloc_new w _, Nat.zero_le _, by unfold maxLen; omega, by rw [show LE.c = 11 from rfl]; omega, by simp [Lies.vs]⟩
set_option maxHeartbeats 1600000 in
theorem pkAll_any {w : World} {B b : Nat} {v : Value} {p : Pk} (h : CPk w B b v p) (hl : p.l.length ≤ 100000) :
  Calls Tryz.prog 56 #[.pointer (some ⟨b, 0, none⟩)] w fun x w' => ∃ u, x = .returned u ∧ LE.Mine w' w.heap.size u p.l ∧ Below w.heap.size w w' := by
 have H := Lib.hid h
 obtain ⟨cs, hcs, hmk⟩ := makeE_any p.l.length hl
 have HM0 := Lib.hid (mine_madeE w p.l.length hl cs hcs)
 have hw0 := below_new w (.cells cs 43)
 have HB0 := Lib.hid hw0
 obtain ⟨A, cap, rfl, h1, h2, h3⟩ := h.row.shape
 unfold maxLen at h2
 have c1 : w.cell? ⟨b, 1, none⟩ = some (.slice A p.l.length cap) := cell_at h.hd 1
 have c2 : (w.alloc (.cells cs 43)).cell? ⟨b, 1, none⟩ = some (.slice A p.l.length cap) := cell_at (h.below hw0).hd 1
 clear h hcs hw0 h3
 go_enter Tryz.func56, Tryz.ntmps56
 go_upto_region 2 with (fail)
 generalize World.alloc _ _ = w1 at HM0 HB0 c2 ⊢
 clear c1 hmk
 obtain ⟨l, hl'⟩ : ∃ l, p.l = l := ⟨_, rfl⟩
 have H := Lib.hid (show ∀ W, Below w.heap.size w W → LE.Slice W (.slice A l.length cap) l ∧ (∀ e ∈ l, e.brief) from fun W hb => by rw [← hl']; exact ⟨(H.out.below hb).row.slice, H.out.ok⟩)
 have HL := Lib.hid hl'
 rw [hl'] at HM0 c2 hl h1 ⊢
 clear hl'
 have H0 : Hid (LE.Mine w1 w.heap.size (.slice (some ⟨w.heap.size, 0, none⟩) 0 l.length) (l.take 0) ∧ Below w.heap.size w w1) := Lib.hid ⟨HM0.out, HB0.out⟩
 go_wp2_with fail
 go_loopw [17, 3, 5] (fun i u _ wr => ∃ a : Nat, i = .int .i64 (a : Int) ∧ a ≤ l.length ∧ Hid (LE.Mine wr w.heap.size u (l.take a) ∧ Below w.heap.size w wr)) (fun i _ _ _ => l.length - (intOf i).toNat)
 case atStart => exact ⟨0, rfl, Nat.zero_le _, H0⟩
 case round =>
  obtain ⟨a, rfl, ha, HA⟩ := hrel
  clear H0 HM0 HB0 c2
  by_cases hax : a < l.length
  ·have q1 : decide ((a : Int) < (l.length : Int)) = true := decide_eq_true (by omega)
   have hx : l[a]? = some l[a] := List.getElem?_eq_getElem hax
   generalize l[a] = x at hx
   have HX := Lib.hid hx
   obtain ⟨bo, oo, rfl, hbo, hco⟩ := (H.out wr HA.out.2).1.at hx
   have hiy := index_any (P := Tryz.prog) knE (by decide) (b := bo) (off := oo) (cap := cap) hax
   simp only [LE] at hiy hco
   obtain ⟨a0, a1, a2, a3, a4, a5, a6, a7, a8, a9, a10⟩ := range11 hco
   have HOW := Lib.hid (fun W => ownE_any x W ((H.out wr HA.out.2).2 x (List.mem_of_getElem? hx)))
   have HTK := Lib.hid (show l.take (a + 1) = l.take a ++ [x] from by rw [List.take_add_one, hx]; rfl)
   clear hx hco
   have HNW := Lib.hid (heap_alloc_new wr (.cells x.cells.toArray 43))
   have HBW := Lib.hid (below_new wr (.cells x.cells.toArray 43))
   obtain ⟨xk, xr, xu, xz, xt, xp, xo, xs, xy, xc, xm⟩ := x
   simp only [Edu.val, Edu.cells] at *
   go_upto_region 5 with (fail)
   replace HA := Lib.hid (And.intro (HA.out.1.below HBW.out) (HA.out.2.trans (HBW.out.mono HA.out.2.size)))
   generalize World.alloc _ _ = w3 at HNW HA ⊢
   generalize wr.heap.size = g7 at HNW ⊢
   clear a0 a1 a2 a3 a4 a5 a6 a7 a8 a9 a10 HBW hiy
   obtain ⟨d0, d1, d2, d3, d4, d5, d6, d7, d8, d9, d10⟩ := cells11 HNW.out
   go_wp2_with fail
   go_at_call 73
   refine (HOW.out _).mono ?_
   rintro e w5 ⟨rfl, hb5⟩
   replace HA := Lib.hid (And.intro (HA.out.1.below hb5) (HA.out.2.trans (hb5.mono HA.out.2.size)))
   clear hb5 HNW HOW d0 d1 d2 d3 d4 d5 d6 d7 d8 d9 d10
   have hsr : LE.Slice (w5.alloc (.cells #[.int .i64 xk, .string xr, .string xu, .string xz, .string xt, .bool xp, .bool xo, .int .i64 xs, .int .i64 xy, .int .i64 xc, .int .i64 xm] 43)) (.slice (some ⟨w5.heap.size, 0, none⟩) 1 1) [⟨xk, xr, xu, xz, xt, xp, xo, xs, xy, xc, xm⟩] := lit_slice (L := LE) w5 ⟨xk, xr, xu, xz, xt, xp, xo, xs, xy, xc, xm⟩ w5.heap.size rfl #[.int .i64 xk, .string xr, .string xu, .string xz, .string xt, .bool xp, .bool xo, .int .i64 xs, .int .i64 xy, .int .i64 xc, .int .i64 xm] rfl
   have HSR := Lib.hid (hsr.srcN knE (n := 1) rfl)
   have hbl := below_new w5 (.cells #[.int .i64 xk, .string xr, .string xu, .string xz, .string xt, .bool xp, .bool xo, .int .i64 xs, .int .i64 xy, .int .i64 xc, .int .i64 xm] 43)
   have HA5 := Lib.hid (And.intro (HA.out.1.below hbl) (HA.out.2.trans (hbl.mono HA.out.2.size)))
   have hln : (l.take a).length ≤ 100000 := by rw [List.length_take]; omega
   have HLA : Hid ((l.take a).length = a) := Lib.hid (by rw [List.length_take]; omega)
   clear hsr HA hbl
   go_wp2_with (refine wpList_puts rfl knE (.tmp 21) (.tmp 24) 23 rfl rfl HA5.out.1 (HA5.out.2.size) (.slice (some ⟨w5.heap.size, 0, none⟩) 1 1) [⟨xk, xr, xu, xz, xt, xp, xo, xs, xy, xc, xm⟩] 1 rfl rfl HSR.out (by omega) (fun A2 cap2 w6 hm6 hg6 ho6 => ?_))
   refine ⟨⟨a + 1, by go_num, by omega, Lib.hid ⟨by rw [HTK.out]; rw [HLA.out] at hm6; exact hm6, HA5.out.2.grown hg6 HA5.out.2.size (fun k hk => (HA5.out.1.lt k hk).1)⟩⟩, ?_⟩
   simp [intOf]; omega
  ·have q1 : decide ((a : Int) < (l.length : Int)) = false := decide_eq_false (by omega)
   obtain rfl : a = l.length := by omega
   have HF := Lib.hid HA.out.1
   rw [List.take_length] at HF
   go_wp2_with fail
   go_ret
   exact ⟨u3, rfl, by rw [HL.out]; exact HF.out, HA.out.2⟩
end Go.Proofs.YtnnapkakbdpkaaaGreat

namespace Go.Proofs.YtnnapkakbdpkaaaGreat
set_option maxRecDepth 20000
open Go.RowKit
def waitE (e : Edu) : Edu := { goodE { e with kind := 0 } with event := eventS e.stamp }
theorem wait_good (e : Edu) : goodE { e with kind := 0 } = good1 { e with kind := 0 } := by
 unfold goodE
 rw [if_pos (show aroundI ({ e with kind := 0 } : Edu).kind 3 = 0 from rfl)]
theorem wait_def (e g : Edu) (h : goodE { e with kind := 0 } = g) : waitE e = { g with event := eventS e.stamp } := by
 unfold waitE
 rw [h]
set_option maxHeartbeats 1600000 in
theorem waits_any (e : Edu) (w : World) (he : e.well) :
  Calls Tryz.prog 12 #[e.val] w fun x w' => x = .returned (waitE e).val ∧ Below w.heap.size w w' := by
 obtain ⟨⟨-, hf2, hf3, hf4, hf5⟩, -, -, hv, ht⟩ := he
 have HG := Lib.hid (fun W => good_any { e with kind := 0 } W ⟨⟨(by decide : (-9223372036854775808 : Int) ≤ 0), (by decide : (0 : Int) ≤ 9223372036854775807)⟩, hf2, hf3, hf4, hf5⟩ hv ht)
 have HE := Lib.hid (fun W => eventOf_any e.stamp W hf5.1 hf5.2)
 obtain ⟨x, hx⟩ : ∃ x, goodE { e with kind := 0 } = x := ⟨_, rfl⟩
 have HW := wait_def e x hx
 rw [hx] at HG
 rw [HW]
 clear HW hx hf2 hf3 hf4 hf5 hv ht
 obtain ⟨k, r, u, z, t, pr, o, s, y, c, m⟩ := e
 obtain ⟨xk, xr, xu, xz, xt, xp, xo, xs, xy, xc, xm⟩ := x
 simp only [Edu.val] at *
 generalize eventS m = ev at *
 go_enter Tryz.func12, Tryz.ntmps12
 go_upto_region 1 with (fail)
 generalize hW : (w.alloc _).alloc _ = W
 have hT := two_new hW rfl
 clear hW
 have z1 := free_at hT.2.1 0
 obtain ⟨d0, d1, d2, d3, d4, d5, d6, d7, d8, d9, d10⟩ := cells11 hT.2.1
 go_upto_region 2 with (fail)
 have hT1 : Two w #[.int .i64 0, .string r, .string u, .string z, .string t, .bool pr, .bool o, .int .i64 s, .int .i64 y, .int .i64 c, .int .i64 m] (W.setCell ⟨w.heap.size, 0, none⟩ (.int .i64 0)) := by
  obtain ⟨h1, h2, X, hX, h3⟩ := hT
  exact ⟨h1.setCell (Nat.le_refl _) _, heap_set h2 0 _, X, hX, (Below.heap_setCell W _ _ _ (by simp)).trans h3⟩
 generalize World.setCell _ _ _ = W1 at hT1 ⊢
 clear z1 d0 d1 d2 d3 d4 d5 d6 d7 d8 d9 d10 hT
 obtain ⟨d0, d1, d2, d3, d4, d5, d6, d7, d8, d9, d10⟩ := cells11 hT1.2.1
 go_wp2_with fail
 go_at_call 33
 refine (HG.out _).mono ?_
 rintro e w2 ⟨rfl, hb⟩
 replace hT1 := hT1.later hb
 clear hb HG d0 d1 d2 d3 d4 d5 d6 d7 d8 d9 d10
 have hlt : w.heap.size + 1 < w2.heap.size := by obtain ⟨X, hX, h3⟩ := hT1.2.2; exact smem_lt h3
 have HN : Gd w _ w2.heap.size #[.int .i64 xk, .string xr, .string xu, .string xz, .string xt, .bool xp, .bool xo, .int .i64 xs, .int .i64 xy, .int .i64 xc, .int .i64 xm] (w2.alloc (.cells #[.int .i64 xk, .string xr, .string xu, .string xz, .string xt, .bool xp, .bool xo, .int .i64 xs, .int .i64 xy, .int .i64 xc, .int .i64 xm] 43)) := ⟨hT1.later (below_new _ _), heap_alloc_new w2 _, hlt⟩
 clear hT1
 go_upto_region 3 with (fail)
 generalize World.alloc _ _ = w3 at HN ⊢
 generalize w2.heap.size = g3 at HN hlt ⊢
 obtain ⟨d0, d1, d2, d3, d4, d5, d6, d7, d8, d9, d10⟩ := cells11 HN.1.2.1
 go_wp2_with fail
 go_at_call 38
 refine (HE.out _).mono ?_
 rintro e w4 ⟨rfl, hb⟩
 replace HN := HN.later hb
 clear hb HE d0 d1 d2 d3 d4 d5 d6 d7 d8 d9 d10
 have z0 := cell_at HN.2.1 3
 have z1 := free_at HN.2.1 3
 simp only [List.getElem?_toArray, List.getElem?_cons_succ, List.getElem?_cons_zero] at z0
 go_upto_region 4 with (fail)
 have HN4 := HN.store (i := 3) (u := .string ev)
 simp only [List.setIfInBounds_toArray, List.set_cons_zero, List.set_cons_succ] at HN4
 generalize World.setCell _ _ _ = w5 at HN4 ⊢
 clear HN z0 z1
 obtain ⟨a0, a1, a2, a3, a4, a5, a6, a7, a8, a9, a10⟩ := cells11 HN4.2.1
 obtain ⟨X, hX, hx3⟩ := HN4.1.2.2
 have Hset := Lib.hid (setRow_heap _ _ _ #[.int .i64 xk, .string xr, .string xu, .string ev, .string xt, .bool xp, .bool xo, .int .i64 xs, .int .i64 xy, .int .i64 xc, .int .i64 xm] _ _ hx3)
 have HB := Lib.hid (HN4.1.set (new := #[.int .i64 xk, .string xr, .string xu, .string ev, .string xt, .bool xp, .bool xo, .int .i64 xs, .int .i64 xy, .int .i64 xc, .int .i64 xm]) rfl).1
 replace hx3 := Lib.hid hx3
 clear HN4
 go_wp2_with (refine wpList_store_row rfl 43 (.tmp 2) (.tmp 11) rfl (w.heap.size + 1) #[.int .i64 xk, .string xr, .string xu, .string ev, .string xt, .bool xp, .bool xo, .int .i64 xs, .int .i64 xy, .int .i64 xc, .int .i64 xm] rfl rfl 43 X hx3.out edu_info (hX.trans rfl) (one11 _ _ _ _ _ _ _ _ _ _ _) ?_)
 generalize hW2 : World.setRow _ _ _ = W3 at Hset HB ⊢
 clear hW2 a0 a1 a2 a3 a4 a5 a6 a7 a8 a9 a10
 obtain ⟨d0, d1, d2, d3, d4, d5, d6, d7, d8, d9, d10⟩ := cells11 Hset.out
 go_wp2_with fail
 refine bodyPost_ret (v := .agg #[.int .i64 xk, .string xr, .string xu, .string ev, .string xt, .bool xp, .bool xo, .int .i64 xs, .int .i64 xy, .int .i64 xc, .int .i64 xm]) ?_ rfl ⟨rfl, HB.out⟩
 simp [results, Tryz.results12, go_sem, d0, d1, d2, d3, d4, d5, d6, d7, d8, d9, d10]
end Go.Proofs.YtnnapkakbdpkaaaGreat

namespace Go.Proofs.YtnnapkakbdpkaaaGreat
set_option maxRecDepth 20000
open Go.RowKit
structure DpS (w W : World) (v : Value) (l : List Edu) (a c : Int) (cs : Array Value) (g2 g3 g4 g5 B0 : Nat) : Prop where
 below : Below w.heap.size w W
 row0 : LE.Slice w v l
 b2 : W.heap[g2]? = some (.cells #[.int .i64 a, v, .int .i64 c] 33 (0, 0))
 b3 : W.heap[g3]? = some (.cells cs 43 (0, 0))
 b4 : ∃ X : Array Value, X.size = 3 ∧ W.heap[g4]? = some (.cells X 33 (0, 0))
 b5 : ∃ X : Array Value, X.size = 11 ∧ W.heap[g5]? = some (.cells X 43 (0, 0))
 ne : (g2 ≠ g4 ∧ g2 ≠ g5) ∧ (g3 ≠ g4 ∧ g3 ≠ g5) ∧ g4 ≠ g5
 lo : w.heap.size ≤ g4 ∧ w.heap.size ≤ g5
 hi : g4 < B0 ∧ g5 < B0 ∧ B0 ≤ W.heap.size ∧ w.heap.size ≤ B0
section
variable {w W W' : World} {v : Value} {l : List Edu} {a c : Int} {cs : Array Value} {g2 g3 g4 g5 B0 : Nat}
theorem DpS.row (h : DpS w W v l a c cs g2 g3 g4 g5 B0) : LE.Slice W v l := h.row0.below h.below
theorem DpS.on (h : DpS w W v l a c cs g2 g3 g4 g5 B0) (hb : Below B0 W W') (h2 : g2 < B0 ∧ g3 < B0) : DpS w W' v l a c cs g2 g3 g4 g5 B0 := by
 obtain ⟨X, hX, h4⟩ := h.b4
 obtain ⟨Y, hY, h5⟩ := h.b5
 exact ⟨h.below.trans (hb.mono h.hi.2.2.2), h.row0, (hb.block _ h2.1).trans h.b2, (hb.block _ h2.2).trans h.b3, ⟨X, hX, (hb.block _ h.hi.1).trans h4⟩, ⟨Y, hY, (hb.block _ h.hi.2.1).trans h5⟩, h.ne, h.lo, h.hi.1, h.hi.2.1, Nat.le_trans h.hi.2.2.1 hb.size, h.hi.2.2.2⟩
theorem DpS.later (h : DpS w W v l a c cs g2 g3 g4 g5 B0) (hb : Below W.heap.size W W') : DpS w W' v l a c cs g2 g3 g4 g5 B0 := by
 obtain ⟨X, hX, h4⟩ := h.b4
 obtain ⟨Y, hY, h5⟩ := h.b5
 exact ⟨h.below.trans (hb.mono h.below.size), h.row0, (hb.block _ (smem_lt h.b2)).trans h.b2, (hb.block _ (smem_lt h.b3)).trans h.b3, ⟨X, hX, (hb.block _ (smem_lt h4)).trans h4⟩, ⟨Y, hY, (hb.block _ (smem_lt h5)).trans h5⟩, h.ne, h.lo, h.hi.1, h.hi.2.1, Nat.le_trans h.hi.2.2.1 hb.size, h.hi.2.2.2⟩
end
theorem heap_push (w : World) (o : Obj) {k : Nat} {x : Obj} (h : w.heap[k]? = some x) : (w.alloc o).heap[k]? = some x := (heap_alloc_old w o (smem_lt h)).trans h
theorem DpS.start (w : World) {v : Value} {l : List Edu} (hr : LE.Slice w v l) (a c : Int) (cs X4 X5 : Array Value) (h4 : X4.size = 3) (h5 : X5.size = 11) :
  DpS w ((((w.alloc (.cells #[.int .i64 a, v, .int .i64 c] 33)).alloc (.cells cs 43)).alloc (.cells X4 33)).alloc (.cells X5 43)) v l a c cs w.heap.size (w.heap.size + 1) (w.heap.size + 1 + 1) (w.heap.size + 1 + 1 + 1) (w.heap.size + 1 + 1 + 1 + 1) := by
 have e1 := heap_alloc_new w (.cells #[.int .i64 a, v, .int .i64 c] 33)
 have s1 := size_alloc1 w (.cells #[.int .i64 a, v, .int .i64 c] 33)
 have b1 := below_new w (.cells #[.int .i64 a, v, .int .i64 c] 33)
 generalize w.alloc (.cells #[.int .i64 a, v, .int .i64 c] 33) = w1 at *
 have e2 := heap_alloc_new w1 (.cells cs 43)
 have s2 := size_alloc1 w1 (.cells cs 43)
 have b2 := b1.trans ((below_new w1 (.cells cs 43)).mono (by omega))
 have e1 := heap_push w1 (.cells cs 43) e1
 generalize w1.alloc (.cells cs 43) = w2 at *
 have e3 := heap_alloc_new w2 (.cells X4 33)
 have s3 := size_alloc1 w2 (.cells X4 33)
 have b3 := b2.trans ((below_new w2 (.cells X4 33)).mono (by omega))
 have e1 := heap_push w2 (.cells X4 33) e1
 have e2 := heap_push w2 (.cells X4 33) e2
 generalize w2.alloc (.cells X4 33) = w3 at *
 have e4 := heap_alloc_new w3 (.cells X5 43)
 have s4 := size_alloc1 w3 (.cells X5 43)
 have b4 := b3.trans ((below_new w3 (.cells X5 43)).mono (by omega))
 have e1 := heap_push w3 (.cells X5 43) e1
 have e2 := heap_push w3 (.cells X5 43) e2
 have e3 := heap_push w3 (.cells X5 43) e3
 rw [show w1.heap.size = w.heap.size + 1 by omega] at e2
 rw [show w2.heap.size = w.heap.size + 1 + 1 by omega] at e3
 rw [show w3.heap.size = w.heap.size + 1 + 1 + 1 by omega] at e4
 exact ⟨b4, hr, e1, e2, ⟨X4, h4, e3⟩, ⟨X5, h5, e4⟩, by omega, by omega, by omega⟩
end Go.Proofs.YtnnapkakbdpkaaaGreat

namespace Go.Proofs.YtnnapkakbdpkaaaGreat
set_option maxRecDepth 20000
open Go.Joins Go.ChangeShapes Go.WideShapes Go.RowKit Go.Deep
section
variable {w wr w' : World} {b : Nat} {v : Value} {p : Pk} {ts : List Th} {t : Th}
theorem Kp.with (h : Kp w wr b v p ts) (hI : t.I wr) (hP : ∀ k, t.P k → ¬ ownP b v k) : Kp w wr b v p (t :: ts) :=
 ⟨h.below, h.pk, fun u hu => by
  rcases List.mem_cons.1 hu with rfl | hu
  ·exact ⟨hI, hP⟩
  ·exact h.th u hu⟩
end
def EsS (w : World) (v : Value) (l : List Edu) : Prop := LE.Slice w v l ∧ ∀ e ∈ l, e.well
def LBo : Lies Bool := ⟨4, 1, fun x => [.bool x], fun _ => rfl, fun x u hu => by
 simp only [List.mem_cons, List.not_mem_nil, or_false] at hu
 subst hu; rfl⟩
section
variable {H : Type} {enc : TypeId × Value → H} {P : Program} {w : World} {base : Nat} {spare : Nat → Bool} {held : Bool}
set_option maxHeartbeats 1600000 in
theorem edu_of_cells {t : TypeId} {f0 f1 f2 f3 f4 f5 f6 f7 f8 f9 f10 : Field} {fuel : Nat} {cs : List Value} {x : DataW H × List MemPlace} (hs : P.underlying t = some (.struct #[f0, f1, f2, f3, f4, f5, f6, f7, f8, f9, f10])) (hone : oneCellFields P #[f0, f1, f2, f3, f4, f5, f6, f7, f8, f9, f10] = true) (hl : cs.length = 11)
  (u0 : P.underlying f0.type = some (.int .i64)) (u1 : P.underlying f1.type = some .string) (u2 : P.underlying f2.type = some .string) (u3 : P.underlying f3.type = some .string) (u4 : P.underlying f4.type = some .string) (u5 : P.underlying f5.type = some .bool) (u6 : P.underlying f6.type = some .bool) (u7 : P.underlying f7.type = some (.int .i64)) (u8 : P.underlying f8.type = some (.int .i64)) (u9 : P.underlying f9.type = some (.int .i64)) (u10 : P.underlying f10.type = some (.int .i64))
  (hf : DataW.trod enc P w base spare held fuel t cs = some x) : ∃ e : Edu, cs = e.cells ∧ e.well := by
 match cs, hl with
 | [c0, c1, c2, c3, c4, c5, c6, c7, c8, c9, c10], _ =>
  obtain ⟨xs, n, _, hx, _, hlen, hg⟩ := DataW.trod_struct hs hf
  obtain ⟨o0, k0⟩ := hone_of hone 0 f0 rfl
  obtain ⟨o1, k1⟩ := hone_of hone 1 f1 rfl
  obtain ⟨o2, k2⟩ := hone_of hone 2 f2 rfl
  obtain ⟨o3, k3⟩ := hone_of hone 3 f3 rfl
  obtain ⟨o4, k4⟩ := hone_of hone 4 f4 rfl
  obtain ⟨o5, k5⟩ := hone_of hone 5 f5 rfl
  obtain ⟨o6, k6⟩ := hone_of hone 6 f6 rfl
  obtain ⟨o7, k7⟩ := hone_of hone 7 f7 rfl
  obtain ⟨o8, k8⟩ := hone_of hone 8 f8 rfl
  obtain ⟨o9, k9⟩ := hone_of hone 9 f9 rfl
  obtain ⟨o10, k10⟩ := hone_of hone 10 f10 rfl
  match xs, hlen with
  | [y0, y1, y2, y3, y4, y5, y6, y7, y8, y9, y10], _ =>
   have t0 : DataW.trod enc P w base spare held n f0.type [c0] = some y0 := by simpa [o0, k0] using hg 0 f0 rfl
   have t1 : DataW.trod enc P w base spare held n f1.type [c1] = some y1 := by simpa [o1, k1] using hg 1 f1 rfl
   have t2 : DataW.trod enc P w base spare held n f2.type [c2] = some y2 := by simpa [o2, k2] using hg 2 f2 rfl
   have t3 : DataW.trod enc P w base spare held n f3.type [c3] = some y3 := by simpa [o3, k3] using hg 3 f3 rfl
   have t4 : DataW.trod enc P w base spare held n f4.type [c4] = some y4 := by simpa [o4, k4] using hg 4 f4 rfl
   have t5 : DataW.trod enc P w base spare held n f5.type [c5] = some y5 := by simpa [o5, k5] using hg 5 f5 rfl
   have t6 : DataW.trod enc P w base spare held n f6.type [c6] = some y6 := by simpa [o6, k6] using hg 6 f6 rfl
   have t7 : DataW.trod enc P w base spare held n f7.type [c7] = some y7 := by simpa [o7, k7] using hg 7 f7 rfl
   have t8 : DataW.trod enc P w base spare held n f8.type [c8] = some y8 := by simpa [o8, k8] using hg 8 f8 rfl
   have t9 : DataW.trod enc P w base spare held n f9.type [c9] = some y9 := by simpa [o9, k9] using hg 9 f9 rfl
   have t10 : DataW.trod enc P w base spare held n f10.type [c10] = some y10 := by simpa [o10, k10] using hg 10 f10 rfl
   obtain ⟨x0, e0, _, w0⟩ := DataW.trod_int u0 t0
   obtain ⟨x1, e1, _, w1⟩ := DataW.trod_string u1 t1
   obtain ⟨x2, e2, _, w2⟩ := DataW.trod_string u2 t2
   obtain ⟨x3, e3, _, w3⟩ := DataW.trod_string u3 t3
   obtain ⟨x4, e4, _, w4⟩ := DataW.trod_string u4 t4
   obtain ⟨x5, e5, _⟩ := DataW.trod_bool u5 t5
   obtain ⟨x6, e6, _⟩ := DataW.trod_bool u6 t6
   obtain ⟨x7, e7, _, w7⟩ := DataW.trod_int u7 t7
   obtain ⟨x8, e8, _, w8⟩ := DataW.trod_int u8 t8
   obtain ⟨x9, e9, _, w9⟩ := DataW.trod_int u9 t9
   obtain ⟨x10, e10, _, w10⟩ := DataW.trod_int u10 t10
   simp only [List.cons.injEq, and_true] at e0 e1 e2 e3 e4 e5 e6 e7 e8 e9 e10
   subst e0 e1 e2 e3 e4 e5 e6 e7 e8 e9 e10
   exact ⟨⟨x0, x1, x2, x3, x4, x5, x6, x7, x8, x9, x10⟩, rfl, ⟨bounds_i64 w0, bounds_i64 w7, bounds_i64 w8, bounds_i64 w9, bounds_i64 w10⟩, w1, w2, w3, w4⟩
end
section
variable {H : Type} {enc : TypeId × Value → H} {w : World} {base : Nat} {spare : Nat → Bool} {held : Bool}
theorem open_edus {fuel : Nat} {cs : List Value} {x : DataW H × List MemPlace} (hf : DataW.trod enc Tryz.prog w base spare held fuel 23 cs = some x) :
  ∃ A cap xs, cs = [.slice A xs.length cap] ∧ EsS w (.slice A xs.length cap) xs :=
 open_lies (L := LE) (ok := Edu.well) zeroE Tryz.underlying23 (by kernel_rfl) (by decide) (fun fuel cs x hl ht => edu_of_cells Tryz.underlying43 (by kernel_rfl) hl Tryz.underlying3 Tryz.underlying9 Tryz.underlying9 Tryz.underlying9 Tryz.underlying9 Tryz.underlying4 Tryz.underlying4 Tryz.underlying3 Tryz.underlying3 Tryz.underlying3 Tryz.underlying3 ht) hf
theorem open_flags {fuel : Nat} {cs : List Value} {x : DataW H × List MemPlace} (hf : DataW.trod enc Tryz.prog w base spare held fuel 24 cs = some x) :
  ∃ A cap xs, cs = [.slice A xs.length cap] ∧ LBo.Slice w (.slice A xs.length cap) xs := by
 obtain ⟨A, cap, xs, h1, h2, -⟩ := open_lies (L := LBo) (ok := fun _ => True) false Tryz.underlying24 (by kernel_rfl) (by decide) (fun fuel cs x hl ht => by
  match cs, hl with
  | [c0], _ =>
   obtain ⟨y, e0, _⟩ := DataW.trod_bool Tryz.underlying4 ht
   exact ⟨y, e0, trivial⟩) hf
 exact ⟨A, cap, xs, h1, h2⟩
end
end Go.Proofs.YtnnapkakbdpkaaaGreat
