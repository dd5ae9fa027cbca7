/-
  Package park: apart, Take, All.
-/
import Derived.Test.YtimlomflgnnmnaaPkB
namespace Go.Proofs.Ytimlomflgnnmnaa
set_option maxRecDepth 20000
open Go.RowKit
set_option linter.unusedVariables false
set_option linter.unusedSimpArgs false

theorem isOf_def (room event : ByteArray) (e : Edu) : isOf room event e = ((e.room.toList == room.toList) && (e.event.toList == event.toList)) := rfl

set_option maxHeartbeats 800000 in
theorem takes_any (e : Edu) (room event : ByteArray) (b4 b5 : Nat) (w : World) (c4 : w.cell? ⟨b4, 0, none⟩ = some (.string room)) (c5 : w.cell? ⟨b5, 0, none⟩ = some (.string event)) :
    Calls Try.prog 25 #[e.val, .pointer (some ⟨b4, 0, none⟩), .pointer (some ⟨b5, 0, none⟩)] w fun x w' => x = .returned (.bool (isOf room event e)) ∧ Below w.heap.size w w' := by
  have HR := Lib.hid (isOf_def room event e)
  have HB := Lib.hid (below_new w (.cells e.cells.toArray 32))
  have HX := Lib.hid (heap_alloc_new w (.cells e.cells.toArray 32))
  have HC4 := Lib.hid ((HB.out.cell (World.block_lt_of_cell? _ _ c4)).trans c4)
  have HC5 := Lib.hid ((HB.out.cell (World.block_lt_of_cell? _ _ c5)).trans c5)
  generalize isOf room event e = R at *
  obtain ⟨k, r, u, z, t, pr, o, s, y, c, m⟩ := e
  simp only [Edu.val, Edu.cells] at *
  obtain ⟨p1, HP1⟩ : ∃ x, (r.toList == room.toList) = x := ⟨_, rfl⟩
  obtain ⟨p2, HP2⟩ : ∃ x, (z.toList == event.toList) = x := ⟨_, rfl⟩
  rw [HP1, HP2] at HR
  clear c4 c5
  go_enter Try.func25, Try.ntmps25
  go_upto_region 1 with (fail)
  generalize World.alloc _ _ = w1 at HB HX HC4 HC5 ⊢
  obtain ⟨d0, d1, d2, d3, d4, d5, d6, d7, d8, d9, d10⟩ := cells11 HX.out
  have c4 := HC4.out
  have c5 := HC5.out
  cases p1
  · go_wp2_with fail
    go_ret
    exact ⟨by rw [HR.out]; rfl, HB.out⟩
  · go_wp2_with fail
    go_ret
    exact ⟨by rw [HR.out]; rfl, HB.out⟩

/-- Those that are meant, and the others, so far. -/
structure ApS (w wr : World) (u v : Value) (q : Edu → Bool) (us : List Edu) (a : Nat) : Prop where
  below : Below w.heap.size w wr
  mu : LE.Mine wr w.heap.size u ((us.take a).filter q)
  mv : LE.Mine wr w.heap.size v ((us.take a).filter (fun e => !q e))
  ne : ∀ k, u.ownBlock = some k → v.ownBlock ≠ some k
section
variable {w wr w2 : World} {u u2 v : Value} {q : Edu → Bool} {us : List Edu} {a : Nat} {x : Edu}
theorem ApS.later (h : ApS w wr u v q us a) (hb : Below wr.heap.size wr w2) : ApS w w2 u v q us a := ⟨h.below.trans (hb.mono h.below.size), h.mu.below hb, h.mv.below hb, h.ne⟩
theorem ApS.yes (h : ApS w wr u v q us a) (hx : us[a]? = some x) (hq : q x = true) (hm : LE.Mine w2 w.heap.size u2 ((us.take a).filter q ++ [x])) (hg : wr.grownBy w2 u.ownBlock) (ho : ∀ k, u2.ownBlock = some k → u.ownBlock = some k ∨ wr.heap.size ≤ k) : ApS w w2 u2 v q us (a + 1) := by
  refine ⟨h.below.grown hg h.below.size (fun k hk => (h.mu.lt k hk).1), by rw [filter_yes hx hq]; exact hm, ?_, fun k hk hv => ?_⟩
  · rw [filter_no hx (by rw [hq]; rfl)]
    exact h.mv.keep (fun k hk => hg.block k (h.mv.lt k hk).2 (fun e => h.ne k e.symm hk))
  · rcases ho k hk with h1 | h1
    · exact h.ne k h1 hv
    · have := (h.mv.lt k hv).2
      omega
theorem ApS.no (h : ApS w wr u v q us a) (hx : us[a]? = some x) (hq : q x = false) (hm : LE.Mine w2 w.heap.size u2 ((us.take a).filter (fun e => !q e) ++ [x])) (hg : wr.grownBy w2 v.ownBlock) (ho : ∀ k, u2.ownBlock = some k → v.ownBlock = some k ∨ wr.heap.size ≤ k) : ApS w w2 u u2 q us (a + 1) := by
  refine ⟨h.below.grown hg h.below.size (fun k hk => (h.mv.lt k hk).1), ?_, by rw [filter_yes hx (by rw [hq]; rfl)]; exact hm, fun k hk hv => ?_⟩
  · rw [filter_no hx hq]
    exact h.mu.keep (fun k hk => hg.block k (h.mu.lt k hk).2 (fun e => h.ne k hk e.symm))
  · rcases ho k hv with h1 | h1
    · exact h.ne k hk h1
    · have := (h.mu.lt k hk).2
      omega
theorem ApS.len (h : ApS w wr u v q us a) : ((us.take a).filter q).length ≤ us.length ∧ ((us.take a).filter (fun e => !q e)).length ≤ us.length := by
  have h1 := List.length_filter_le q (us.take a)
  have h2 := List.length_filter_le (fun e => !q e) (us.take a)
  rw [List.length_take] at h1 h2
  omega
end

set_option maxHeartbeats 3200000 in
theorem apart_any (vv : Value) (us : List Edu) (room event : ByteArray) (b4 b5 : Nat) (w : World) (h : LE.Slice w vv us) (hl : us.length ≤ 100000) (c4 : w.cell? ⟨b4, 0, none⟩ = some (.string room)) (c5 : w.cell? ⟨b5, 0, none⟩ = some (.string event)) :
    Calls Try.prog 24 #[vv, .func (.func 25) #[] #[.pointer (some ⟨b4, 0, none⟩), .pointer (some ⟨b5, 0, none⟩)]] w fun x w' => ∃ u v, x = .returned (.tuple #[u, v]) ∧ ApS w w' u v (isOf room event) us us.length := by
  obtain ⟨A, cap, rfl, h1, h2, -⟩ := id h
  unfold maxLen at h2
  have HR := Lib.hid h
  have HQ := Lib.hid (fun e W (hb : Below w.heap.size w W) => takes_any e room event b4 b5 W ((hb.cell (World.block_lt_of_cell? _ _ c4)).trans c4) ((hb.cell (World.block_lt_of_cell? _ _ c5)).trans c5))
  generalize isOf room event = q at *
  have H0 : Hid (ApS w w (.slice none 0 0) (.slice none 0 0) q us 0) := Lib.hid ⟨Below.refl _ _, Lies.Mine.nil _ _, Lies.Mine.nil _ _, fun k hk => by cases hk⟩
  clear h c4 c5
  go_enter Try.func24, Try.ntmps24
  go_wp2_with fail
  go_loopw [10, 4, 5, 7] (fun i u v _ wr => ∃ a : Nat, i = .int .i64 (a : Int) ∧ a ≤ us.length ∧ Hid (ApS w wr u v q us a)) (fun i _ _ _ _ => us.length - (intOf i).toNat)
  case atStart => exact ⟨0, rfl, Nat.zero_le _, H0⟩
  case round =>
    obtain ⟨a, rfl, ha, HA⟩ := hrel
    clear H0
    by_cases hax : a < us.length
    · have q1 : decide ((a : Int) < (us.length : Int)) = true := decide_eq_true (by omega)
      have hx : us[a]? = some us[a] := List.getElem?_eq_getElem hax
      generalize us[a] = x at hx
      have HX := Lib.hid hx
      obtain ⟨bo, oo, rfl, hbo, hco⟩ := (HR.out.below HA.out.below).at hx
      have hiy := index_any (P := Try.prog) knE (by decide) (b := bo) (off := oo) (cap := cap) hax
      simp only [LE] at hiy hco
      obtain ⟨a0, a1, a2, a3, a4, a5, a6, a7, a8, a9, a10⟩ := range11 hco
      have hln := HA.out.len
      have HQX := Lib.hid (fun W hb => HQ.out x W hb)
      have HY := Lib.hid (fun w2 u2 (hq : q x = true) (wr' : World) u' v' (hh : ApS w wr' u' v' q us a) (hm : LE.Mine w2 w.heap.size u2 ((us.take a).filter q ++ [x])) hg ho => hh.yes hx hq hm hg ho)
      have HN := Lib.hid (fun w2 u2 (hq : q x = false) (wr' : World) u' v' (hh : ApS w wr' u' v' q us a) (hm : LE.Mine w2 w.heap.size u2 ((us.take a).filter (fun e => !q e) ++ [x])) hg ho => hh.no hx hq hm hg ho)
      generalize hqq : q x = b at HQX HY HN
      clear hqq hx hco
      have HNW := Lib.hid (heap_alloc_new wr (.cells x.cells.toArray 32))
      have HBW := Lib.hid (below_new wr (.cells x.cells.toArray 32))
      obtain ⟨xk, xr, xu, xz, xt, xp, xo, xs, xy, xc, xm⟩ := x
      simp only [Edu.val, Edu.cells] at *
      go_upto_region 4 with (fail)
      replace HA := Lib.hid (HA.out.later HBW.out)
      generalize World.alloc _ _ = w1 at HNW HA ⊢
      generalize wr.heap.size = g7 at HNW ⊢
      clear a0 a1 a2 a3 a4 a5 a6 a7 a8 a9 a10 HBW hiy
      obtain ⟨d0, d1, d2, d3, d4, d5, d6, d7, d8, d9, d10⟩ := cells11 HNW.out
      go_wp2_with fail
      refine (HQX.out _ HA.out.below).mono ?_
      rintro e w5 ⟨rfl, hb5⟩
      replace HA := Lib.hid (HA.out.later hb5)
      have HN5 := Lib.hid ((hb5.block g7 (smem_lt HNW.out)).trans HNW.out)
      clear hb5 HNW d0 d1 d2 d3 d4 d5 d6 d7 d8 d9 d10 HQX
      obtain ⟨d0, d1, d2, d3, d4, d5, d6, d7, d8, d9, d10⟩ := cells11 HN5.out
      have hsr : LE.Slice (w5.alloc (.cells #[.int .i64 xk, .string xr, .string xu, .string xz, .string xt, .bool xp, .bool xo, .int .i64 xs, .int .i64 xy, .int .i64 xc, .int .i64 xm] 32)) (.slice (some ⟨w5.heap.size, 0, none⟩) 1 1) [⟨xk, xr, xu, xz, xt, xp, xo, xs, xy, xc, xm⟩] := lit_slice (L := LE) w5 ⟨xk, xr, xu, xz, xt, xp, xo, xs, xy, xc, xm⟩ w5.heap.size rfl #[.int .i64 xk, .string xr, .string xu, .string xz, .string xt, .bool xp, .bool xo, .int .i64 xs, .int .i64 xy, .int .i64 xc, .int .i64 xm] rfl
      have HSR := Lib.hid (hsr.srcN knE (n := 1) rfl)
      have HA5 := Lib.hid (HA.out.later (below_new w5 (.cells #[.int .i64 xk, .string xr, .string xu, .string xz, .string xt, .bool xp, .bool xo, .int .i64 xs, .int .i64 xy, .int .i64 xc, .int .i64 xm] 32)))
      clear hsr HA HN5
      cases b
      · clear HY
        go_wp2_with (refine wpList_puts rfl knE (.tmp 21) (.tmp 23) 22 rfl rfl HA5.out.mv (HA5.out.below.size) (.slice (some ⟨w5.heap.size, 0, none⟩) 1 1) [⟨xk, xr, xu, xz, xt, xp, xo, xs, xy, xc, xm⟩] 1 rfl rfl HSR.out (by omega) (fun A2 cap2 w6 hm6 hg6 ho6 => ?_))
        refine ⟨⟨a + 1, by go_num, by omega, Lib.hid (HN.out _ _ (by trivial) _ _ _ HA5.out hm6 hg6 ho6)⟩, ?_⟩
        simp [intOf]; omega
      · clear HN
        go_wp2_with (refine wpList_puts rfl knE (.tmp 17) (.tmp 19) 22 rfl rfl HA5.out.mu (HA5.out.below.size) (.slice (some ⟨w5.heap.size, 0, none⟩) 1 1) [⟨xk, xr, xu, xz, xt, xp, xo, xs, xy, xc, xm⟩] 1 rfl rfl HSR.out (by omega) (fun A2 cap2 w6 hm6 hg6 ho6 => ?_))
        refine ⟨⟨a + 1, by go_num, by omega, Lib.hid (HY.out _ _ (by trivial) _ _ _ HA5.out hm6 hg6 ho6)⟩, ?_⟩
        simp [intOf]; omega
    · have q1 : decide ((a : Int) < (us.length : Int)) = false := decide_eq_false (by omega)
      obtain rfl : a = us.length := by omega
      go_wp2_with fail
      refine bodyPost_ret (v := .tuple #[u4, u5]) ?_ rfl ⟨_, _, rfl, HA.out⟩
      simp [results, Try.results24, go_sem]

set_option maxHeartbeats 1600000 in
theorem pkTake_any {w : World} {B b : Nat} {v : Value} {p : Pk} (h : CPk w B b v p) (room event : ByteArray) (hl : p.l.length ≤ 100000) :
    Calls Try.prog 14 #[.pointer (some ⟨b, 0, none⟩), .string room, .string event] w fun x w' => ∃ u v', x = .returned u ∧ LE.Mine w' w.heap.size u (p.took room event) ∧ PutK w w' B b v v' (p.take room event) ∧ ∀ k, u.ownBlock = some k → v'.ownBlock ≠ some k := by
  have H := Lib.hid h
  obtain ⟨H4, H5, HB, hsz⟩ := at_two (.cells #[.string room] 9) (.cells #[.string event] 9) (rfl : (w.alloc (.cells #[.string room] 9)).alloc (.cells #[.string event] 9) = _)
  have H4 := Lib.hid H4
  have H5 := Lib.hid H5
  have HB := Lib.hid HB
  clear h hsz
  go_enter Try.func14, Try.ntmps14
  go_upto_region 1 with (fail)
  generalize World.alloc _ _ = w1 at H4 H5 HB ⊢
  have HC := Lib.hid (H.out.below HB.out)
  have HAP := Lib.hid (apart_any v p.l room event w.heap.size (w.heap.size + 1) w1 HC.out.row.slice hl (cell_at H4.out 0) (cell_at H5.out 0))
  clear H4 H5
  have HLB : Hid (b < w1.heap.size) := Lib.hid (smem_lt HC.out.hd)
  have HLW : Hid (B ≤ w.heap.size) := Lib.hid (Nat.le_trans H.out.lo (Nat.le_of_lt (smem_lt H.out.hd)))
  have c1 : w1.cell? ⟨b, 1, none⟩ = some v := cell_at HC.out.hd 1
  go_wp2_with fail
  go_at_call 24
  refine HAP.out.mono ?_
  rintro e w2 ⟨u, v2, rfl, hap⟩
  have hd2 := (hap.below.block b HLB.out).trans HC.out.hd
  have HM : Hid (LE.Mine w2 w1.heap.size u (p.took room event)) := Lib.hid (by
    have := hap.mu
    rw [List.take_length] at this
    exact this)
  have HV : Hid (LE.Mine w2 w1.heap.size v2 (p.take room event).l) := Lib.hid (by
    have := hap.mv
    rw [List.take_length] at this
    exact this)
  have HNE := Lib.hid hap.ne
  have HBB := Lib.hid (HB.out.trans (hap.below.mono HB.out.size))
  have HSZ := Lib.hid HB.out.size
  have HD2 := Lib.hid hd2
  clear hap HAP hd2 c1 HC HB
  have z0 : w2.cell? ⟨b, 1, none⟩ = some v := cell_at HD2.out 1
  have z1 : w2.frozen? ⟨b, 1, none⟩ = false := free_at HD2.out 1
  obtain ⟨Au, cu, rfl, -⟩ := HM.out.shape
  obtain ⟨Av, cv, rfl, -⟩ := HV.out.shape
  obtain ⟨nu, hnu⟩ : ∃ n, (p.took room event).length = n := ⟨_, rfl⟩
  obtain ⟨nv, hnv⟩ : ∃ n, (p.take room event).l.length = n := ⟨_, rfl⟩
  rw [hnu] at HM HNE ⊢
  rw [hnv] at HV HNE ⊢
  clear hnu hnv
  go_wp2_with fail
  go_ret
  have hne : ∀ {x : Value} {xs : List Edu}, LE.Mine w2 w1.heap.size x xs → ∀ k, x.ownBlock = some k → k ≠ b := fun hm k hk e => by
    have := (hm.lt k hk).1
    have := HLB.out
    omega
  refine ⟨_, _, rfl, ?_, ⟨⟨heap_set HD2.out 1 _, ?_, H.out.lo, fun e he => H.out.ok e (List.mem_filter.1 he).1⟩, ?_, fun k hk => .inr ?_⟩, HNE.out⟩
  · exact (HM.out.mono HSZ.out).keep (fun k hk => Below.heap_setCell w2 _ _ k (hne HM.out k hk))
  · exact (HV.out.mono (Nat.le_trans HLW.out HSZ.out)).keep (fun k hk => Below.heap_setCell w2 _ _ k (hne HV.out k hk))
  · exact (TurnP.of HBB.out).grown (sm_grown w2 b 1 [_]) (fun k hk => by
      injection hk with hk
      exact .inl (.inl hk.symm))
  · exact Nat.le_trans HSZ.out (HV.out.lt k hk).1

theorem makeE_any (n : Nat) (hn : n ≤ 100000) : ∃ cs : Array Value, cs.size = n * 11 ∧ ∀ w, (Instr.makeSlice 22 (.int .i64 0) (.int .i64 (n : Int))).run Try.prog w = .ok (.slice (some ⟨w.heap.size, 0, none⟩) 0 n) (w.alloc (.cells cs 32)) := by
  obtain ⟨i0, hi0, hz0, hz1, hz2⟩ := info_parts knE.info
  have hb : (i0.bytes : Int) * (n : Int) ≤ 281474976710656 := by rw [hz2]; omega
  refine ⟨madeCells zeroE.val.cells (n * 11), size_madeCells _ _, fun w => ?_⟩
  have hr := run_make (P := Try.prog) w 22 32 i0 _ Try.underlying22 hi0 hz0 .i64 .i64 0 (n : Int) (Int.le_refl _) (by omega) hb (by omega)
  rw [hz1, Int.toNat_natCast] at hr
  exact hr
theorem mine_madeE (w : World) (n : Nat) (hn : n ≤ 100000) (cs : Array Value) (hc : cs.size = n * 11) : LE.Mine (w.alloc (.cells cs 32)) w.heap.size (.slice (some ⟨w.heap.size, 0, none⟩) 0 n) [] :=
  .inr ⟨w.heap.size, 0, n, cs, rfl, Nat.le_refl _, heap_alloc_new w _, Nat.zero_le _, by unfold maxLen; omega, by rw [show LE.c = 11 from rfl]; omega, by simp [Lies.vs]⟩

set_option maxHeartbeats 1600000 in
theorem pkAll_any {w : World} {B b : Nat} {v : Value} {p : Pk} (h : CPk w B b v p) (hl : p.l.length ≤ 100000) :
    Calls Try.prog 17 #[.pointer (some ⟨b, 0, none⟩)] w fun x w' => ∃ u, x = .returned u ∧ LE.Mine w' w.heap.size u p.l ∧ Below w.heap.size w w' := by
  have H := Lib.hid h
  obtain ⟨cs, hcs, hmk⟩ := makeE_any p.l.length hl
  have HM0 := Lib.hid (mine_madeE w p.l.length hl cs hcs)
  have hw0 := below_new w (.cells cs 32)
  have HB0 := Lib.hid hw0
  obtain ⟨A, cap, rfl, h1, h2, h3⟩ := h.row.shape
  unfold maxLen at h2
  have c1 : w.cell? ⟨b, 1, none⟩ = some (.slice A p.l.length cap) := cell_at h.hd 1
  have c2 : (w.alloc (.cells cs 32)).cell? ⟨b, 1, none⟩ = some (.slice A p.l.length cap) := cell_at (h.below hw0).hd 1
  clear h hcs hw0 h3
  go_enter Try.func17, Try.ntmps17
  go_upto_region 2 with (fail)
  generalize World.alloc _ _ = w1 at HM0 HB0 c2 ⊢
  clear c1 hmk
  obtain ⟨l, hl'⟩ : ∃ l, p.l = l := ⟨_, rfl⟩
  have H := Lib.hid (show ∀ W, Below w.heap.size w W → LE.Slice W (.slice A l.length cap) l ∧ (∀ e ∈ l, e.brief) from fun W hb => by rw [← hl']; exact ⟨(H.out.below hb).row.slice, H.out.ok⟩)
  have HL := Lib.hid hl'
  rw [hl'] at HM0 c2 hl h1 ⊢
  clear hl'
  have H0 : Hid (LE.Mine w1 w.heap.size (.slice (some ⟨w.heap.size, 0, none⟩) 0 l.length) (l.take 0) ∧ Below w.heap.size w w1) := Lib.hid ⟨HM0.out, HB0.out⟩
  go_wp2_with fail
  go_loopw [17, 3, 5] (fun i u _ wr => ∃ a : Nat, i = .int .i64 (a : Int) ∧ a ≤ l.length ∧ Hid (LE.Mine wr w.heap.size u (l.take a) ∧ Below w.heap.size w wr)) (fun i _ _ _ => l.length - (intOf i).toNat)
  case atStart => exact ⟨0, rfl, Nat.zero_le _, H0⟩
  case round =>
    obtain ⟨a, rfl, ha, HA⟩ := hrel
    clear H0 HM0 HB0 c2
    by_cases hax : a < l.length
    · have q1 : decide ((a : Int) < (l.length : Int)) = true := decide_eq_true (by omega)
      have hx : l[a]? = some l[a] := List.getElem?_eq_getElem hax
      generalize l[a] = x at hx
      have HX := Lib.hid hx
      obtain ⟨bo, oo, rfl, hbo, hco⟩ := (H.out wr HA.out.2).1.at hx
      have hiy := index_any (P := Try.prog) knE (by decide) (b := bo) (off := oo) (cap := cap) hax
      simp only [LE] at hiy hco
      obtain ⟨a0, a1, a2, a3, a4, a5, a6, a7, a8, a9, a10⟩ := range11 hco
      have HOW := Lib.hid (fun W => own_any x W ((H.out wr HA.out.2).2 x (List.mem_of_getElem? hx)))
      have HTK := Lib.hid (show l.take (a + 1) = l.take a ++ [x] from by rw [List.take_add_one, hx]; rfl)
      clear hx hco
      have HNW := Lib.hid (heap_alloc_new wr (.cells x.cells.toArray 32))
      have HBW := Lib.hid (below_new wr (.cells x.cells.toArray 32))
      obtain ⟨xk, xr, xu, xz, xt, xp, xo, xs, xy, xc, xm⟩ := x
      simp only [Edu.val, Edu.cells] at *
      go_upto_region 5 with (fail)
      replace HA := Lib.hid (And.intro (HA.out.1.below HBW.out) (HA.out.2.trans (HBW.out.mono HA.out.2.size)))
      generalize World.alloc _ _ = w3 at HNW HA ⊢
      generalize wr.heap.size = g7 at HNW ⊢
      clear a0 a1 a2 a3 a4 a5 a6 a7 a8 a9 a10 HBW hiy
      obtain ⟨d0, d1, d2, d3, d4, d5, d6, d7, d8, d9, d10⟩ := cells11 HNW.out
      go_wp2_with fail
      go_at_call 27
      refine (HOW.out _).mono ?_
      rintro e w5 ⟨rfl, hb5⟩
      replace HA := Lib.hid (And.intro (HA.out.1.below hb5) (HA.out.2.trans (hb5.mono HA.out.2.size)))
      clear hb5 HNW HOW d0 d1 d2 d3 d4 d5 d6 d7 d8 d9 d10
      have hsr : LE.Slice (w5.alloc (.cells #[.int .i64 xk, .string xr, .string xu, .string xz, .string xt, .bool xp, .bool xo, .int .i64 xs, .int .i64 xy, .int .i64 xc, .int .i64 xm] 32)) (.slice (some ⟨w5.heap.size, 0, none⟩) 1 1) [⟨xk, xr, xu, xz, xt, xp, xo, xs, xy, xc, xm⟩] := lit_slice (L := LE) w5 ⟨xk, xr, xu, xz, xt, xp, xo, xs, xy, xc, xm⟩ w5.heap.size rfl #[.int .i64 xk, .string xr, .string xu, .string xz, .string xt, .bool xp, .bool xo, .int .i64 xs, .int .i64 xy, .int .i64 xc, .int .i64 xm] rfl
      have HSR := Lib.hid (hsr.srcN knE (n := 1) rfl)
      have hbl := below_new w5 (.cells #[.int .i64 xk, .string xr, .string xu, .string xz, .string xt, .bool xp, .bool xo, .int .i64 xs, .int .i64 xy, .int .i64 xc, .int .i64 xm] 32)
      have HA5 := Lib.hid (And.intro (HA.out.1.below hbl) (HA.out.2.trans (hbl.mono HA.out.2.size)))
      have hln : (l.take a).length ≤ 100000 := by rw [List.length_take]; omega
      have HLA : Hid ((l.take a).length = a) := Lib.hid (by rw [List.length_take]; omega)
      clear hsr HA hbl
      go_wp2_with (refine wpList_puts rfl knE (.tmp 21) (.tmp 24) 22 rfl rfl HA5.out.1 (HA5.out.2.size) (.slice (some ⟨w5.heap.size, 0, none⟩) 1 1) [⟨xk, xr, xu, xz, xt, xp, xo, xs, xy, xc, xm⟩] 1 rfl rfl HSR.out (by omega) (fun A2 cap2 w6 hm6 hg6 ho6 => ?_))
      refine ⟨⟨a + 1, by go_num, by omega, Lib.hid ⟨by rw [HTK.out]; rw [HLA.out] at hm6; exact hm6, HA5.out.2.grown hg6 HA5.out.2.size (fun k hk => (HA5.out.1.lt k hk).1)⟩⟩, ?_⟩
      simp [intOf]; omega
    · have q1 : decide ((a : Int) < (l.length : Int)) = false := decide_eq_false (by omega)
      obtain rfl : a = l.length := by omega
      have HF := Lib.hid HA.out.1
      rw [List.take_length] at HF
      go_wp2_with fail
      go_ret
      exact ⟨u3, rfl, by rw [HL.out]; exact HF.out, HA.out.2⟩
end Go.Proofs.Ytimlomflgnnmnaa
