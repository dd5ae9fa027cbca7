/-
  The document's park: Take; the law's example.
-/
import Derived.Test.YtimlomflgnnmnaaPkF
namespace Go.Proofs.Ytimlomflgnnmnaa
set_option maxRecDepth 20000
open Go.RowKit
set_option linter.unusedVariables false
set_option linter.unusedSimpArgs false

set_option maxHeartbeats 3200000 in
theorem docTake_any {w : World} {vv : Value} {p : Pk} (h : LE.Slice w vv p.l) (room event : ByteArray) (hl : p.l.length ≤ 100000) :
    Calls Try.prog 12 #[.agg #[.int .i64 (p.most : Int), vv, .int .i64 (p.lost : Int)], .string room, .string event] w fun x w' => ∃ u v', x = .returned (.tuple #[.agg #[.int .i64 ((p.take room event).most : Int), v', .int .i64 ((p.take room event).lost : Int)], u]) ∧ LE.Mine w' w.heap.size u (p.took room event) ∧ LE.Mine w' w.heap.size v' (p.take room event).l ∧ Below w.heap.size w w' := by
  obtain ⟨most, us, lost⟩ := p
  simp only [Pk.take, Pk.took] at *
  obtain ⟨A, cap, rfl, h1, h2, -⟩ := id h
  unfold maxLen at h2
  obtain ⟨H3, H6, HB, hsz⟩ := at_two (.cells #[.int .i64 (most : Int), .slice A us.length cap, .int .i64 (lost : Int)] 30) (.cells #[.int .i64 0, .slice none 0 0, .int .i64 0] 30) (rfl : (w.alloc (.cells #[.int .i64 (most : Int), .slice A us.length cap, .int .i64 (lost : Int)] 30)).alloc (.cells #[.int .i64 0, .slice none 0 0, .int .i64 0] 30) = _)
  have H3 := Lib.hid H3
  have H6 := Lib.hid H6
  have HB := Lib.hid HB
  have HR := Lib.hid h
  have HQD := Lib.hid (fun e => isOf_def room event e)
  generalize isOf room event = q at *
  clear h hsz
  go_enter Try.func12, Try.ntmps12
  go_upto_region 1 with (fail)
  generalize World.alloc _ _ = w1 at H3 H6 HB ⊢
  obtain ⟨g6, hg6⟩ : ∃ g, w.heap.size + 1 = g := ⟨_, rfl⟩
  have HLO : Hid (w.heap.size ≤ g6) := Lib.hid (by omega)
  have HNE : Hid (w.heap.size ≠ g6) := Lib.hid (by omega)
  rw [hg6] at H6 ⊢
  clear hg6
  have H0 : Hid (ApS w1 w1 (.slice none 0 0) (.slice none 0 0) q us 0) := Lib.hid ⟨Below.refl _ _, Lies.Mine.nil _ _, Lies.Mine.nil _ _, fun k hk => by cases hk⟩
  have HRR := Lib.hid (fun W (hb : Below w1.heap.size w1 W) => HR.out.below (HB.out.trans (hb.mono HB.out.size)))
  have HP3 := Lib.hid (fun W (hb : Below w1.heap.size w1 W) => cells3 ((hb.block _ (smem_lt H3.out)).trans H3.out))
  go_wp2_with fail
  go_loopw [10, 8, 9] (fun i u v wr => ∃ a : Nat, i = .int .i64 (a : Int) ∧ a ≤ us.length ∧ Hid (ApS w1 wr u v q us a)) (fun i _ _ _ => us.length - (intOf i).toNat)
  case atStart => exact ⟨0, rfl, Nat.zero_le _, H0⟩
  case round =>
    obtain ⟨a, rfl, ha, HA⟩ := hrel
    clear H0
    obtain ⟨c0, c1, c2⟩ := HP3.out wr HA.out.below
    by_cases hax : a < us.length
    · have q1 : decide ((a : Int) < (us.length : Int)) = true := decide_eq_true (by omega)
      have hx : us[a]? = some us[a] := List.getElem?_eq_getElem hax
      generalize us[a] = x at hx
      have HX := Lib.hid hx
      obtain ⟨bo, oo, rfl, hbo, hco⟩ := (HRR.out wr HA.out.below).at hx
      have hiy := index_any (P := Try.prog) knE (by decide) (b := bo) (off := oo) (cap := cap) hax
      simp only [LE] at hiy hco
      obtain ⟨a0, a1, a2, a3, a4, a5, a6, a7, a8, a9, a10⟩ := range11 hco
      have hln := HA.out.len
      have hqx := HQD.out x
      have HY := Lib.hid (fun w2 u2 (hq : q x = true) (wr' : World) u' v' (hh : ApS w1 wr' u' v' q us a) (hm : LE.Mine w2 w1.heap.size u2 ((us.take a).filter q ++ [x])) hg ho => hh.yes hx hq hm hg ho)
      have HN := Lib.hid (fun w2 u2 (hq : q x = false) (wr' : World) u' v' (hh : ApS w1 wr' u' v' q us a) (hm : LE.Mine w2 w1.heap.size u2 ((us.take a).filter (fun e => !q e) ++ [x])) hg ho => hh.no hx hq hm hg ho)
      obtain ⟨p1, HP1⟩ : ∃ y, (x.room.toList == room.toList) = y := ⟨_, rfl⟩
      obtain ⟨p2, HP2⟩ : ∃ y, (x.event.toList == event.toList) = y := ⟨_, rfl⟩
      rw [HP1, HP2] at hqx
      rw [hqx] at HY HN
      clear hqx hx hco
      obtain ⟨xk, xr, xu, xz, xt, xp, xo, xs, xy, xc, xm⟩ := x
      simp only at HP1 HP2 a0 a1 a2 a3 a4 a5 a6 a7 a8 a9 a10
      have hsr : LE.Slice (wr.alloc (.cells #[.int .i64 xk, .string xr, .string xu, .string xz, .string xt, .bool xp, .bool xo, .int .i64 xs, .int .i64 xy, .int .i64 xc, .int .i64 xm] 32)) (.slice (some ⟨wr.heap.size, 0, none⟩) 1 1) [⟨xk, xr, xu, xz, xt, xp, xo, xs, xy, xc, xm⟩] := lit_slice (L := LE) wr ⟨xk, xr, xu, xz, xt, xp, xo, xs, xy, xc, xm⟩ wr.heap.size rfl #[.int .i64 xk, .string xr, .string xu, .string xz, .string xt, .bool xp, .bool xo, .int .i64 xs, .int .i64 xy, .int .i64 xc, .int .i64 xm] rfl
      have HSR := Lib.hid (hsr.srcN knE (n := 1) rfl)
      have HA5 := Lib.hid (HA.out.later (below_new wr (.cells #[.int .i64 xk, .string xr, .string xu, .string xz, .string xt, .bool xp, .bool xo, .int .i64 xs, .int .i64 xy, .int .i64 xc, .int .i64 xm] 32)))
      clear hsr HA
      cases p1
      · go_wp2_with (refine wpList_puts rfl knE (.tmp 44) (.tmp 50) 22 rfl rfl HA5.out.mv (HA5.out.below.size) (.slice (some ⟨wr.heap.size, 0, none⟩) 1 1) [⟨xk, xr, xu, xz, xt, xp, xo, xs, xy, xc, xm⟩] 1 rfl rfl HSR.out (by omega) (fun A2 cap2 w6 hm6 hg6 ho6 => ?_))
        refine ⟨⟨a + 1, by go_num, by omega, Lib.hid (HN.out _ _ rfl _ _ _ HA5.out hm6 hg6 ho6)⟩, ?_⟩
        simp [intOf]; omega
      · cases p2
        · go_wp2_with (refine wpList_puts rfl knE (.tmp 44) (.tmp 50) 22 rfl rfl HA5.out.mv (HA5.out.below.size) (.slice (some ⟨wr.heap.size, 0, none⟩) 1 1) [⟨xk, xr, xu, xz, xt, xp, xo, xs, xy, xc, xm⟩] 1 rfl rfl HSR.out (by omega) (fun A2 cap2 w6 hm6 hg6 ho6 => ?_))
          refine ⟨⟨a + 1, by go_num, by omega, Lib.hid (HN.out _ _ rfl _ _ _ HA5.out hm6 hg6 ho6)⟩, ?_⟩
          simp [intOf]; omega
        · go_wp2_with (refine wpList_puts rfl knE (.tmp 36) (.tmp 42) 22 rfl rfl HA5.out.mu (HA5.out.below.size) (.slice (some ⟨wr.heap.size, 0, none⟩) 1 1) [⟨xk, xr, xu, xz, xt, xp, xo, xs, xy, xc, xm⟩] 1 rfl rfl HSR.out (by omega) (fun A2 cap2 w6 hm6 hg6 ho6 => ?_))
          refine ⟨⟨a + 1, by go_num, by omega, Lib.hid (HY.out _ _ rfl _ _ _ HA5.out hm6 hg6 ho6)⟩, ?_⟩
          simp [intOf]; omega
    · have q1 : decide ((a : Int) < (us.length : Int)) = false := decide_eq_false (by omega)
      obtain rfl : a = us.length := by omega
      have hap := HA.out
      have HMU : Hid (LE.Mine wr w1.heap.size u8 (us.filter q)) := Lib.hid (by
        have := hap.mu
        rw [List.take_length] at this
        exact this)
      have HMV : Hid (LE.Mine wr w1.heap.size u9 (us.filter (fun e => !q e))) := Lib.hid (by
        have := hap.mv
        rw [List.take_length] at this
        exact this)
      have hlt := smem_lt H6.out
      have hx6 := (hap.below.block _ hlt).trans H6.out
      obtain ⟨Av, cv, rfl, -⟩ := HMV.out.shape
      obtain ⟨nv, hnv⟩ : ∃ n, (us.filter (fun e => !q e)).length = n := ⟨_, rfl⟩
      rw [hnv] at HMV HA ⊢
      have hset := setRow_heap wr g6 _ #[.int .i64 (most : Int), .slice Av nv cv, .int .i64 (lost : Int)] _ _ hx6
      have hne : ∀ k, w1.heap.size ≤ k → k ≠ g6 := fun k hk => by omega
      have HMU2 : Hid (LE.Mine (wr.setRow g6 #[.int .i64 (most : Int), .slice Av nv cv, .int .i64 (lost : Int)]) w1.heap.size u8 (us.filter q)) := Lib.hid (HMU.out.keep (fun k hk => setRow_other wr g6 k _ (hne k (HMU.out.lt k hk).1)))
      have HMV2 : Hid (LE.Mine (wr.setRow g6 #[.int .i64 (most : Int), .slice Av nv cv, .int .i64 (lost : Int)]) w1.heap.size (.slice Av nv cv) (us.filter (fun e => !q e))) := Lib.hid (HMV.out.keep (fun k hk => setRow_other wr g6 k _ (hne k (HMV.out.lt k hk).1)))
      have HBB := Lib.hid (below_setRow (HB.out.trans (hap.below.mono HB.out.size)) HLO.out #[.int .i64 (most : Int), .slice Av nv cv, .int .i64 (lost : Int)])
      have HSZ := Lib.hid HB.out.size
      have hset := Lib.hid hset
      have hx6 := Lib.hid hx6
      clear hap hnv hlt hne
      go_wp2_with (refine wpList_store_row rfl 30 (.tmp 6) (.tmp 57) rfl g6 #[.int .i64 (most : Int), .slice Av nv cv, .int .i64 (lost : Int)] rfl rfl 30 _ hx6.out p_info rfl (one3 _ _ _ _ _) ?_)
      generalize hW2 : World.setRow _ _ _ = W3 at hset HMU2 HMV2 HBB ⊢
      clear hW2 c0 c1 c2
      obtain ⟨e0, e1, e2⟩ := cells3 hset.out
      refine bodyPost_ret (v := .tuple #[.agg #[.int .i64 (most : Int), .slice Av nv cv, .int .i64 (lost : Int)], u8]) ?_ rfl ⟨_, _, rfl, HMU2.out.mono HSZ.out, HMV2.out.mono HSZ.out, HBB.out⟩
      simp [results, Try.results12, go_sem, e0, e1, e2]

/-! ### The example -/
def exA : Edu := ⟨1, ⟨#[]⟩, ⟨#[]⟩, ⟨#[36, 97]⟩, ⟨#[]⟩, false, false, 0, 0, 0, 0⟩
def exB : Edu := ⟨1, ⟨#[]⟩, ⟨#[]⟩, ⟨#[36, 98]⟩, ⟨#[]⟩, false, false, 0, 0, 0, 0⟩
theorem exA_brief : exA.brief := by unfold Edu.brief exA; decide
theorem exB_brief : exB.brief := by unfold Edu.brief exB; decide
theorem ex1 : (⟨1, [], 0⟩ : Pk).put exA = ⟨1, [exA], 0⟩ ∧ (⟨1, [], 0⟩ : Pk).goes exA = false ∧ (⟨1, [], 0⟩ : Pk).gone exA = zeroE := Pk.put_in rfl rfl
theorem ex2 : (⟨1, [exA], 0⟩ : Pk).put exB = ⟨1, [exB], 1⟩ ∧ (⟨1, [exA], 0⟩ : Pk).goes exB = true ∧ (⟨1, [exA], 0⟩ : Pk).gone exB = exA := Pk.put_out (by kernel_rfl) rfl
end Go.Proofs.Ytimlomflgnnmnaa
