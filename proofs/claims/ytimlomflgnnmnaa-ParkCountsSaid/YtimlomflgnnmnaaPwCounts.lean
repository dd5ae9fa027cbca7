/-
  Each that was put is there, was taken, or has gone: ParkCounts, walked.
-/
import Derived.Test.YtimlomflgnnmnaaPwBo
namespace Go.Proofs.Ytimlomflgnnmnaa
set_option maxRecDepth 20000
open Go.RowKit
set_option linter.unusedVariables false
set_option linter.unusedSimpArgs false

theorem has_step {l : List Edu} {k : Nat} {x e : Edu} (hx : l[k]? = some x) : hasP (l.take (k + 1)) e = (hasP (l.take k) e || eqE x e) := by
  unfold hasP
  rw [List.take_add_one, hx, List.any_append]
  simp

set_option maxHeartbeats 12800000 in
theorem parkCounts_walk (n : Int) (vv : Value) (l : List Edu) (vv2 : Value) (l2 : List Edu) (w : World) (h0 : -9223372036854775808 ≤ n) (h1 : n ≤ 9223372036854775807) (hE : EsS w vv l) (hE2 : EsS w vv2 l2) :
    Calls Try.prog 5 #[.int .i64 n, vv, vv2] w fun e w' => e = .returned (.bool true) ∧ Below w.heap.size w w' := by
  have HA := Lib.hid (fun W => around_any n 6 W h0 h1 (by decide) (by decide))
  have hab := aroundI_bd n 6 (by decide)
  obtain ⟨m, hm1, hm6, hm⟩ := bound6 n
  have HNY := Lib.hid (fun W => pkNew_yes m W hm1 (by omega))
  have HLV := Lib.hid (fun W => lives_any W)
  have HWF := Lib.hid hE.2
  obtain ⟨A, cap, rfl, q1, q2, -⟩ := id hE.1
  unfold maxLen at q2
  have HR := Lib.hid hE.1
  have HWF2 := Lib.hid hE2.2
  obtain ⟨A2, cap2, rfl, q1', q2', -⟩ := id hE2.1
  unfold maxLen at q2'
  have HR2 := Lib.hid hE2.1
  clear hE hE2
  rw [← hm] at HNY
  generalize aroundI n 6 = a6 at *
  have HM6 := Lib.hid hm
  clear hm
  go_enter Try.func5, Try.ntmps5
  go_wp2_with fail
  go_at_call 8
  refine (HA.out _).mono ?_
  rintro e w1 ⟨rfl, rfl⟩
  go_wp2_with fail
  go_at_call 9
  refine (HNY.out _).mono ?_
  rintro e w2 ⟨b, rfl, hk⟩
  have HK : Hid (∃ v p, Kp w w2 b v p [] ∧ FitP p m 0 ∧ p.l.length + p.lost = 0 ∧ p.lost = 0) := Lib.hid ⟨_, _, hk, FitP.start m, rfl, rfl⟩
  clear hk HA HNY
  go_wp2_with fail
  go_loopw [12, 13, 14, 15, 16, 17, 18, 10, 11] (fun i _ _ _ _ _ _ cv gv wr => ∃ a c g : Nat, i = .int .i64 (a : Int) ∧ a ≤ l.length ∧ a ≤ 16 ∧ cv = .int .i64 (c : Int) ∧ gv = .int .i64 (g : Int) ∧ c ≤ 100 ∧ g ≤ 16 ∧ Hid (∃ v p, Kp w wr b v p [] ∧ FitP p m a ∧ p.l.length + p.lost = c ∧ p.lost = g)) (fun i _ _ _ _ _ _ _ _ _ => l.length - (intOf i).toNat)
  case atStart => exact ⟨0, 0, 0, rfl, Nat.zero_le _, Nat.zero_le _, rfl, rfl, Nat.zero_le _, Nat.zero_le _, HK⟩
  case round =>
    obtain ⟨a, c, g, rfl, ha, ha8, rfl, rfl, hc, hg, HS⟩ := hrel
    clear HK
    obtain ⟨v, p, hK, hF, hpc, hpg⟩ := HS.out
    have HA := Lib.hid hK
    have HF := Lib.hid hF
    have HPC := Lib.hid (And.intro hpc hpg)
    clear hK hF HS hpc hpg
    have HLL := Lib.hid (show p.l.length ≤ 100000 by have := HF.out.len; omega)
    have HLO := Lib.hid (show p.lost ≤ 100000 by have := HF.out.lost; omega)
    have HMO := Lib.hid (show p.most ≤ 100000 by have := HF.out.most; omega)
    have goOn : (a < l.length ∧ a < 16) ∨ ¬ (a < l.length ∧ a < 16) := Classical.em _
    rcases goOn with ⟨hal, hat⟩ | hno
    · have q3 : decide ((a : Int) < (l.length : Int)) = true := decide_eq_true (by omega)
      have q4 : decide ((a : Int) < 16) = true := decide_eq_true (by omega)
      have hx : l[a]? = some l[a] := List.getElem?_eq_getElem hal
      generalize l[a] = x at hx
      have hxw := HWF.out x (List.mem_of_getElem? hx)
      have HXC : Hid (∀ W, Below w.heap.size w W → LE.Slice W (.slice A l.length cap) l) := Lib.hid (fun W hb => HR.out.below hb)
      have HX := Lib.hid hx
      have HWT := Lib.hid (fun W => waits_any x W hxw)
      have hbr := wait_brief x
      obtain ⟨y, hy⟩ : ∃ y, waitE x = y := ⟨_, rfl⟩
      rw [hy] at HWT hbr
      have HPT := Lib.hid (fun (W : World) ts (hk : Kp w W b v p ts) => hk.put_any y hbr HLL.out HLO.out HMO.out)
      have HFN := Lib.hid (HF.out.put y)
      have HCT := Lib.hid (p.put_count y)
      have HLC := Lib.hid (p.put_lost y)
      have HHS := Lib.hid (fun (hh : hasP p.l y = true) => (Pk.put_has hh).2.1)
      have HST := Lib.hid (fun k z (hz : p.l[k]? = some z) => has_step (e := y) hz)
      obtain ⟨B0, hB0⟩ : ∃ B, hasP p.l y = B := ⟨_, rfl⟩
      rw [hB0] at HCT HHS
      generalize Pk.put p y = p2 at HPT HFN HCT HLC
      generalize Pk.gone p y = ge at HPT
      generalize Pk.goes p y = gb at HPT HCT HLC HHS
      have HB0 := Lib.hid hB0
      clear hxw hbr hy hB0 hx
      go_wp2_with fail
      go_at_call 17
      refine (HA.out.all_any HLL.out).mono ?_
      rintro e w4 ⟨u, rfl, -, hk4⟩
      obtain ⟨Au, cu, rfl, hu1, hu2, -⟩ := id (hk4.is List.mem_cons_self : LE.Slice w4 u p.l)
      unfold maxLen at hu2
      have HA4 := Lib.hid hk4
      clear hk4 HA
      obtain ⟨bo, oo, rfl, hbo, hco⟩ := (HXC.out w4 HA4.out.below).at HX.out
      have hiy := index_any (P := Try.prog) knE (by decide) (b := bo) (off := oo) (cap := cap) hal
      simp only [LE] at hiy hco
      obtain ⟨a0, a1, a2, a3, a4, a5, a6', a7, a8, a9, a10⟩ := range11 hco
      clear hco HX HXC
      obtain ⟨xk, xr, xu, xz, xt, xp, xo, xs, xy, xc, xm⟩ := x
      have heq := fun z w => eql_edu z y w
      obtain ⟨yk, yr, yu, yz, yt, yp, yo, ys, yy, yc, ym⟩ := y
      simp only [Edu.val] at *
      go_wp2_with fail
      go_at_call 10
      refine (HWT.out _).mono ?_
      rintro e w5 ⟨rfl, hb⟩
      have HN7 := heap_alloc_new w5 (.cells #[.int .i64 yk, .string yr, .string yu, .string yz, .string yt, .bool yp, .bool yo, .int .i64 ys, .int .i64 yy, .int .i64 yc, .int .i64 ym] 32)
      have HA5 := Lib.hid (HA4.out.later hb)
      have HA7 := Lib.hid (HA5.out.add (below_new w5 (.cells #[.int .i64 yk, .string yr, .string yu, .string yz, .string yt, .bool yp, .bool yo, .int .i64 ys, .int .i64 yy, .int .i64 yc, .int .i64 ym] 32)) (t := Th.box w5.heap.size (.cells #[.int .i64 yk, .string yr, .string yu, .string yz, .string yt, .bool yp, .bool yo, .int .i64 ys, .int .i64 yy, .int .i64 yc, .int .i64 ym] 32 (0, 0))) HN7 (fun k hk => .inl (Nat.le_of_eq hk.symm)))
      clear hb HWT a0 a1 a2 a3 a4 a5 a6' a7 a8 a9 a10 hiy HA4 HA5
      go_upto_region 12 with (fail)
      generalize World.alloc _ _ = w7 at HN7 HA7 ⊢
      generalize w5.heap.size = g7 at HN7 HA7 ⊢
      clear HN7
      obtain ⟨nl, hnl⟩ : ∃ n, p.l.length = n := ⟨_, rfl⟩
      rw [hnl] at HA7 hu1 ⊢
      have HNL := Lib.hid hnl
      clear hnl
      have H0 : Hid (false = hasP (p.l.take 0) ⟨yk, yr, yu, yz, yt, yp, yo, ys, yy, yc, ym⟩) := Lib.hid rfl
      go_wp2_with fail
      go_loopw [16, 15] (fun i hv wr => ∃ (k : Nat) (B : Bool), i = .int .i64 (k : Int) ∧ k ≤ nl ∧ hv = .bool B ∧ Hid (B = hasP (p.l.take k) ⟨yk, yr, yu, yz, yt, yp, yo, ys, yy, yc, ym⟩) ∧ Hid (Kp w wr b v p (Th.box g7 (.cells #[.int .i64 yk, .string yr, .string yu, .string yz, .string yt, .bool yp, .bool yo, .int .i64 ys, .int .i64 yy, .int .i64 yc, .int .i64 ym] 32 (0, 0)) :: Th.row LE (.slice Au nl cu) p.l :: []))) (fun i _ _ => nl - (intOf i).toNat)
      case atStart => exact ⟨0, false, rfl, Nat.zero_le _, rfl, H0, HA7⟩
      case round =>
        obtain ⟨k, B, rfl, hkn, rfl, HB, HK⟩ := hrel
        clear HA7 H0
        obtain ⟨d0, d1, d2, d3, d4, d5, d6, d7, d8, d9, d10⟩ := cells11 (HK.out.is List.mem_cons_self : wr.heap[g7]? = _)
        by_cases hkx : k < nl
        · have q5 : decide ((k : Int) < (nl : Int)) = true := decide_eq_true (by omega)
          have hx : p.l[k]? = some (p.l[k]'(by rw [HNL.out]; exact hkx)) := List.getElem?_eq_getElem _
          generalize p.l[k]'(by rw [HNL.out]; exact hkx) = z at hx
          obtain ⟨bo2, oo2, rfl, hbo, hco⟩ := (HK.out.is (t := Th.row LE (.slice Au nl cu) p.l) (List.mem_cons_of_mem _ List.mem_cons_self) : LE.Slice wr (.slice Au nl cu) p.l).at hx
          have hiy := index_any (P := Try.prog) knE (by decide) (b := bo2) (off := oo2) (cap := cu) hkx
          simp only [LE] at hiy hco
          obtain ⟨a0, a1, a2, a3, a4, a5, a6', a7, a8, a9, a10⟩ := range11 hco
          have hst := HST.out k z hx
          have heq := heq z
          rw [← HB.out] at hst
          clear hx hco
          generalize eqE z ⟨yk, yr, yu, yz, yt, yp, yo, ys, yy, yc, ym⟩ = M at hst heq
          have HS2 := Lib.hid hst
          clear hst
          obtain ⟨zk, zr, zu, zz, zt, zp, zo, zs, zy, zc, zm⟩ := z
          simp only [Edu.val] at heq a0 a1 a2 a3 a4 a5 a6' a7 a8 a9 a10
          cases B
          · go_wp2_with fail
            go_quiet (fail)
            clear d0 d1 d2 d3 d4 d5 d6 d7 d8 d9 d10 a0 a1 a2 a3 a4 a5 a6' a7 a8 a9 a10 hiy heq
            have HK2 := Lib.hid (HK.out.later (below_drewN (Below.refl _ _) nq))
            clear HK
            have HS3 : Hid (M = hasP (p.l.take (k + 1)) ⟨yk, yr, yu, yz, yt, yp, yo, ys, yy, yc, ym⟩) := Lib.hid (by rw [HS2.out]; rfl)
            go_wp2_with fail
            refine ⟨⟨k + 1, M, by go_num, by omega, rfl, HS3, HK2⟩, ?_⟩
            simp [intOf]; omega
          · go_wp2_with fail
            go_quiet (fail)
            clear d0 d1 d2 d3 d4 d5 d6 d7 d8 d9 d10 a0 a1 a2 a3 a4 a5 a6' a7 a8 a9 a10 hiy heq
            have HK2 := Lib.hid (HK.out.later (below_drewN (Below.refl _ _) nq))
            clear HK
            have HS3 : Hid (true = hasP (p.l.take (k + 1)) ⟨yk, yr, yu, yz, yt, yp, yo, ys, yy, yc, ym⟩) := Lib.hid (by rw [HS2.out]; rfl)
            go_wp2_with fail
            refine ⟨⟨k + 1, true, by go_num, by omega, rfl, HS3, HK2⟩, ?_⟩
            simp [intOf]; omega
        · have q5 : decide ((k : Int) < (nl : Int)) = false := decide_eq_false (by omega)
          have hBB : B = B0 := by
            rw [HB.out, ← HB0.out, List.take_of_length_le (by rw [HNL.out]; omega)]
          subst hBB
          have HP6 := Lib.hid (HPT.out _ _ HK.out)
          clear HPT heq HB HB0 HST
          obtain ⟨zk, zr, zu, zz, zt, zp, zo, zs, zy, zc, zm⟩ := ge
          simp only [Edu.val] at HP6
          cases B
          · go_wp2_with fail
            go_at_call 16
            refine HP6.out.mono ?_
            rintro e w9 ⟨rfl, v9, hk9⟩
            have HK9 := Lib.hid ((hk9.later (below_new w9 (.cells #[.int .i64 zk, .string zr, .string zu, .string zz, .string zt, .bool zp, .bool zo, .int .i64 zs, .int .i64 zy, .int .i64 zc, .int .i64 zm] 32))).less (ts' := []) (fun t ht => by cases ht))
            clear hk9 HP6 HK d0 d1 d2 d3 d4 d5 d6 d7 d8 d9 d10 HHS
            cases gb
            · have HQ9 : Hid (∃ v p, Kp w (w9.alloc (.cells #[.int .i64 zk, .string zr, .string zu, .string zz, .string zt, .bool zp, .bool zo, .int .i64 zs, .int .i64 zy, .int .i64 zc, .int .i64 zm] 32)) b v p [] ∧ FitP p m (a + 1) ∧ p.l.length + p.lost = c + 1 ∧ p.lost = g) := Lib.hid ⟨_, p2, HK9.out, HFN.out, by
                have h1 := HCT.out
                have h2 := HLC.out
                have h3 := HPC.out
                simp only [cond_false] at h1 h2
                omega, by
                have h2 := HLC.out
                have h3 := HPC.out
                simp only [cond_false] at h2
                omega⟩
              have HGC : Hid (c + 1 ≤ 100 ∧ g ≤ 16) := Lib.hid (by
                obtain ⟨v, p, h1, h2, h3, h4⟩ := HQ9.out
                have h5 := h2.len
                have h6 := h2.lost
                omega)
              clear HK9
              go_wp2_with fail
              refine ⟨⟨a + 1, c + 1, g, by go_num, by omega, by omega, by go_num, by go_num, HGC.out.1, HGC.out.2, HQ9⟩, ?_⟩
              simp [intOf]; omega
            · have HQ9 : Hid (∃ v p, Kp w (w9.alloc (.cells #[.int .i64 zk, .string zr, .string zu, .string zz, .string zt, .bool zp, .bool zo, .int .i64 zs, .int .i64 zy, .int .i64 zc, .int .i64 zm] 32)) b v p [] ∧ FitP p m (a + 1) ∧ p.l.length + p.lost = c + 1 ∧ p.lost = g + 1) := Lib.hid ⟨_, p2, HK9.out, HFN.out, by
                have h1 := HCT.out
                have h2 := HLC.out
                have h3 := HPC.out
                simp only [cond_false, cond_true] at h1 h2
                omega, by
                have h2 := HLC.out
                have h3 := HPC.out
                simp only [cond_true] at h2
                omega⟩
              have HGC : Hid (c + 1 ≤ 100 ∧ g + 1 ≤ 16) := Lib.hid (by
                obtain ⟨v, p, h1, h2, h3, h4⟩ := HQ9.out
                have h5 := h2.len
                have h6 := h2.lost
                omega)
              clear HK9
              go_wp2_with fail
              refine ⟨⟨a + 1, c + 1, g + 1, by go_num, by omega, by omega, by go_num, by go_num, HGC.out.1, HGC.out.2, HQ9⟩, ?_⟩
              simp [intOf]; omega
          · have hgb := HHS.out (by trivial)
            subst hgb
            go_wp2_with fail
            go_at_call 16
            refine HP6.out.mono ?_
            rintro e w9 ⟨rfl, v9, hk9⟩
            have HK9 := Lib.hid ((hk9.later (below_new w9 (.cells #[.int .i64 zk, .string zr, .string zu, .string zz, .string zt, .bool zp, .bool zo, .int .i64 zs, .int .i64 zy, .int .i64 zc, .int .i64 zm] 32))).less (ts' := []) (fun t ht => by cases ht))
            clear hk9 HP6 HK d0 d1 d2 d3 d4 d5 d6 d7 d8 d9 d10 HHS
            have HQ9 : Hid (∃ v p, Kp w (w9.alloc (.cells #[.int .i64 zk, .string zr, .string zu, .string zz, .string zt, .bool zp, .bool zo, .int .i64 zs, .int .i64 zy, .int .i64 zc, .int .i64 zm] 32)) b v p [] ∧ FitP p m (a + 1) ∧ p.l.length + p.lost = c ∧ p.lost = g) := Lib.hid ⟨_, p2, HK9.out, HFN.out, by
              have h1 := HCT.out
              have h2 := HLC.out
              have h3 := HPC.out
              simp only [cond_false, cond_true] at h1 h2
              omega, by
              have h2 := HLC.out
              have h3 := HPC.out
              simp only [cond_false] at h2
              omega⟩
            clear HK9
            go_wp2_with fail
            refine ⟨⟨a + 1, c, g, by go_num, by omega, by omega, by go_num, by go_num, hc, hg, HQ9⟩, ?_⟩
            simp [intOf]; omega
    · by_cases hal : a < l.length
      · have q3 : decide ((a : Int) < (l.length : Int)) = true := decide_eq_true (by omega)
        have q4 : decide ((a : Int) < 16) = false := decide_eq_false (by omega)
        have HS3 : Hid (∃ v p, Kp w wr b v p [] ∧ FitP p m 16 ∧ p.lost = g ∧ c = p.l.length + 0 + g) := Lib.hid ⟨v, p, HA.out, ⟨HF.out.most, HF.out.len, by have := HF.out.lost; omega⟩, HPC.out.2, by have := HPC.out; omega⟩
        have HGB : Hid (g ≤ 16 ∧ c ≤ 100) := Lib.hid ⟨hg, hc⟩
        clear HA HF HPC HLL HLO HMO
        go_wp2_with fail
        go_loopw [20, 21, 22, 23, 19] (fun i _ _ _ tkv wr => ∃ a tk : Nat, i = .int .i64 (a : Int) ∧ a ≤ l2.length ∧ a ≤ 4 ∧ tkv = .int .i64 (tk : Int) ∧ tk ≤ c ∧ Hid (∃ v p, Kp w wr b v p [] ∧ FitP p m 16 ∧ p.lost = g ∧ c = p.l.length + tk + g)) (fun i _ _ _ _ _ => l2.length - (intOf i).toNat)
        case atStart => exact ⟨0, 0, rfl, Nat.zero_le _, Nat.zero_le _, rfl, Nat.zero_le _, HS3⟩
        case round =>
          obtain ⟨a, tk, rfl, ha, ha4, rfl, htk, HS⟩ := hrel
          clear HS3
          obtain ⟨v, p, hK, hF, hgn, hcn⟩ := HS.out
          have HA := Lib.hid hK
          have HF := Lib.hid hF
          have HCN := Lib.hid (And.intro hgn hcn)
          clear hK hF hgn hcn HS
          have HLL := Lib.hid (show p.l.length ≤ 100000 by have := HF.out.len; omega)
          have goOn : (a < l2.length ∧ a < 4) ∨ ¬ (a < l2.length ∧ a < 4) := Classical.em _
          rcases goOn with ⟨hal, hat⟩ | hno
          · have q3 : decide ((a : Int) < (l2.length : Int)) = true := decide_eq_true (by omega)
            have q4 : decide ((a : Int) < 4) = true := decide_eq_true (by omega)
            have hx : l2[a]? = some l2[a] := List.getElem?_eq_getElem hal
            generalize l2[a] = x at hx
            have hxw := HWF2.out x (List.mem_of_getElem? hx)
            obtain ⟨bo, oo, rfl, hbo, hco⟩ := (HR2.out.below HA.out.below).at hx
            have hiy := index_any (P := Try.prog) knE (by decide) (b := bo) (off := oo) (cap := cap2) hal
            simp only [LE] at hiy hco
            obtain ⟨a0, a1, a2, a3, a4, a5, a6', a7, a8, a9, a10⟩ := range11 hco
            have HWT := Lib.hid (fun W => waits_any x W hxw)
            obtain ⟨y, hy⟩ : ∃ y, waitE x = y := ⟨_, rfl⟩
            rw [hy] at HWT
            clear hx hco hxw hy
            obtain ⟨xk, xr, xu, xz, xt, xp, xo, xs, xy, xc, xm⟩ := x
            obtain ⟨yk, yr, yu, yz, yt, yp, yo, ys, yy, yc, ym⟩ := y
            simp only [Edu.val] at *
            go_wp2_with fail
            go_at_call 10
            refine (HWT.out _).mono ?_
            rintro e w4 ⟨rfl, hb⟩
            have HA4 := Lib.hid (HA.out.later hb)
            have HN7 := heap_alloc_new w4 (.cells #[.int .i64 yk, .string yr, .string yu, .string yz, .string yt, .bool yp, .bool yo, .int .i64 ys, .int .i64 yy, .int .i64 yc, .int .i64 ym] 32)
            have HA5 := Lib.hid (HA4.out.add (below_new w4 (.cells #[.int .i64 yk, .string yr, .string yu, .string yz, .string yt, .bool yp, .bool yo, .int .i64 ys, .int .i64 yy, .int .i64 yc, .int .i64 ym] 32)) (t := Th.box w4.heap.size (.cells #[.int .i64 yk, .string yr, .string yu, .string yz, .string yt, .bool yp, .bool yo, .int .i64 ys, .int .i64 yy, .int .i64 yc, .int .i64 ym] 32 (0, 0))) HN7 (fun k hk => .inl (Nat.le_of_eq hk.symm)))
            clear hb HWT a0 a1 a2 a3 a4 a5 a6' a7 a8 a9 a10 hiy HA HA4
            go_upto_region 27 with (fail)
            generalize World.alloc _ _ = w5 at HN7 HA5 ⊢
            generalize w4.heap.size = g7 at HN7 HA5 ⊢
            obtain ⟨d0, d1, d2, d3, d4, d5, d6, d7, d8, d9, d10⟩ := cells11 HN7
            have HTK := Lib.hid (HA5.out.take_any yr yz HLL.out)
            have HLT : Hid ((p.take yr yz).l.length ≤ 100000) := Lib.hid (Nat.le_trans (p.take_len yr yz) HLL.out)
            go_wp2_with fail
            go_at_call 14
            refine HTK.out.mono ?_
            rintro e w6 ⟨u, rfl, v6, hk6⟩
            obtain ⟨Au, cu, rfl, hu1, hu2, -⟩ := id (hk6.is List.mem_cons_self : LE.Slice w6 u (p.took yr yz))
            unfold maxLen at hu2
            have HMEM := Lib.hid (fun (j : Nat) x (hx : (p.took yr yz)[j]? = some x) => (List.mem_filter.1 (List.mem_of_getElem? hx)).2)
            have HCT := Lib.hid (p.take_count yr yz)
            have HCN2 := Lib.hid (Pk.take_none p yr yz)
            have HF2 := Lib.hid (show FitP (p.take yr yz) m 16 from ⟨HF.out.most, Nat.le_trans (p.take_len yr yz) HF.out.len, HF.out.lost⟩)
            have HG2 := Lib.hid (show (p.take yr yz).lost = g from HCN.out.1)
            have HK6 := Lib.hid hk6
            clear hk6 HTK HA5 HN7 d0 d1 d2 d3 d4 d5 d6 d7 d8 d9 d10
            generalize p.took yr yz = tl at *
            generalize p.take yr yz = p2 at *
            obtain ⟨n, hn⟩ : ∃ n, tl.length = n := ⟨_, rfl⟩
            rw [hn] at HK6 hu1 HCT ⊢
            have HNL := Lib.hid hn
            clear hn
            go_wp2_with fail
            go_loopw [23] (fun i wr => ∃ k : Nat, i = .int .i64 (k : Int) ∧ k ≤ n ∧ Hid (Kp w wr b v6 p2 (Th.row LE (.slice Au n cu) tl :: Th.box g7 (.cells #[.int .i64 yk, .string yr, .string yu, .string yz, .string yt, .bool yp, .bool yo, .int .i64 ys, .int .i64 yy, .int .i64 yc, .int .i64 ym] 32 (0, 0)) :: []))) (fun i _ => n - (intOf i).toNat)
            case atStart => exact ⟨0, rfl, Nat.zero_le _, HK6⟩
            case round =>
              obtain ⟨k, rfl, hkn, HK⟩ := hrel
              clear HK6
              by_cases hkx : k < n
              · have q5 : decide ((k : Int) < (n : Int)) = true := decide_eq_true (by omega)
                have hx : tl[k]? = some (tl[k]'(by rw [HNL.out]; exact hkx)) := List.getElem?_eq_getElem _
                generalize tl[k]'(by rw [HNL.out]; exact hkx) = x at hx
                have hof := HMEM.out k x hx
                obtain ⟨bo, oo, rfl, hbo, hco⟩ := (HK.out.is List.mem_cons_self : LE.Slice wr (.slice Au n cu) tl).at hx
                have hiy := index_any (P := Try.prog) knE (by decide) (b := bo) (off := oo) (cap := cu) hkx
                simp only [LE] at hiy hco
                obtain ⟨a0, a1, a2, a3, a4, a5, a6', a7, a8, a9, a10⟩ := range11 hco
                obtain ⟨d0, d1, d2, d3, d4, d5, d6, d7, d8, d9, d10⟩ := cells11 (HK.out.is (t := Th.box g7 (.cells #[.int .i64 yk, .string yr, .string yu, .string yz, .string yt, .bool yp, .bool yo, .int .i64 ys, .int .i64 yy, .int .i64 yc, .int .i64 ym] 32 (0, 0))) (List.mem_cons_of_mem _ List.mem_cons_self) : wr.heap[g7]? = _)
                clear hx hco
                obtain ⟨yk2, yr2, yu2, yz2, yt2, yp2, yo2, ys2, yy2, yc2, ym2⟩ := x
                unfold isOf at hof
                rw [Bool.and_eq_true, beq_iff_eq, beq_iff_eq, toList_iff, toList_iff] at hof
                simp only at hof a0 a1 a2 a3 a4 a5 a6' a7 a8 a9 a10
                obtain ⟨rfl, rfl⟩ := hof
                go_wp2_with fail
                go_quiet (fail)
                clear d0 d1 d2 d3 d4 d5 d6 d7 d8 d9 d10 a0 a1 a2 a3 a4 a5 a6' a7 a8 a9 a10 hiy
                have HK2 := Lib.hid (HK.out.later (below_drewN (Below.refl _ _) nq))
                clear HK
                go_wp2_with fail
                refine ⟨⟨k + 1, by go_num, by omega, HK2⟩, ?_⟩
                simp [intOf]; omega
              · have q5 : decide ((k : Int) < (n : Int)) = false := decide_eq_false (by omega)
                have hbx := HK.out.is (t := Th.box g7 (.cells #[.int .i64 yk, .string yr, .string yu, .string yz, .string yt, .bool yp, .bool yo, .int .i64 ys, .int .i64 yy, .int .i64 yc, .int .i64 ym] 32 (0, 0))) (List.mem_cons_of_mem _ List.mem_cons_self)
                obtain ⟨d0, d1, d2, d3, d4, d5, d6, d7, d8, d9, d10⟩ := cells11 hbx
                have HTK := Lib.hid (HK.out.take_any yr yz HLT.out)
                have HCT2 := Lib.hid (p2.take_count yr yz)
                have HF3 := Lib.hid (show FitP (p2.take yr yz) m 16 from ⟨HF2.out.most, Nat.le_trans (p2.take_len yr yz) HF2.out.len, HF2.out.lost⟩)
                have HG3 := Lib.hid (show (p2.take yr yz).lost = g from HG2.out)
                rw [HCN2.out] at HTK HCT2
                clear hbx
                have hb1 : tk + n ≤ c := by have := HCN.out.2; have := HCT.out; omega
                have hb2 := HGB.out.2
                go_wp2_with fail
                go_at_call 14
                refine HTK.out.mono ?_
                rintro e w8 ⟨u2, rfl, v8, hk8⟩
                obtain ⟨A2, c2, rfl, -⟩ := id (hk8.is List.mem_cons_self : LE.Slice w8 u2 [])
                have HS8 : Hid (∃ v p, Kp w w8 b v p [] ∧ FitP p m 16 ∧ p.lost = g ∧ c = p.l.length + (tk + n) + g) := Lib.hid ⟨_, _, hk8.less (fun t ht => by cases ht), HF3.out, HG3.out, by
                  have h1 := HCN.out.2
                  have h2 := HCT.out
                  have h3 := HCT2.out
                  simp only [List.length_nil] at h3
                  omega⟩
                clear hk8 HTK HK d0 d1 d2 d3 d4 d5 d6 d7 d8 d9 d10
                go_wp2_with fail
                refine ⟨⟨a + 1, tk + n, by go_num, by omega, by omega, by go_num, by omega, HS8⟩, ?_⟩
                simp [intOf]; omega
          · by_cases hal : a < l2.length
            · have q3 : decide ((a : Int) < (l2.length : Int)) = true := decide_eq_true (by omega)
              have q4 : decide ((a : Int) < 4) = false := decide_eq_false (by omega)
              obtain ⟨n2, hn2⟩ : ∃ n, p.l.length = n := ⟨_, rfl⟩
              have HLE := Lib.hid (fun W (hk : Kp w W b v p []) => pkLen_any hk.pk)
              have HLS := Lib.hid (fun W (hk : Kp w W b v p []) => pkLost_any hk.pk)
              rw [hn2] at HLE
              rw [HCN.out.1] at HLS
              have hc2 : c = n2 + tk + g := by rw [← hn2]; exact HCN.out.2
              have hn6 : n2 ≤ m := by rw [← hn2]; exact HF.out.len
              have hma := HM6.out
              have q5 : ((c : Int) == (n2 : Int) + (tk : Int) + (g : Int)) = true := by rw [beq_iff_eq]; omega
              have q6 : decide ((n2 : Int) ≤ 1 + a6) = true := decide_eq_true (by omega)
              have hb2 := HGB.out
              have hb3 : n2 ≤ 6 := by omega
              have HC2 := Lib.hid hc2
              clear hn2 hc2 hn6 hma
              go_wp2_with fail
              go_at_call 18
              refine (HLE.out _ HA.out).mono ?_
              rintro e w3 ⟨rfl, hb⟩
              have HA3 := Lib.hid (HA.out.later hb)
              clear hb HA
              go_wp2_with fail
              go_at_call 19
              refine (HLS.out _ HA3.out).mono ?_
              rintro e w4 ⟨rfl, hb⟩
              have HA4 := Lib.hid (HA3.out.later hb)
              clear hb HA3
              go_wp2_with fail
              go_at_call 18
              refine (HLE.out _ HA4.out).mono ?_
              rintro e w5 ⟨rfl, hb⟩
              have HA5 := Lib.hid (HA4.out.later hb)
              clear hb HA4
              go_wp2_with fail
              go_at_call 20
              refine (HLV.out _).mono ?_
              rintro e w6 ⟨rfl, hb⟩
              have HBL := Lib.hid (HA5.out.later hb).below
              clear hb HA5
              go_wp2_with fail
              go_ret
              exact ⟨rfl, HBL.out⟩
            · have q3 : decide ((a : Int) < (l2.length : Int)) = false := decide_eq_false (by omega)
              obtain ⟨n2, hn2⟩ : ∃ n, p.l.length = n := ⟨_, rfl⟩
              have HLE := Lib.hid (fun W (hk : Kp w W b v p []) => pkLen_any hk.pk)
              have HLS := Lib.hid (fun W (hk : Kp w W b v p []) => pkLost_any hk.pk)
              rw [hn2] at HLE
              rw [HCN.out.1] at HLS
              have hc2 : c = n2 + tk + g := by rw [← hn2]; exact HCN.out.2
              have hn6 : n2 ≤ m := by rw [← hn2]; exact HF.out.len
              have hma := HM6.out
              have q5 : ((c : Int) == (n2 : Int) + (tk : Int) + (g : Int)) = true := by rw [beq_iff_eq]; omega
              have q6 : decide ((n2 : Int) ≤ 1 + a6) = true := decide_eq_true (by omega)
              have hb2 := HGB.out
              have hb3 : n2 ≤ 6 := by omega
              have HC2 := Lib.hid hc2
              clear hn2 hc2 hn6 hma
              go_wp2_with fail
              go_at_call 18
              refine (HLE.out _ HA.out).mono ?_
              rintro e w3 ⟨rfl, hb⟩
              have HA3 := Lib.hid (HA.out.later hb)
              clear hb HA
              go_wp2_with fail
              go_at_call 19
              refine (HLS.out _ HA3.out).mono ?_
              rintro e w4 ⟨rfl, hb⟩
              have HA4 := Lib.hid (HA3.out.later hb)
              clear hb HA3
              go_wp2_with fail
              go_at_call 18
              refine (HLE.out _ HA4.out).mono ?_
              rintro e w5 ⟨rfl, hb⟩
              have HA5 := Lib.hid (HA4.out.later hb)
              clear hb HA4
              go_wp2_with fail
              go_at_call 20
              refine (HLV.out _).mono ?_
              rintro e w6 ⟨rfl, hb⟩
              have HBL := Lib.hid (HA5.out.later hb).below
              clear hb HA5
              go_wp2_with fail
              go_ret
              exact ⟨rfl, HBL.out⟩
      · have q3 : decide ((a : Int) < (l.length : Int)) = false := decide_eq_false (by omega)
        have HS3 : Hid (∃ v p, Kp w wr b v p [] ∧ FitP p m 16 ∧ p.lost = g ∧ c = p.l.length + 0 + g) := Lib.hid ⟨v, p, HA.out, ⟨HF.out.most, HF.out.len, by have := HF.out.lost; omega⟩, HPC.out.2, by have := HPC.out; omega⟩
        have HGB : Hid (g ≤ 16 ∧ c ≤ 100) := Lib.hid ⟨hg, hc⟩
        clear HA HF HPC HLL HLO HMO
        go_wp2_with fail
        go_loopw [20, 21, 22, 23, 19] (fun i _ _ _ tkv wr => ∃ a tk : Nat, i = .int .i64 (a : Int) ∧ a ≤ l2.length ∧ a ≤ 4 ∧ tkv = .int .i64 (tk : Int) ∧ tk ≤ c ∧ Hid (∃ v p, Kp w wr b v p [] ∧ FitP p m 16 ∧ p.lost = g ∧ c = p.l.length + tk + g)) (fun i _ _ _ _ _ => l2.length - (intOf i).toNat)
        case atStart => exact ⟨0, 0, rfl, Nat.zero_le _, Nat.zero_le _, rfl, Nat.zero_le _, HS3⟩
        case round =>
          obtain ⟨a, tk, rfl, ha, ha4, rfl, htk, HS⟩ := hrel
          clear HS3
          obtain ⟨v, p, hK, hF, hgn, hcn⟩ := HS.out
          have HA := Lib.hid hK
          have HF := Lib.hid hF
          have HCN := Lib.hid (And.intro hgn hcn)
          clear hK hF hgn hcn HS
          have HLL := Lib.hid (show p.l.length ≤ 100000 by have := HF.out.len; omega)
          have goOn : (a < l2.length ∧ a < 4) ∨ ¬ (a < l2.length ∧ a < 4) := Classical.em _
          rcases goOn with ⟨hal, hat⟩ | hno
          · have q3 : decide ((a : Int) < (l2.length : Int)) = true := decide_eq_true (by omega)
            have q4 : decide ((a : Int) < 4) = true := decide_eq_true (by omega)
            have hx : l2[a]? = some l2[a] := List.getElem?_eq_getElem hal
            generalize l2[a] = x at hx
            have hxw := HWF2.out x (List.mem_of_getElem? hx)
            obtain ⟨bo, oo, rfl, hbo, hco⟩ := (HR2.out.below HA.out.below).at hx
            have hiy := index_any (P := Try.prog) knE (by decide) (b := bo) (off := oo) (cap := cap2) hal
            simp only [LE] at hiy hco
            obtain ⟨a0, a1, a2, a3, a4, a5, a6', a7, a8, a9, a10⟩ := range11 hco
            have HWT := Lib.hid (fun W => waits_any x W hxw)
            obtain ⟨y, hy⟩ : ∃ y, waitE x = y := ⟨_, rfl⟩
            rw [hy] at HWT
            clear hx hco hxw hy
            obtain ⟨xk, xr, xu, xz, xt, xp, xo, xs, xy, xc, xm⟩ := x
            obtain ⟨yk, yr, yu, yz, yt, yp, yo, ys, yy, yc, ym⟩ := y
            simp only [Edu.val] at *
            go_wp2_with fail
            go_at_call 10
            refine (HWT.out _).mono ?_
            rintro e w4 ⟨rfl, hb⟩
            have HA4 := Lib.hid (HA.out.later hb)
            have HN7 := heap_alloc_new w4 (.cells #[.int .i64 yk, .string yr, .string yu, .string yz, .string yt, .bool yp, .bool yo, .int .i64 ys, .int .i64 yy, .int .i64 yc, .int .i64 ym] 32)
            have HA5 := Lib.hid (HA4.out.add (below_new w4 (.cells #[.int .i64 yk, .string yr, .string yu, .string yz, .string yt, .bool yp, .bool yo, .int .i64 ys, .int .i64 yy, .int .i64 yc, .int .i64 ym] 32)) (t := Th.box w4.heap.size (.cells #[.int .i64 yk, .string yr, .string yu, .string yz, .string yt, .bool yp, .bool yo, .int .i64 ys, .int .i64 yy, .int .i64 yc, .int .i64 ym] 32 (0, 0))) HN7 (fun k hk => .inl (Nat.le_of_eq hk.symm)))
            clear hb HWT a0 a1 a2 a3 a4 a5 a6' a7 a8 a9 a10 hiy HA HA4
            go_upto_region 27 with (fail)
            generalize World.alloc _ _ = w5 at HN7 HA5 ⊢
            generalize w4.heap.size = g7 at HN7 HA5 ⊢
            obtain ⟨d0, d1, d2, d3, d4, d5, d6, d7, d8, d9, d10⟩ := cells11 HN7
            have HTK := Lib.hid (HA5.out.take_any yr yz HLL.out)
            have HLT : Hid ((p.take yr yz).l.length ≤ 100000) := Lib.hid (Nat.le_trans (p.take_len yr yz) HLL.out)
            go_wp2_with fail
            go_at_call 14
            refine HTK.out.mono ?_
            rintro e w6 ⟨u, rfl, v6, hk6⟩
            obtain ⟨Au, cu, rfl, hu1, hu2, -⟩ := id (hk6.is List.mem_cons_self : LE.Slice w6 u (p.took yr yz))
            unfold maxLen at hu2
            have HMEM := Lib.hid (fun (j : Nat) x (hx : (p.took yr yz)[j]? = some x) => (List.mem_filter.1 (List.mem_of_getElem? hx)).2)
            have HCT := Lib.hid (p.take_count yr yz)
            have HCN2 := Lib.hid (Pk.take_none p yr yz)
            have HF2 := Lib.hid (show FitP (p.take yr yz) m 16 from ⟨HF.out.most, Nat.le_trans (p.take_len yr yz) HF.out.len, HF.out.lost⟩)
            have HG2 := Lib.hid (show (p.take yr yz).lost = g from HCN.out.1)
            have HK6 := Lib.hid hk6
            clear hk6 HTK HA5 HN7 d0 d1 d2 d3 d4 d5 d6 d7 d8 d9 d10
            generalize p.took yr yz = tl at *
            generalize p.take yr yz = p2 at *
            obtain ⟨n, hn⟩ : ∃ n, tl.length = n := ⟨_, rfl⟩
            rw [hn] at HK6 hu1 HCT ⊢
            have HNL := Lib.hid hn
            clear hn
            go_wp2_with fail
            go_loopw [23] (fun i wr => ∃ k : Nat, i = .int .i64 (k : Int) ∧ k ≤ n ∧ Hid (Kp w wr b v6 p2 (Th.row LE (.slice Au n cu) tl :: Th.box g7 (.cells #[.int .i64 yk, .string yr, .string yu, .string yz, .string yt, .bool yp, .bool yo, .int .i64 ys, .int .i64 yy, .int .i64 yc, .int .i64 ym] 32 (0, 0)) :: []))) (fun i _ => n - (intOf i).toNat)
            case atStart => exact ⟨0, rfl, Nat.zero_le _, HK6⟩
            case round =>
              obtain ⟨k, rfl, hkn, HK⟩ := hrel
              clear HK6
              by_cases hkx : k < n
              · have q5 : decide ((k : Int) < (n : Int)) = true := decide_eq_true (by omega)
                have hx : tl[k]? = some (tl[k]'(by rw [HNL.out]; exact hkx)) := List.getElem?_eq_getElem _
                generalize tl[k]'(by rw [HNL.out]; exact hkx) = x at hx
                have hof := HMEM.out k x hx
                obtain ⟨bo, oo, rfl, hbo, hco⟩ := (HK.out.is List.mem_cons_self : LE.Slice wr (.slice Au n cu) tl).at hx
                have hiy := index_any (P := Try.prog) knE (by decide) (b := bo) (off := oo) (cap := cu) hkx
                simp only [LE] at hiy hco
                obtain ⟨a0, a1, a2, a3, a4, a5, a6', a7, a8, a9, a10⟩ := range11 hco
                obtain ⟨d0, d1, d2, d3, d4, d5, d6, d7, d8, d9, d10⟩ := cells11 (HK.out.is (t := Th.box g7 (.cells #[.int .i64 yk, .string yr, .string yu, .string yz, .string yt, .bool yp, .bool yo, .int .i64 ys, .int .i64 yy, .int .i64 yc, .int .i64 ym] 32 (0, 0))) (List.mem_cons_of_mem _ List.mem_cons_self) : wr.heap[g7]? = _)
                clear hx hco
                obtain ⟨yk2, yr2, yu2, yz2, yt2, yp2, yo2, ys2, yy2, yc2, ym2⟩ := x
                unfold isOf at hof
                rw [Bool.and_eq_true, beq_iff_eq, beq_iff_eq, toList_iff, toList_iff] at hof
                simp only at hof a0 a1 a2 a3 a4 a5 a6' a7 a8 a9 a10
                obtain ⟨rfl, rfl⟩ := hof
                go_wp2_with fail
                go_quiet (fail)
                clear d0 d1 d2 d3 d4 d5 d6 d7 d8 d9 d10 a0 a1 a2 a3 a4 a5 a6' a7 a8 a9 a10 hiy
                have HK2 := Lib.hid (HK.out.later (below_drewN (Below.refl _ _) nq))
                clear HK
                go_wp2_with fail
                refine ⟨⟨k + 1, by go_num, by omega, HK2⟩, ?_⟩
                simp [intOf]; omega
              · have q5 : decide ((k : Int) < (n : Int)) = false := decide_eq_false (by omega)
                have hbx := HK.out.is (t := Th.box g7 (.cells #[.int .i64 yk, .string yr, .string yu, .string yz, .string yt, .bool yp, .bool yo, .int .i64 ys, .int .i64 yy, .int .i64 yc, .int .i64 ym] 32 (0, 0))) (List.mem_cons_of_mem _ List.mem_cons_self)
                obtain ⟨d0, d1, d2, d3, d4, d5, d6, d7, d8, d9, d10⟩ := cells11 hbx
                have HTK := Lib.hid (HK.out.take_any yr yz HLT.out)
                have HCT2 := Lib.hid (p2.take_count yr yz)
                have HF3 := Lib.hid (show FitP (p2.take yr yz) m 16 from ⟨HF2.out.most, Nat.le_trans (p2.take_len yr yz) HF2.out.len, HF2.out.lost⟩)
                have HG3 := Lib.hid (show (p2.take yr yz).lost = g from HG2.out)
                rw [HCN2.out] at HTK HCT2
                clear hbx
                have hb1 : tk + n ≤ c := by have := HCN.out.2; have := HCT.out; omega
                have hb2 := HGB.out.2
                go_wp2_with fail
                go_at_call 14
                refine HTK.out.mono ?_
                rintro e w8 ⟨u2, rfl, v8, hk8⟩
                obtain ⟨A2, c2, rfl, -⟩ := id (hk8.is List.mem_cons_self : LE.Slice w8 u2 [])
                have HS8 : Hid (∃ v p, Kp w w8 b v p [] ∧ FitP p m 16 ∧ p.lost = g ∧ c = p.l.length + (tk + n) + g) := Lib.hid ⟨_, _, hk8.less (fun t ht => by cases ht), HF3.out, HG3.out, by
                  have h1 := HCN.out.2
                  have h2 := HCT.out
                  have h3 := HCT2.out
                  simp only [List.length_nil] at h3
                  omega⟩
                clear hk8 HTK HK d0 d1 d2 d3 d4 d5 d6 d7 d8 d9 d10
                go_wp2_with fail
                refine ⟨⟨a + 1, tk + n, by go_num, by omega, by omega, by go_num, by omega, HS8⟩, ?_⟩
                simp [intOf]; omega
          · by_cases hal : a < l2.length
            · have q3 : decide ((a : Int) < (l2.length : Int)) = true := decide_eq_true (by omega)
              have q4 : decide ((a : Int) < 4) = false := decide_eq_false (by omega)
              obtain ⟨n2, hn2⟩ : ∃ n, p.l.length = n := ⟨_, rfl⟩
              have HLE := Lib.hid (fun W (hk : Kp w W b v p []) => pkLen_any hk.pk)
              have HLS := Lib.hid (fun W (hk : Kp w W b v p []) => pkLost_any hk.pk)
              rw [hn2] at HLE
              rw [HCN.out.1] at HLS
              have hc2 : c = n2 + tk + g := by rw [← hn2]; exact HCN.out.2
              have hn6 : n2 ≤ m := by rw [← hn2]; exact HF.out.len
              have hma := HM6.out
              have q5 : ((c : Int) == (n2 : Int) + (tk : Int) + (g : Int)) = true := by rw [beq_iff_eq]; omega
              have q6 : decide ((n2 : Int) ≤ 1 + a6) = true := decide_eq_true (by omega)
              have hb2 := HGB.out
              have hb3 : n2 ≤ 6 := by omega
              have HC2 := Lib.hid hc2
              clear hn2 hc2 hn6 hma
              go_wp2_with fail
              go_at_call 18
              refine (HLE.out _ HA.out).mono ?_
              rintro e w3 ⟨rfl, hb⟩
              have HA3 := Lib.hid (HA.out.later hb)
              clear hb HA
              go_wp2_with fail
              go_at_call 19
              refine (HLS.out _ HA3.out).mono ?_
              rintro e w4 ⟨rfl, hb⟩
              have HA4 := Lib.hid (HA3.out.later hb)
              clear hb HA3
              go_wp2_with fail
              go_at_call 18
              refine (HLE.out _ HA4.out).mono ?_
              rintro e w5 ⟨rfl, hb⟩
              have HA5 := Lib.hid (HA4.out.later hb)
              clear hb HA4
              go_wp2_with fail
              go_at_call 20
              refine (HLV.out _).mono ?_
              rintro e w6 ⟨rfl, hb⟩
              have HBL := Lib.hid (HA5.out.later hb).below
              clear hb HA5
              go_wp2_with fail
              go_ret
              exact ⟨rfl, HBL.out⟩
            · have q3 : decide ((a : Int) < (l2.length : Int)) = false := decide_eq_false (by omega)
              obtain ⟨n2, hn2⟩ : ∃ n, p.l.length = n := ⟨_, rfl⟩
              have HLE := Lib.hid (fun W (hk : Kp w W b v p []) => pkLen_any hk.pk)
              have HLS := Lib.hid (fun W (hk : Kp w W b v p []) => pkLost_any hk.pk)
              rw [hn2] at HLE
              rw [HCN.out.1] at HLS
              have hc2 : c = n2 + tk + g := by rw [← hn2]; exact HCN.out.2
              have hn6 : n2 ≤ m := by rw [← hn2]; exact HF.out.len
              have hma := HM6.out
              have q5 : ((c : Int) == (n2 : Int) + (tk : Int) + (g : Int)) = true := by rw [beq_iff_eq]; omega
              have q6 : decide ((n2 : Int) ≤ 1 + a6) = true := decide_eq_true (by omega)
              have hb2 := HGB.out
              have hb3 : n2 ≤ 6 := by omega
              have HC2 := Lib.hid hc2
              clear hn2 hc2 hn6 hma
              go_wp2_with fail
              go_at_call 18
              refine (HLE.out _ HA.out).mono ?_
              rintro e w3 ⟨rfl, hb⟩
              have HA3 := Lib.hid (HA.out.later hb)
              clear hb HA
              go_wp2_with fail
              go_at_call 19
              refine (HLS.out _ HA3.out).mono ?_
              rintro e w4 ⟨rfl, hb⟩
              have HA4 := Lib.hid (HA3.out.later hb)
              clear hb HA3
              go_wp2_with fail
              go_at_call 18
              refine (HLE.out _ HA4.out).mono ?_
              rintro e w5 ⟨rfl, hb⟩
              have HA5 := Lib.hid (HA4.out.later hb)
              clear hb HA4
              go_wp2_with fail
              go_at_call 20
              refine (HLV.out _).mono ?_
              rintro e w6 ⟨rfl, hb⟩
              have HBL := Lib.hid (HA5.out.later hb).below
              clear hb HA5
              go_wp2_with fail
              go_ret
              exact ⟨rfl, HBL.out⟩
end Go.Proofs.Ytimlomflgnnmnaa
