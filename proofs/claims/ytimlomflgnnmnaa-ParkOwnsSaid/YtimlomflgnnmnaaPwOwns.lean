/-
  What is told may be changed: ParkOwns, walked.
-/
import Derived.Test.YtimlomflgnnmnaaPwBo
namespace Go.Proofs.Ytimlomflgnnmnaa
set_option maxRecDepth 20000
open Go.RowKit
set_option linter.unusedVariables false
set_option linter.unusedSimpArgs false

set_option maxHeartbeats 6400000 in
theorem parkOwns_walk (vv : Value) (l : List Edu) (w : World) (hE : EsS w vv l) :
    Calls Try.prog 7 #[vv] w fun e w' => e = .returned (.bool true) ∧ Below w.heap.size w w' := by
  have HNY : Hid (∀ W : World, Calls Try.prog 9 #[.int .i64 6] W fun e w' => ∃ b, e = .returned (.tuple #[.pointer (some ⟨b, 0, none⟩), .int .i64 0]) ∧ Kp W w' b (.slice none 0 0) ⟨6, [], 0⟩ []) := Lib.hid (fun W => pkNew_yes 6 W (by decide) (by decide))
  have HLV := Lib.hid (fun W => lives_any W)
  have HWF := Lib.hid hE.2
  obtain ⟨A, cap, rfl, q1, q2, -⟩ := id hE.1
  unfold maxLen at q2
  have HR := Lib.hid hE.1
  clear hE
  go_enter Try.func7, Try.ntmps7
  go_wp2_with fail
  go_at_call 9
  refine (HNY.out _).mono ?_
  rintro e w2 ⟨b, rfl, hk⟩
  have HB0 := Lib.hid (Bo.start hk)
  clear hk HNY
  go_upto_region 5 with (fail)
  have HSZ := Lib.hid (size_alloc1 w2 (.cells #[.int .i64 6, .slice none 0 0, .int .i64 0] 30))
  simp only [Int.cast_ofNat_Int] at HB0
  generalize World.alloc _ _ = w3 at HB0 HSZ ⊢
  generalize w2.heap.size = g at HB0 HSZ ⊢
  have HB1 : Hid (∃ v vd p, Bo w w3 b v p g vd p [] ∧ FitP p 6 0) := Lib.hid ⟨_, _, _, HB0.out, FitP.start 6⟩
  clear HB0 HSZ
  go_wp2_with fail
  go_loopw [6, 7, 8, 9, 10] (fun i _ _ _ _ wr => ∃ a : Nat, i = .int .i64 (a : Int) ∧ a ≤ l.length ∧ a ≤ 6 ∧ Hid (∃ v vd p, Bo w wr b v p g vd p [] ∧ FitP p 6 a)) (fun i _ _ _ _ _ => l.length - (intOf i).toNat)
  case atStart => exact ⟨0, rfl, Nat.zero_le _, Nat.zero_le _, HB1⟩
  case round =>
    obtain ⟨a, rfl, ha, ha8, HS⟩ := hrel
    clear HB1
    obtain ⟨v, vd, p, hB, hF⟩ := HS.out
    have HA := Lib.hid hB
    have HF := Lib.hid hF
    clear hB hF HS
    have HLL := Lib.hid (show p.l.length ≤ 100000 by have := HF.out.len; omega)
    have HLO := Lib.hid (show p.lost ≤ 100000 by have := HF.out.lost; omega)
    have HMO := Lib.hid (show p.most ≤ 100000 by have := HF.out.most; omega)
    have goOn : (a < l.length ∧ a < 6) ∨ ¬ (a < l.length ∧ a < 6) := Classical.em _
    rcases goOn with ⟨hal, hat⟩ | hno
    · have q3 : decide ((a : Int) < (l.length : Int)) = true := decide_eq_true (by omega)
      have q4 : decide ((a : Int) < 6) = true := decide_eq_true (by omega)
      have hx : l[a]? = some l[a] := List.getElem?_eq_getElem hal
      generalize l[a] = x at hx
      have hxw := HWF.out x (List.mem_of_getElem? hx)
      obtain ⟨bo, oo, rfl, hbo, hco⟩ := (HR.out.below HA.out.kp.below).at hx
      have hiy := index_any (P := Try.prog) knE (by decide) (b := bo) (off := oo) (cap := cap) hal
      simp only [LE] at hiy hco
      obtain ⟨a0, a1, a2, a3, a4, a5, a6', a7, a8, a9, a10⟩ := range11 hco
      have HWT := Lib.hid (fun W => waits_any x W hxw)
      have hbr := wait_brief x
      obtain ⟨y, hy⟩ : ∃ y, waitE x = y := ⟨_, rfl⟩
      rw [hy] at HWT hbr
      have HPC := Lib.hid (fun (W : World) v ts (hk : Kp w W b v p ts) => hk.put_any y hbr HLL.out HLO.out HMO.out)
      have HPD := Lib.hid (fun (W : World) vd (hr : LE.Slice W vd p.l) => docPut_any hr y HLL.out HLO.out HMO.out)
      have HFN := Lib.hid (HF.out.put y)
      clear hx hco hxw hbr hy
      obtain ⟨xk, xr, xu, xz, xt, xp, xo, xs, xy, xc, xm⟩ := x
      generalize Pk.put p y = p2 at HPC HPD HFN
      generalize Pk.gone p y = ge at HPC HPD
      generalize Pk.goes p y = gb at HPC HPD
      obtain ⟨yk, yr, yu, yz, yt, yp, yo, ys, yy, yc, ym⟩ := y
      simp only [Edu.val] at *
      go_wp2_with fail
      go_at_call 10
      refine (HWT.out _).mono ?_
      rintro e w4 ⟨rfl, hb⟩
      have HA4 := Lib.hid (HA.out.later hb)
      have HN7 := heap_alloc_new w4 (.cells #[.int .i64 yk, .string yr, .string yu, .string yz, .string yt, .bool yp, .bool yo, .int .i64 ys, .int .i64 yy, .int .i64 yc, .int .i64 ym] 32)
      have HA5 := Lib.hid (HA4.out.add (below_new w4 (.cells #[.int .i64 yk, .string yr, .string yu, .string yz, .string yt, .bool yp, .bool yo, .int .i64 ys, .int .i64 yy, .int .i64 yc, .int .i64 ym] 32)) (t := Th.box w4.heap.size (.cells #[.int .i64 yk, .string yr, .string yu, .string yz, .string yt, .bool yp, .bool yo, .int .i64 ys, .int .i64 yy, .int .i64 yc, .int .i64 ym] 32 (0, 0))) HN7 (fun k hk => Nat.le_of_eq hk.symm))
      clear hb HWT a0 a1 a2 a3 a4 a5 a6' a7 a8 a9 a10 hiy HA HA4
      go_upto_region 9 with (fail)
      generalize World.alloc _ _ = w5 at HN7 HA5 ⊢
      generalize w4.heap.size = g7 at HN7 HA5 ⊢
      obtain ⟨d0, d1, d2, d3, d4, d5, d6, d7, d8, d9, d10⟩ := cells11 HN7
      obtain ⟨c0, c1, c2⟩ := cells3 HA5.out.at
      have HPD5 := Lib.hid (HPD.out _ _ HA5.out.row)
      go_wp2_with fail
      go_at_call 15
      refine HPD5.out.mono ?_
      rintro e w6 ⟨vn, rfl, hd, hb⟩
      have HA6 := Lib.hid (HA5.out.doc hd hb)
      clear hd hb HPD HPD5 HA5 HN7 d0 d1 d2 d3 d4 d5 d6 d7 d8 d9 d10 c0 c1 c2
      obtain ⟨An, cn, rfl, -⟩ := id HA6.out.row
      obtain ⟨nn, hnn⟩ : ∃ n, p2.l.length = n := ⟨_, rfl⟩
      rw [hnn] at HA6 ⊢
      clear hnn
      obtain ⟨zk, zr, zu, zz, zt, zp, zo, zs, zy, zc, zm⟩ := ge
      simp only [Edu.val] at *
      obtain ⟨h8, h9, hb, hsz⟩ := at_two (.cells #[.int .i64 (p2.most : Int), .slice An nn cn, .int .i64 (p2.lost : Int)] 30) (.cells #[.int .i64 zk, .string zr, .string zu, .string zz, .string zt, .bool zp, .bool zo, .int .i64 zs, .int .i64 zy, .int .i64 zc, .int .i64 zm] 32) (rfl : (w6.alloc (.cells #[.int .i64 (p2.most : Int), .slice An nn cn, .int .i64 (p2.lost : Int)] 30)).alloc (.cells #[.int .i64 zk, .string zr, .string zu, .string zz, .string zt, .bool zp, .bool zo, .int .i64 zs, .int .i64 zy, .int .i64 zc, .int .i64 zm] 32) = _)
      have HA7 := Lib.hid (HA6.out.later hb)
      clear hb hsz h9 HA6
      go_upto_region 10 with (fail)
      generalize World.alloc _ _ = w7 at HA7 h8 ⊢
      generalize w6.heap.size = g8 at h8 ⊢
      obtain ⟨c0, c1, c2⟩ := cells3 h8
      have hat' := Lib.hid HA7.out.at
      have HA8 := Lib.hid HA7.out.store
      go_upto_region 11 with (refine wpList_store_row rfl 30 (.tmp 5) (.tmp 46) rfl g #[.int .i64 (p2.most : Int), .slice An nn cn, .int .i64 (p2.lost : Int)] rfl rfl 30 _ hat'.out p_info rfl (one3 _ _ _ _ _) ?_)
      generalize World.setRow _ _ _ = w8 at HA8 ⊢
      clear c0 c1 c2 h8 hat' HA7
      obtain ⟨d0, d1, d2, d3, d4, d5, d6, d7, d8, d9, d10⟩ := cells11 (HA8.out.kp.is (t := Th.box g7 (.cells #[.int .i64 yk, .string yr, .string yu, .string yz, .string yt, .bool yp, .bool yo, .int .i64 ys, .int .i64 yy, .int .i64 yc, .int .i64 ym] 32 (0, 0))) (List.mem_cons_of_mem _ (List.mem_cons_of_mem _ List.mem_cons_self)) : w8.heap[g7]? = _)
      go_wp2_with fail
      go_at_call 16
      refine (HPC.out _ _ _ HA8.out.kp).mono ?_
      rintro e w9 ⟨rfl, v9, hk9⟩
      have HA9 : Hid (∃ v vd p, Bo w w9 b v p g vd p [] ∧ FitP p 6 (a + 1)) := Lib.hid ⟨_, _, _, (HA8.out.code hk9).less (fun t ht => by cases ht), HFN.out⟩
      clear hk9 HA8 d0 d1 d2 d3 d4 d5 d6 d7 d8 d9 d10 HPC
      go_wp2_with fail
      refine ⟨⟨a + 1, by go_num, by omega, by omega, HA9⟩, ?_⟩
      simp [intOf]; omega
    · by_cases hal : a < l.length
      · have q3 : decide ((a : Int) < (l.length : Int)) = true := decide_eq_true (by omega)
        have q4 : decide ((a : Int) < 6) = false := decide_eq_false (by omega)
        go_wp2_with fail
        go_at_call 17
        refine (HA.out.kp.all_any HLL.out).mono ?_
        rintro e w5 ⟨u, rfl, hm5, hk5⟩
        obtain ⟨Au, cu, rfl, hu1, hu2, -⟩ := hm5.shape
        unfold maxLen at hu2
        have HW5 : Hid (Kp w w5 b v p (Th.room (.slice Au p.l.length cu) p.l.length :: Th.box g (p.box vd) :: Th.row LE vd p.l :: [])) := Lib.hid ((hk5.less (fun t ht => List.mem_cons_of_mem _ ht)).with hm5.room (fun k hk ho => by
          have h1 := (hm5.lt k hk.2).1
          have h2 := (HA.out.kp.pk.old ho).2
          omega))
        have HNE : Hid (∀ k, (Value.slice Au p.l.length cu).ownBlock = some k → w.heap.size ≤ k ∧ ∀ t ∈ [Th.box g (p.box vd), Th.row LE vd p.l], ¬ t.P k) := Lib.hid (fun k hk => by
          have h1 := (hm5.lt k hk).1
          refine ⟨Nat.le_trans HA.out.kp.below.size h1, fun t ht hp => ?_⟩
          have h2 := t.lt wr k (HA.out.kp.is ht) hp
          omega)
        have HLO' := Lib.hid HA.out.lo
        obtain ⟨Ad, cd, rfl, hd1, hd2, -⟩ := id HA.out.row
        clear hm5 hk5 HA HF
        obtain ⟨n, hn⟩ : ∃ n, p.l.length = n := ⟨_, rfl⟩
        rw [hn] at HW5 HNE hd1 hu1 ⊢
        have HNN := Lib.hid hn
        clear hn
        go_wp2_with fail
        go_loopw [12] (fun i wr => ∃ k : Nat, i = .int .i64 (k : Int) ∧ k ≤ n ∧ Hid (Kp w wr b v p (Th.room (.slice Au n cu) n :: Th.box g (p.box (.slice Ad n cd)) :: Th.row LE (.slice Ad n cd) p.l :: []))) (fun i _ => n - (intOf i).toNat)
        case atStart => exact ⟨0, rfl, Nat.zero_le _, HW5⟩
        case round =>
          obtain ⟨k, rfl, hkn, HK⟩ := hrel
          clear HW5
          by_cases hkx : k < n
          · have q5 : decide ((k : Int) < (n : Int)) = true := decide_eq_true (by omega)
            obtain ⟨gu, ou, cur, rfl, hh, hz⟩ : ∃ gu ou cur, Au = some ⟨gu, ou, none⟩ ∧ wr.heap[gu]? = some (.cells cur 32 (0, 0)) ∧ ou + n * 11 ≤ cur.size := by
              have hI : (Th.room (.slice Au n cu) n).I wr := HK.out.is List.mem_cons_self
              rcases hI with h0 | ⟨g', off', c', cur, e, hh, hz⟩
              · omega
              · injection e with e1 e2 e3
                exact ⟨g', off', cur, e1, hh, hz⟩
            have hiy := index_any (P := Try.prog) knE (by decide) (b := gu) (off := ou) (cap := cu) hkx
            simp only [LE] at hiy
            have hlt : ou + k * 11 + 1 < cur.size := by omega
            obtain ⟨x0, hx0⟩ : ∃ x0, cur[ou + k * 11 + 1]? = some x0 := ⟨_, Array.getElem?_eq_getElem hlt⟩
            have z0 := (cell_at hh (ou + k * 11 + 1)).trans hx0
            have z1 := free_at hh (ou + k * 11 + 1)
            have hne := HNE.out gu rfl
            have HK2 : Hid (Kp w (wr.setCell ⟨gu, ou + k * 11 + 1, none⟩ (.string ⟨#[33, 120, 58, 121]⟩)) b v p (Th.room (.slice (some ⟨gu, ou, none⟩) n cu) n :: Th.box g (p.box (.slice Ad n cd)) :: Th.row LE (.slice Ad n cd) p.l :: [])) := Lib.hid (HK.out.put (t' := Th.room (.slice (some ⟨gu, ou, none⟩) n cu) n) (sm_grown wr gu (ou + k * 11 + 1) [.string ⟨#[33, 120, 58, 121]⟩]) (fun k' hk' => by
              injection hk' with hk'
              subst hk'
              exact ⟨⟨by omega, rfl⟩, hne⟩) (.inr ⟨gu, ou, cu, _, rfl, heap_set hh _ _, by rw [Array.size_setIfInBounds]; exact hz⟩) (fun k' hk' => .inl hk'))
            clear hh hx0 hne hlt hz
            go_wp2_with fail
            refine ⟨⟨k + 1, by go_num, by omega, HK2⟩, ?_⟩
            simp [intOf]; omega
          · have q5 : decide ((k : Int) < (n : Int)) = false := decide_eq_false (by omega)
            have HK1 := Lib.hid (HK.out.later (below_drew _))
            clear HK
            go_upto_region 17 with (fail)
            refine wp_region_held_drew (S := fun W => Kp w W b v p (Th.room (.slice Au n cu) n :: Th.box g (p.box (.slice Ad n cd)) :: Th.row LE (.slice Ad n cd) p.l :: [])) (by kernel_rfl) HK1.out (fun hHeld => ?_)
            clear HK1
            generalize World.drew _ = wd at hHeld ⊢
            refine wpAnyH_take (i := 0) (oi := ⟨some 62, _, _, _, _, _⟩) (v := ?vra0) rfl (by kernel_rfl) (by kernel_rfl) (by kernel_rfl) (fun _ _ _ h => h) (Or.inl ⟨by rfl, ?yra0⟩) hHeld ?rra0
            case yra0 =>
              intro wx hSx
              go_simp
              try with_reducible rfl
            try simp only [Act.put, List.setIfInBounds_toArray, List.set_cons_zero, List.set_cons_succ]
            refine wpAnyH_take (i := 2) (oi := ⟨some 64, _, _, _, _, _⟩) (v := ?vra2) rfl (by kernel_rfl) (by kernel_rfl) (by kernel_rfl) (fun _ _ _ h => h) (Or.inl ⟨by rfl, ?yra2⟩) hHeld ?rra2
            case yra2 =>
              intro wx hSx
              go_simp
              try with_reducible rfl
            try simp only [Act.put, List.setIfInBounds_toArray, List.set_cons_zero, List.set_cons_succ]
            refine wpAnyH_take (i := 3) (oi := ⟨some 65, _, _, _, _, _⟩) (v := ?vra3) rfl (by kernel_rfl) (by kernel_rfl) (by kernel_rfl) (fun _ _ _ h => h) (Or.inl ⟨by rfl, ?yra3⟩) hHeld ?rra3
            case yra3 =>
              intro wx hSx
              obtain ⟨c0, c1, c2⟩ := cells3 (hSx.is (t := Th.box g (p.box (.slice Ad n cd))) (List.mem_cons_of_mem _ List.mem_cons_self) : wx.heap[g]? = _)
              go_simp
              try with_reducible rfl
            try simp only [Act.put, List.setIfInBounds_toArray, List.set_cons_zero, List.set_cons_succ]
            refine wpAnyH_ready (rs := [1]) (by kernel_rfl) (by simp) ?_
            refine AllReadyH.cons (o := ⟨some 63, _, _, _, _, _⟩) rfl (fun K hK => ?_) AllReadyH.nil
            have HC := hHeld.all_any HLL.out
            go_simp
            refine HC.mono ?_
            rintro e wa ⟨u2, rfl, -, hk2⟩
            have hsm := sameEdus_any u2 (.slice Ad n cd) p.l p.l wa (hk2.is List.mem_cons_self) (hk2.is (t := Th.row LE (.slice Ad n cd) p.l) (List.mem_cons_of_mem _ (List.mem_cons_of_mem _ (List.mem_cons_of_mem _ List.mem_cons_self))))
            rw [sameL_self] at hsm
            have HSM := Lib.hid hsm
            refine hK.out _ _ (hk2.less (fun t ht => List.mem_cons_of_mem _ ht)) (fun hHeld => ?_)
            clear hK K hsm hk2 HC
            try simp only [Act.put, List.setIfInBounds_toArray, List.set_cons_zero, List.set_cons_succ]
            refine wpAnyH_ready (rs := [4]) (by kernel_rfl) (by simp) ?_
            refine AllReadyH.cons (o := ⟨some 66, _, _, _, _, _⟩) rfl (fun K hK => ?_) AllReadyH.nil
            go_simp
            refine HSM.out.mono ?_
            rintro e wb ⟨rfl, hb⟩
            refine hK.out _ _ (hHeld.later hb) (fun hHeld => ?_)
            clear hK K hb HSM
            try simp only [Act.put, List.setIfInBounds_toArray, List.set_cons_zero, List.set_cons_succ]
            refine wpAnyH_take (i := 5) (oi := ⟨some 67, _, _, _, _, _⟩) (v := ?vra5) rfl (by kernel_rfl) (by kernel_rfl) (by kernel_rfl) (fun _ _ _ h => h) (Or.inl ⟨by rfl, ?yra5⟩) hHeld ?rra5
            case yra5 =>
              intro wx hSx
              go_simp
              try with_reducible rfl
            try simp only [Act.put, List.setIfInBounds_toArray, List.set_cons_zero, List.set_cons_succ]
            refine wpAnyH_ready (rs := [6]) (by kernel_rfl) (by simp) ?_
            refine AllReadyH.cons (o := ⟨some 68, _, _, _, _, _⟩) rfl (fun K hK => ?_) AllReadyH.nil
            go_simp
            refine (HLV.out _).mono ?_
            rintro e wc ⟨rfl, hb⟩
            refine hK.out _ _ (hHeld.later hb) (fun hHeld => ?_)
            clear hK K hb
            try simp only [Act.put, List.setIfInBounds_toArray, List.set_cons_zero, List.set_cons_succ]
            refine wpAnyH_take (i := 7) (oi := ⟨some 69, _, _, _, _, _⟩) (v := ?vra7) rfl (by kernel_rfl) (by kernel_rfl) (by kernel_rfl) (fun _ _ _ h => h) (Or.inl ⟨by rfl, ?yra7⟩) hHeld ?rra7
            case yra7 =>
              intro wx hSx
              go_simp
              try with_reducible rfl
            try simp only [Act.put, List.setIfInBounds_toArray, List.set_cons_zero, List.set_cons_succ]
            refine wpAnyH_take (i := 8) (oi := ⟨some 2, _, _, _, _, _⟩) (v := ?vra8) rfl (by kernel_rfl) (by kernel_rfl) (by kernel_rfl) (fun _ _ _ h => h) (Or.inl ⟨by rfl, ?yra8⟩) hHeld ?rra8
            case yra8 =>
              intro wx hSx
              go_simp
              try with_reducible rfl
            try simp only [Act.put, List.setIfInBounds_toArray, List.set_cons_zero, List.set_cons_succ]
            refine wpAnyH_done (by kernel_rfl) ?_ _
            have HBL := Lib.hid hHeld.below
            clear hHeld
            go_wp2_with fail
            go_ret
            exact ⟨rfl, HBL.out⟩
      · have q3 : decide ((a : Int) < (l.length : Int)) = false := decide_eq_false (by omega)
        go_wp2_with fail
        go_at_call 17
        refine (HA.out.kp.all_any HLL.out).mono ?_
        rintro e w5 ⟨u, rfl, hm5, hk5⟩
        obtain ⟨Au, cu, rfl, hu1, hu2, -⟩ := hm5.shape
        unfold maxLen at hu2
        have HW5 : Hid (Kp w w5 b v p (Th.room (.slice Au p.l.length cu) p.l.length :: Th.box g (p.box vd) :: Th.row LE vd p.l :: [])) := Lib.hid ((hk5.less (fun t ht => List.mem_cons_of_mem _ ht)).with hm5.room (fun k hk ho => by
          have h1 := (hm5.lt k hk.2).1
          have h2 := (HA.out.kp.pk.old ho).2
          omega))
        have HNE : Hid (∀ k, (Value.slice Au p.l.length cu).ownBlock = some k → w.heap.size ≤ k ∧ ∀ t ∈ [Th.box g (p.box vd), Th.row LE vd p.l], ¬ t.P k) := Lib.hid (fun k hk => by
          have h1 := (hm5.lt k hk).1
          refine ⟨Nat.le_trans HA.out.kp.below.size h1, fun t ht hp => ?_⟩
          have h2 := t.lt wr k (HA.out.kp.is ht) hp
          omega)
        have HLO' := Lib.hid HA.out.lo
        obtain ⟨Ad, cd, rfl, hd1, hd2, -⟩ := id HA.out.row
        clear hm5 hk5 HA HF
        obtain ⟨n, hn⟩ : ∃ n, p.l.length = n := ⟨_, rfl⟩
        rw [hn] at HW5 HNE hd1 hu1 ⊢
        have HNN := Lib.hid hn
        clear hn
        go_wp2_with fail
        go_loopw [12] (fun i wr => ∃ k : Nat, i = .int .i64 (k : Int) ∧ k ≤ n ∧ Hid (Kp w wr b v p (Th.room (.slice Au n cu) n :: Th.box g (p.box (.slice Ad n cd)) :: Th.row LE (.slice Ad n cd) p.l :: []))) (fun i _ => n - (intOf i).toNat)
        case atStart => exact ⟨0, rfl, Nat.zero_le _, HW5⟩
        case round =>
          obtain ⟨k, rfl, hkn, HK⟩ := hrel
          clear HW5
          by_cases hkx : k < n
          · have q5 : decide ((k : Int) < (n : Int)) = true := decide_eq_true (by omega)
            obtain ⟨gu, ou, cur, rfl, hh, hz⟩ : ∃ gu ou cur, Au = some ⟨gu, ou, none⟩ ∧ wr.heap[gu]? = some (.cells cur 32 (0, 0)) ∧ ou + n * 11 ≤ cur.size := by
              have hI : (Th.room (.slice Au n cu) n).I wr := HK.out.is List.mem_cons_self
              rcases hI with h0 | ⟨g', off', c', cur, e, hh, hz⟩
              · omega
              · injection e with e1 e2 e3
                exact ⟨g', off', cur, e1, hh, hz⟩
            have hiy := index_any (P := Try.prog) knE (by decide) (b := gu) (off := ou) (cap := cu) hkx
            simp only [LE] at hiy
            have hlt : ou + k * 11 + 1 < cur.size := by omega
            obtain ⟨x0, hx0⟩ : ∃ x0, cur[ou + k * 11 + 1]? = some x0 := ⟨_, Array.getElem?_eq_getElem hlt⟩
            have z0 := (cell_at hh (ou + k * 11 + 1)).trans hx0
            have z1 := free_at hh (ou + k * 11 + 1)
            have hne := HNE.out gu rfl
            have HK2 : Hid (Kp w (wr.setCell ⟨gu, ou + k * 11 + 1, none⟩ (.string ⟨#[33, 120, 58, 121]⟩)) b v p (Th.room (.slice (some ⟨gu, ou, none⟩) n cu) n :: Th.box g (p.box (.slice Ad n cd)) :: Th.row LE (.slice Ad n cd) p.l :: [])) := Lib.hid (HK.out.put (t' := Th.room (.slice (some ⟨gu, ou, none⟩) n cu) n) (sm_grown wr gu (ou + k * 11 + 1) [.string ⟨#[33, 120, 58, 121]⟩]) (fun k' hk' => by
              injection hk' with hk'
              subst hk'
              exact ⟨⟨by omega, rfl⟩, hne⟩) (.inr ⟨gu, ou, cu, _, rfl, heap_set hh _ _, by rw [Array.size_setIfInBounds]; exact hz⟩) (fun k' hk' => .inl hk'))
            clear hh hx0 hne hlt hz
            go_wp2_with fail
            refine ⟨⟨k + 1, by go_num, by omega, HK2⟩, ?_⟩
            simp [intOf]; omega
          · have q5 : decide ((k : Int) < (n : Int)) = false := decide_eq_false (by omega)
            have HK1 := Lib.hid (HK.out.later (below_drew _))
            clear HK
            go_upto_region 17 with (fail)
            refine wp_region_held_drew (S := fun W => Kp w W b v p (Th.room (.slice Au n cu) n :: Th.box g (p.box (.slice Ad n cd)) :: Th.row LE (.slice Ad n cd) p.l :: [])) (by kernel_rfl) HK1.out (fun hHeld => ?_)
            clear HK1
            generalize World.drew _ = wd at hHeld ⊢
            refine wpAnyH_take (i := 0) (oi := ⟨some 62, _, _, _, _, _⟩) (v := ?vrb0) rfl (by kernel_rfl) (by kernel_rfl) (by kernel_rfl) (fun _ _ _ h => h) (Or.inl ⟨by rfl, ?yrb0⟩) hHeld ?rrb0
            case yrb0 =>
              intro wx hSx
              go_simp
              try with_reducible rfl
            try simp only [Act.put, List.setIfInBounds_toArray, List.set_cons_zero, List.set_cons_succ]
            refine wpAnyH_take (i := 2) (oi := ⟨some 64, _, _, _, _, _⟩) (v := ?vrb2) rfl (by kernel_rfl) (by kernel_rfl) (by kernel_rfl) (fun _ _ _ h => h) (Or.inl ⟨by rfl, ?yrb2⟩) hHeld ?rrb2
            case yrb2 =>
              intro wx hSx
              go_simp
              try with_reducible rfl
            try simp only [Act.put, List.setIfInBounds_toArray, List.set_cons_zero, List.set_cons_succ]
            refine wpAnyH_take (i := 3) (oi := ⟨some 65, _, _, _, _, _⟩) (v := ?vrb3) rfl (by kernel_rfl) (by kernel_rfl) (by kernel_rfl) (fun _ _ _ h => h) (Or.inl ⟨by rfl, ?yrb3⟩) hHeld ?rrb3
            case yrb3 =>
              intro wx hSx
              obtain ⟨c0, c1, c2⟩ := cells3 (hSx.is (t := Th.box g (p.box (.slice Ad n cd))) (List.mem_cons_of_mem _ List.mem_cons_self) : wx.heap[g]? = _)
              go_simp
              try with_reducible rfl
            try simp only [Act.put, List.setIfInBounds_toArray, List.set_cons_zero, List.set_cons_succ]
            refine wpAnyH_ready (rs := [1]) (by kernel_rfl) (by simp) ?_
            refine AllReadyH.cons (o := ⟨some 63, _, _, _, _, _⟩) rfl (fun K hK => ?_) AllReadyH.nil
            have HC := hHeld.all_any HLL.out
            go_simp
            refine HC.mono ?_
            rintro e wa ⟨u2, rfl, -, hk2⟩
            have hsm := sameEdus_any u2 (.slice Ad n cd) p.l p.l wa (hk2.is List.mem_cons_self) (hk2.is (t := Th.row LE (.slice Ad n cd) p.l) (List.mem_cons_of_mem _ (List.mem_cons_of_mem _ (List.mem_cons_of_mem _ List.mem_cons_self))))
            rw [sameL_self] at hsm
            have HSM := Lib.hid hsm
            refine hK.out _ _ (hk2.less (fun t ht => List.mem_cons_of_mem _ ht)) (fun hHeld => ?_)
            clear hK K hsm hk2 HC
            try simp only [Act.put, List.setIfInBounds_toArray, List.set_cons_zero, List.set_cons_succ]
            refine wpAnyH_ready (rs := [4]) (by kernel_rfl) (by simp) ?_
            refine AllReadyH.cons (o := ⟨some 66, _, _, _, _, _⟩) rfl (fun K hK => ?_) AllReadyH.nil
            go_simp
            refine HSM.out.mono ?_
            rintro e wb ⟨rfl, hb⟩
            refine hK.out _ _ (hHeld.later hb) (fun hHeld => ?_)
            clear hK K hb HSM
            try simp only [Act.put, List.setIfInBounds_toArray, List.set_cons_zero, List.set_cons_succ]
            refine wpAnyH_take (i := 5) (oi := ⟨some 67, _, _, _, _, _⟩) (v := ?vrb5) rfl (by kernel_rfl) (by kernel_rfl) (by kernel_rfl) (fun _ _ _ h => h) (Or.inl ⟨by rfl, ?yrb5⟩) hHeld ?rrb5
            case yrb5 =>
              intro wx hSx
              go_simp
              try with_reducible rfl
            try simp only [Act.put, List.setIfInBounds_toArray, List.set_cons_zero, List.set_cons_succ]
            refine wpAnyH_ready (rs := [6]) (by kernel_rfl) (by simp) ?_
            refine AllReadyH.cons (o := ⟨some 68, _, _, _, _, _⟩) rfl (fun K hK => ?_) AllReadyH.nil
            go_simp
            refine (HLV.out _).mono ?_
            rintro e wc ⟨rfl, hb⟩
            refine hK.out _ _ (hHeld.later hb) (fun hHeld => ?_)
            clear hK K hb
            try simp only [Act.put, List.setIfInBounds_toArray, List.set_cons_zero, List.set_cons_succ]
            refine wpAnyH_take (i := 7) (oi := ⟨some 69, _, _, _, _, _⟩) (v := ?vrb7) rfl (by kernel_rfl) (by kernel_rfl) (by kernel_rfl) (fun _ _ _ h => h) (Or.inl ⟨by rfl, ?yrb7⟩) hHeld ?rrb7
            case yrb7 =>
              intro wx hSx
              go_simp
              try with_reducible rfl
            try simp only [Act.put, List.setIfInBounds_toArray, List.set_cons_zero, List.set_cons_succ]
            refine wpAnyH_take (i := 8) (oi := ⟨some 2, _, _, _, _, _⟩) (v := ?vrb8) rfl (by kernel_rfl) (by kernel_rfl) (by kernel_rfl) (fun _ _ _ h => h) (Or.inl ⟨by rfl, ?yrb8⟩) hHeld ?rrb8
            case yrb8 =>
              intro wx hSx
              go_simp
              try with_reducible rfl
            try simp only [Act.put, List.setIfInBounds_toArray, List.set_cons_zero, List.set_cons_succ]
            refine wpAnyH_done (by kernel_rfl) ?_ _
            have HBL := Lib.hid hHeld.below
            clear hHeld
            go_wp2_with fail
            go_ret
            exact ⟨rfl, HBL.out⟩
end Go.Proofs.Ytimlomflgnnmnaa
