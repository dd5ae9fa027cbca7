/-
  What goes, what is taken, and what is there: ParkPlays, walked.
-/
import Derived.Test.YtimlomflgnnmnaaPwBo
namespace Go.Proofs.Ytimlomflgnnmnaa
set_option maxRecDepth 20000
open Go.RowKit
set_option linter.unusedVariables false
set_option linter.unusedSimpArgs false

section
variable {w wr w' : World} {b g gx : Nat} {v v' vd vn : Value} {p p' q qn : Pk} {ts ts' : List Th} {t : Th}
theorem Bn.with (h : Bn w wr b v p g vd q vn qn ts) (hI : t.I wr) (hP : ∀ k, t.P k → ¬ ownP b v k) (hg : ¬ t.P g) : Bn w wr b v p g vd q vn qn (t :: ts) := by
  refine ⟨(h.kp.with hI hP).less (fun u hu => ?_), h.off, h.lo, fun u hu hg' => ?_⟩
  · rcases List.mem_cons.1 hu with rfl | hu
    · exact List.mem_cons_of_mem _ List.mem_cons_self
    · rcases List.mem_cons.1 hu with rfl | hu
      · exact List.mem_cons_of_mem _ (List.mem_cons_of_mem _ List.mem_cons_self)
      · rcases List.mem_cons.1 hu with rfl | hu
        · exact List.mem_cons_self
        · exact List.mem_cons_of_mem _ (List.mem_cons_of_mem _ (List.mem_cons_of_mem _ hu))
  · rcases List.mem_cons.1 hu with rfl | hu
    · exact hg hg'
    · exact h.ot u hu hg'
/-- Another base. -/
theorem Kp.rebase (h : Kp wr w' b v p ts) (hb : Below w.heap.size w wr) : Kp w w' b v p ts :=
  ⟨hb.trans (h.below.mono hb.size), ⟨h.pk.hd, h.pk.row.mono hb.size, Nat.le_trans hb.size h.pk.lo, h.pk.ok⟩, h.th⟩
/-- A box beside is written. -/
theorem Bo.turnBox {cs cs' : Array Value} (h : Bo w wr b v p g vd q [Th.box gx (.cells cs 32 (0, 0))]) (hlo : w.heap.size ≤ gx) (hn : ∀ t ∈ [Th.box g (q.box vd), Th.row LE vd q.l], ¬ t.P gx) : Bo w (wr.setRow gx cs') b v p g vd q [Th.box gx (.cells cs' 32 (0, 0))] := by
  have hx : wr.heap[gx]? = some (.cells cs 32 (0, 0)) := h.kp.is (t := Th.box gx (.cells cs 32 (0, 0))) (List.mem_cons_of_mem _ (List.mem_cons_of_mem _ List.mem_cons_self))
  have hr := setRow_heap wr gx cs cs' _ _ hx
  have h1 := h.kp.less (ts' := Th.box gx (.cells cs 32 (0, 0)) :: [Th.box g (q.box vd), Th.row LE vd q.l]) (fun t ht => by
    simp only [List.mem_cons, List.not_mem_nil, or_false] at ht ⊢
    rcases ht with rfl | rfl | rfl
    · exact .inr (.inr rfl)
    · exact .inl rfl
    · exact .inr (.inl rfl))
  refine ⟨(h1.rebox hr (grown_setRow wr gx _) hlo hn).less (fun t ht => ?_), h.off, h.lo, fun t ht hg => ?_⟩
  · simp only [List.mem_cons, List.not_mem_nil, or_false] at ht ⊢
    rcases ht with rfl | rfl | rfl
    · exact .inr (.inl rfl)
    · exact .inr (.inr rfl)
    · exact .inl rfl
  · rw [List.mem_singleton] at ht
    subst ht
    exact hn (Th.box g (q.box vd)) List.mem_cons_self (show gx = g from hg.symm)
end

set_option maxHeartbeats 25600000 in
theorem parkPlays_walk (n : Int) (vv : Value) (l : List Edu) (vt : Value) (tks : List Bool) (w : World) (h0 : -9223372036854775808 ≤ n) (h1 : n ≤ 9223372036854775807) (hE : EsS w vv l) (hT : LB.Slice w vt tks) :
    Calls Try.prog 3 #[.int .i64 n, vv, vt] w fun e w' => e = .returned (.bool true) ∧ Below w.heap.size w w' := by
  have HA := Lib.hid (fun W => around_any n 6 W h0 h1 (by decide) (by decide))
  have hab := aroundI_bd n 6 (by decide)
  obtain ⟨m, hm1, hm6, hm⟩ := bound6 n
  have HNY := Lib.hid (fun W => pkNew_yes m W hm1 (by omega))
  have HLV := Lib.hid (fun W => lives_any W)
  have HWF := Lib.hid hE.2
  obtain ⟨A, cap, rfl, q1, q2, -⟩ := id hE.1
  unfold maxLen at q2
  have HR := Lib.hid hE.1
  obtain ⟨At, ct, rfl, q1', q2', -⟩ := id hT
  unfold maxLen at q2'
  have HRT := Lib.hid hT
  obtain ⟨nt, hnt⟩ : ∃ n, tks.length = n := ⟨_, rfl⟩
  rw [hnt] at HRT q1' ⊢
  have HNT := Lib.hid hnt
  clear hE hT hnt
  have HBS := Lib.hid (fun w2 b (hk : Kp w w2 b (.slice none 0 0) ⟨m, [], 0⟩ []) => Bo.start hk)
  rw [← hm] at HNY HBS
  have HM6 := Lib.hid hm
  clear hm
  generalize aroundI n 6 = a6 at *
  go_enter Try.func3, Try.ntmps3
  go_wp2_with fail
  go_at_call 8
  refine (HA.out _).mono ?_
  rintro e w1 ⟨rfl, rfl⟩
  have HB0 : Hid (Below w.heap.size w w) := Lib.hid (Below.refl _ _)
  go_wp2_with fail
  go_loopw [8, 9, 10, 11, 12, 13, 14, 15, 16, 17, 18, 19, 20] (fun i _ _ _ _ _ _ _ _ _ _ _ _ wr => ∃ h : Nat, i = .int .i64 (h : Int) ∧ h ≤ 2 ∧ Hid (Below w.heap.size w wr)) (fun i _ _ _ _ _ _ _ _ _ _ _ _ _ => 2 - (intOf i).toNat)
  case atStart => exact ⟨0, rfl, Nat.zero_le _, HB0⟩
  case round =>
    obtain ⟨h, rfl, hh, HB⟩ := hrel
    clear HB0
    by_cases hh2 : h < 2
    · have q1 : decide ((h : Int) < 2) = true := decide_eq_true (by omega)
      rcases (show h = 0 ∨ h = 1 by omega) with rfl | rfl
      · skip
        go_wp2_with fail
        go_at_call 9
        refine (HNY.out _).mono ?_
        rintro e w2 ⟨b, rfl, hk⟩
        have HBo := Lib.hid (HBS.out _ _ (hk.rebase HB.out))
        clear hk HB
        go_upto_region 9 with (fail)
        generalize World.alloc _ _ = w3 at HBo ⊢
        generalize w2.heap.size = g at HBo ⊢
        have HB1 : Hid (∃ v vd p, Bo w w3 b v p g vd p [] ∧ FitP p m 0) := Lib.hid ⟨_, _, _, HBo.out, FitP.start m⟩
        clear HBo
        go_wp2_with fail
        go_loopw [12, 13, 14, 15, 16, 17, 18, 19, 20] (fun i _ _ _ _ _ _ _ _ wr => ∃ a : Nat, i = .int .i64 (a : Int) ∧ a ≤ l.length ∧ a ≤ 16 ∧ Hid (∃ v vd p, Bo w wr b v p g vd p [] ∧ FitP p m a)) (fun i _ _ _ _ _ _ _ _ _ => l.length - (intOf i).toNat)
        case atStart => exact ⟨0, rfl, Nat.zero_le _, Nat.zero_le _, HB1⟩
        case round =>
          obtain ⟨a, rfl, ha, ha16, HS⟩ := hrel
          clear HB1
          obtain ⟨v, vd, p, hBo, hF⟩ := HS.out
          have HA := Lib.hid hBo
          have HF := Lib.hid hF
          clear hBo hF HS
          have HLL := Lib.hid (show p.l.length ≤ 100000 by have := HF.out.len; omega)
          have HLO := Lib.hid (show p.lost ≤ 100000 by have := HF.out.lost; omega)
          have HMO := Lib.hid (show p.most ≤ 100000 by have := HF.out.most; omega)
          have goOn : (a < l.length ∧ a < 16) ∨ ¬ (a < l.length ∧ a < 16) := Classical.em _
          rcases goOn with ⟨hal, hat⟩ | hno
          · have q3 : decide ((a : Int) < (l.length : Int)) = true := decide_eq_true (by omega)
            have q4 : decide ((a : Int) < 16) = true := decide_eq_true (by omega)
            have hx : l[a]? = some l[a] := List.getElem?_eq_getElem hal
            generalize l[a] = x at hx
            have hxw := HWF.out x (List.mem_of_getElem? hx)
            have HWT := Lib.hid (fun W => waits_any x W hxw)
            have HFW := Lib.hid (fun W => refFew_any x W hxw.2.1 hxw.2.2.1 hxw.2.2.2.1 hxw.2.2.2.2)
            have HB1x := Lib.hid (wait_brief x)
            have HB2x := Lib.hid (few_brief x)
            obtain ⟨bo, oo, rfl, hbo, hco⟩ := (HR.out.below HA.out.kp.below).at hx
            have hiy := index_any (P := Try.prog) knE (by decide) (b := bo) (off := oo) (cap := cap) hal
            have HXX := Lib.hid (fun (W : World) (hb : Below w.heap.size w W) => show W.rangeAt bo (oo + a * 11) (Edu.cells x) from by
              obtain ⟨bo2, oo2, e1, -, hco2⟩ := (HR.out.below hb).at hx
              injection e1 with e1
              injection e1 with e2 e3 _
              subst e2 e3
              simpa [LE] using hco2)
            simp only [LE] at hiy hco
            clear hx hxw
            obtain ⟨y0, hy0⟩ : ∃ y, waitE x = y := ⟨_, rfl⟩
            obtain ⟨y1, hy1⟩ : ∃ y, fewE x = y := ⟨_, rfl⟩
            rw [hy0] at HWT HB1x
            rw [hy1] at HFW HB2x
            clear hy0 hy1
            clear HB2x HFW
            have HPC := Lib.hid (fun (W : World) v ts (hk : Kp w W b v p ts) => hk.put_any y0 HB1x.out HLL.out HLO.out HMO.out)
            have HPD := Lib.hid (fun (W : World) vd (hr : LE.Slice W vd p.l) => docPut_any hr y0 HLL.out HLO.out HMO.out)
            have HFP := Lib.hid (HF.out.put y0)
            have heqg := fun w => eql_edu (p.gone y0) (p.gone y0) w
            rw [eqE_self] at heqg
            generalize Pk.put p y0 = p2 at HPC HPD HFP
            generalize Pk.gone p y0 = ge at HPC HPD heqg
            generalize Pk.goes p y0 = gb at HPC HPD
            clear HB1x
            obtain ⟨yk, yr, yu, yz, yt, yp, yo, ys, yy, yc, ym⟩ := y0
            have hcx := range11 hco
            obtain ⟨a0, a1, a2, a3, a4, a5, a6', a7, a8, a9, a10⟩ := hcx
            clear hco
            unfold Edu.val at HWT
            go_wp2_with fail
            go_at_call 10
            refine (HWT.out _).mono ?_
            rintro e w4 ⟨rfl, hb⟩
            have HA4 := Lib.hid (HA.out.later hb)
            have HN7 := heap_alloc_new w4 (.cells #[.int .i64 yk, .string yr, .string yu, .string yz, .string yt, .bool yp, .bool yo, .int .i64 ys, .int .i64 yy, .int .i64 yc, .int .i64 ym] 32)
            have HA5 := Lib.hid (HA4.out.add (below_new w4 (.cells #[.int .i64 yk, .string yr, .string yu, .string yz, .string yt, .bool yp, .bool yo, .int .i64 ys, .int .i64 yy, .int .i64 yc, .int .i64 ym] 32)) (t := Th.box w4.heap.size (.cells #[.int .i64 yk, .string yr, .string yu, .string yz, .string yt, .bool yp, .bool yo, .int .i64 ys, .int .i64 yy, .int .i64 yc, .int .i64 ym] 32 (0, 0))) HN7 (fun k hk => Nat.le_of_eq hk.symm))
            have HNX : Hid (w.heap.size ≤ w4.heap.size ∧ ∀ t ∈ [Th.box g (p.box vd), Th.row LE vd p.l], ¬ t.P w4.heap.size) := Lib.hid ⟨HA4.out.kp.below.size, fun t ht hp => by
              have h2 := t.lt w4 _ (HA4.out.kp.is ht) hp
              omega⟩
            clear hb HWT a0 a1 a2 a3 a4 a5 a6' a7 a8 a9 a10 HA HA4 HN7
            go_upto_region 13 with (fail)
            generalize World.alloc _ _ = w5 at HA5 ⊢
            generalize w4.heap.size = g7 at HA5 HNX ⊢
            clear HXX HNX
            go_upto_region 15 with (fail)
            have HFTk := Lib.hid (HF.out.take yr yz)
            have HTC := Lib.hid (fun (W : World) v ts (hk : Kp w W b v p ts) => hk.take_any yr yz HLL.out)
            have HTD := Lib.hid (fun (W : World) vd (hr : LE.Slice W vd p.l) => docTake_any hr yr yz HLL.out)
            have HFT := HFTk
            generalize p.took yr yz = tl at HTC HTD
            generalize p.take yr yz = pt at HTC HTD HFT
            clear HFTk
            by_cases haf : a < nt
            · have q7 : decide ((a : Int) < (nt : Int)) = true := decide_eq_true (by omega)
              have hmn : min (a : Int) ((nt : Int) - 1) = (a : Int) := by omega
              obtain ⟨f, hf⟩ : ∃ f, tks[a]? = some f := ⟨_, List.getElem?_eq_getElem (by rw [HNT.out]; exact haf)⟩
              obtain ⟨bt, ot, hbt, hbl, hcf⟩ := (HRT.out.below HA5.out.kp.below).at hf
              subst hbt
              have hiz := index_any (P := Try.prog) knB (by decide) (b := bt) (off := ot) (cap := ct) haf
              simp only [LB, Nat.mul_one] at hiz hcf
              have cf := hcf 0 _ rfl
              rw [Nat.add_zero] at cf
              clear hf hcf
              cases f
              · skip
                go_upto_region 20 with (fail)
                obtain ⟨d0, d1, d2, d3, d4, d5, d6, d7, d8, d9, d10⟩ := cells11 (HA5.out.kp.is (t := Th.box g7 (.cells #[.int .i64 yk, .string yr, .string yu, .string yz, .string yt, .bool yp, .bool yo, .int .i64 ys, .int .i64 yy, .int .i64 yc, .int .i64 ym] 32 (0, 0))) (List.mem_cons_of_mem _ (List.mem_cons_of_mem _ List.mem_cons_self)) : (World.heap _)[g7]? = _)
                obtain ⟨c0, c1, c2⟩ := cells3 HA5.out.at
                have HPD5 := Lib.hid (HPD.out _ _ HA5.out.row)
                clear HTD HTC
                go_wp2_with fail
                go_at_call 15
                refine HPD5.out.mono ?_
                rintro e w6 ⟨vn, rfl, hd, hb⟩
                have HA6 := Lib.hid (HA5.out.doc hd hb)
                clear hd hb HPD HPD5 HA5 d0 d1 d2 d3 d4 d5 d6 d7 d8 d9 d10 c0 c1 c2
                obtain ⟨An, cn, rfl, -⟩ := id HA6.out.row
                obtain ⟨nn, hnn⟩ : ∃ n, p2.l.length = n := ⟨_, rfl⟩
                rw [hnn] at HA6 ⊢
                have HNN := Lib.hid hnn
                clear hnn
                obtain ⟨zk, zr, zu, zz, zt, zp, zo, zs, zy, zc, zm⟩ := ge
                simp only [Edu.val] at *
                have h8 := heap_alloc_new w6 (.cells #[.int .i64 (p2.most : Int), .slice An nn cn, .int .i64 (p2.lost : Int)] 30)
                have h9 := heap_alloc_new (w6.alloc (.cells #[.int .i64 (p2.most : Int), .slice An nn cn, .int .i64 (p2.lost : Int)] 30)) (.cells #[.int .i64 zk, .string zr, .string zu, .string zz, .string zt, .bool zp, .bool zo, .int .i64 zs, .int .i64 zy, .int .i64 zc, .int .i64 zm] 32)
                have h89 := heap_push _ (.cells #[.int .i64 zk, .string zr, .string zu, .string zz, .string zt, .bool zp, .bool zo, .int .i64 zs, .int .i64 zy, .int .i64 zc, .int .i64 zm] 32) h8
                have hs9 := size_alloc1 w6 (.cells #[.int .i64 (p2.most : Int), .slice An nn cn, .int .i64 (p2.lost : Int)] 30)
                have HA6b := Lib.hid ((HA6.out.later (below_new w6 (.cells #[.int .i64 (p2.most : Int), .slice An nn cn, .int .i64 (p2.lost : Int)] 30))).add (below_new _ (.cells #[.int .i64 zk, .string zr, .string zu, .string zz, .string zt, .bool zp, .bool zo, .int .i64 zs, .int .i64 zy, .int .i64 zc, .int .i64 zm] 32)) (t := Th.box _ (.cells #[.int .i64 zk, .string zr, .string zu, .string zz, .string zt, .bool zp, .bool zo, .int .i64 zs, .int .i64 zy, .int .i64 zc, .int .i64 zm] 32 (0, 0))) h9 (fun k hk => Nat.le_of_eq hk.symm))
                rw [hs9] at HA6b
                clear h8 h9 hs9 HA6
                go_upto_region 21 with (fail)
                generalize World.alloc _ _ = w7 at HA6b h89 ⊢
                generalize w6.heap.size + 1 = g17 at HA6b ⊢
                generalize w6.heap.size = g16 at h89 ⊢
                obtain ⟨c0, c1, c2⟩ := cells3 h89
                have hat' := Lib.hid HA6b.out.at
                have HA8 := Lib.hid HA6b.out.store
                go_upto_region 22 with (refine wpList_store_row rfl 30 (.tmp 11) (.tmp 103) rfl g #[.int .i64 (p2.most : Int), .slice An nn cn, .int .i64 (p2.lost : Int)] rfl rfl 30 _ hat'.out p_info rfl (one3 _ _ _ _ _) ?_)
                generalize World.setRow _ _ _ = w8 at HA8 ⊢
                clear c0 c1 c2 h89 hat' HA6b
                obtain ⟨d0, d1, d2, d3, d4, d5, d6, d7, d8, d9, d10⟩ := cells11 (HA8.out.kp.is (t := Th.box g7 (.cells #[.int .i64 yk, .string yr, .string yu, .string yz, .string yt, .bool yp, .bool yo, .int .i64 ys, .int .i64 yy, .int .i64 yc, .int .i64 ym] 32 (0, 0))) (List.mem_cons_of_mem _ (List.mem_cons_of_mem _ (List.mem_cons_of_mem _ List.mem_cons_self))) : w8.heap[g7]? = _)
                have HPC8 := Lib.hid (HPC.out _ _ _ HA8.out.kp)
                go_wp2_with fail
                go_at_call 16
                refine HPC8.out.mono ?_
                rintro e w9 ⟨rfl, v9, hk9⟩
                have HA9 := Lib.hid (HA8.out.code hk9)
                have h19 := heap_alloc_new w9 (.cells #[.int .i64 zk, .string zr, .string zu, .string zz, .string zt, .bool zp, .bool zo, .int .i64 zs, .int .i64 zy, .int .i64 zc, .int .i64 zm] 32)
                have HA10 := Lib.hid (HA9.out.later (below_new w9 (.cells #[.int .i64 zk, .string zr, .string zu, .string zz, .string zt, .bool zp, .bool zo, .int .i64 zs, .int .i64 zy, .int .i64 zc, .int .i64 zm] 32)))
                clear hk9 HA8 HA9 HPC HPC8 d0 d1 d2 d3 d4 d5 d6 d7 d8 d9 d10
                go_upto_region 23 with (fail)
                generalize World.alloc _ _ = w10 at h19 HA10 ⊢
                generalize w9.heap.size = g19 at h19 ⊢
                obtain ⟨d0, d1, d2, d3, d4, d5, d6, d7, d8, d9, d10⟩ := cells11 h19
                obtain ⟨c0, c1, c2, c3, c4, c5, c6, c7, c8, c9, c10⟩ := cells11 (HA10.out.kp.is (t := Th.box g17 (.cells #[.int .i64 zk, .string zr, .string zu, .string zz, .string zt, .bool zp, .bool zo, .int .i64 zs, .int .i64 zy, .int .i64 zc, .int .i64 zm] 32 (0, 0))) (List.mem_cons_of_mem _ (List.mem_cons_of_mem _ List.mem_cons_self)) : w10.heap[g17]? = _)
                have hbn : (gb != gb) = false := bne_self_eq_false gb
                have HA11 := Lib.hid (HA10.out.less (ts' := []) (fun t ht => by cases ht))
                have HFN := HFP
                clear HA10 h19 HFT HFP
                go_upto_region 25 with (fail)
                clear d0 d1 d2 d3 d4 d5 d6 d7 d8 d9 d10 c0 c1 c2 c3 c4 c5 c6 c7 c8 c9 c10 hbn heqg
                generalize hpp : p2 = p3 at *
                have HNL : Hid (p3.l.length = nn) := HNN
                have HLL3 := Lib.hid (show p3.l.length ≤ 100000 by have := HFN.out.len; omega)
                have HLE := Lib.hid (fun W v ts (hk : Kp w W b v p3 ts) => pkLen_any hk.pk)
                have HLS := Lib.hid (fun W v ts (hk : Kp w W b v p3 ts) => pkLost_any hk.pk)
                rw [HNL.out] at HLE
                have HD := Lib.hid (HA11.out.later (below_drew _))
                refine wp_region_held_drew (S := fun W => ∃ v, Kp w W b v p3 (Th.box g (p3.box (.slice An nn cn)) :: Th.row LE (.slice An nn cn) p3.l :: [])) (by kernel_rfl) ⟨_, HD.out.kp⟩ (fun hHeld => ?_)
                generalize World.drew _ = wd at HD hHeld ⊢
                have HLO' := Lib.hid HD.out.lo
                have HOF := Lib.hid HD.out.off
                clear HA11 HD HNN
                refine wpAnyH_take (i := 0) (oi := ⟨some 118, _, _, _, _, _⟩) (v := ?vrq0) rfl (by kernel_rfl) (by kernel_rfl) (by kernel_rfl) (fun _ _ _ h => h) (Or.inl ⟨by rfl, ?yrq0⟩) hHeld ?rrq0
                case yrq0 =>
                  intro wx hSx
                  go_simp
                  try with_reducible rfl
                try simp only [Act.put, List.setIfInBounds_toArray, List.set_cons_zero, List.set_cons_succ]
                refine wpAnyH_take (i := 2) (oi := ⟨some 120, _, _, _, _, _⟩) (v := ?vrq2) rfl (by kernel_rfl) (by kernel_rfl) (by kernel_rfl) (fun _ _ _ h => h) (Or.inl ⟨by rfl, ?yrq2⟩) hHeld ?rrq2
                case yrq2 =>
                  intro wx hSx
                  go_simp
                  try with_reducible rfl
                try simp only [Act.put, List.setIfInBounds_toArray, List.set_cons_zero, List.set_cons_succ]
                refine wpAnyH_take (i := 3) (oi := ⟨some 121, _, _, _, _, _⟩) (v := ?vrq3) rfl (by kernel_rfl) (by kernel_rfl) (by kernel_rfl) (fun _ _ _ h => h) (Or.inl ⟨by rfl, ?yrq3⟩) hHeld ?rrq3
                case yrq3 =>
                  intro wx hSx
                  obtain ⟨v3, h3⟩ := hSx
                  obtain ⟨c0, c1, c2⟩ := cells3 (h3.is List.mem_cons_self : wx.heap[g]? = _)
                  go_simp
                  try with_reducible rfl
                try simp only [Act.put, List.setIfInBounds_toArray, List.set_cons_zero, List.set_cons_succ]
                refine wpAnyH_ready (rs := [1]) (by kernel_rfl) (by simp) ?_
                refine AllReadyH.cons (o := ⟨some 119, _, _, _, _, _⟩) rfl (fun K hK => ?_) AllReadyH.nil
                obtain ⟨v3, h3⟩ := hHeld
                have HC := h3.all_any HLL3.out
                go_simp
                refine HC.mono ?_
                rintro e wa ⟨u2, rfl, -, hk2⟩
                have hsm := sameEdus_any u2 (.slice An nn cn) p3.l p3.l wa (hk2.is List.mem_cons_self) (hk2.is (t := Th.row LE (.slice An nn cn) p3.l) (List.mem_cons_of_mem _ (List.mem_cons_of_mem _ List.mem_cons_self)))
                rw [sameL_self] at hsm
                have HSM := Lib.hid hsm
                refine hK.out _ _ ⟨_, hk2.less (fun t ht => List.mem_cons_of_mem _ ht)⟩ (fun hHeld => ?_)
                clear hK K hsm hk2 HC h3
                try simp only [Act.put, List.setIfInBounds_toArray, List.set_cons_zero, List.set_cons_succ]
                refine wpAnyH_ready (rs := [4]) (by kernel_rfl) (by simp) ?_
                refine AllReadyH.cons (o := ⟨some 122, _, _, _, _, _⟩) rfl (fun K hK => ?_) AllReadyH.nil
                obtain ⟨v3, h3⟩ := hHeld
                go_simp
                refine HSM.out.mono ?_
                rintro e wb ⟨rfl, hb⟩
                refine hK.out _ _ ⟨_, h3.later hb⟩ (fun hHeld => ?_)
                clear hK K hb HSM h3
                try simp only [Act.put, List.setIfInBounds_toArray, List.set_cons_zero, List.set_cons_succ]
                refine wpAnyH_take (i := 5) (oi := ⟨some 123, _, _, _, _, _⟩) (v := ?vrq5) rfl (by kernel_rfl) (by kernel_rfl) (by kernel_rfl) (fun _ _ _ h => h) (Or.inl ⟨by rfl, ?yrq5⟩) hHeld ?rrq5
                case yrq5 =>
                  intro wx hSx
                  go_simp
                  try with_reducible rfl
                try simp only [Act.put, List.setIfInBounds_toArray, List.set_cons_zero, List.set_cons_succ]
                refine wpAnyH_take (i := 6) (oi := ⟨some 124, _, _, _, _, _⟩) (v := ?vrq6) rfl (by kernel_rfl) (by kernel_rfl) (by kernel_rfl) (fun _ _ _ h => h) (Or.inl ⟨by rfl, ?yrq6⟩) hHeld ?rrq6
                case yrq6 =>
                  intro wx hSx
                  go_simp
                  try with_reducible rfl
                try simp only [Act.put, List.setIfInBounds_toArray, List.set_cons_zero, List.set_cons_succ]
                refine wpAnyH_take (i := 7) (oi := ⟨some 125, _, _, _, _, _⟩) (v := ?vrq7) rfl (by kernel_rfl) (by kernel_rfl) (by kernel_rfl) (fun _ _ _ h => h) (Or.inl ⟨by rfl, ?yrq7⟩) hHeld ?rrq7
                case yrq7 =>
                  intro wx hSx
                  go_simp
                  try with_reducible rfl
                try simp only [Act.put, List.setIfInBounds_toArray, List.set_cons_zero, List.set_cons_succ]
                refine wpAnyH_take (i := 9) (oi := ⟨some 127, _, _, _, _, _⟩) (v := ?vrq9) rfl (by kernel_rfl) (by kernel_rfl) (by kernel_rfl) (fun _ _ _ h => h) (Or.inl ⟨by rfl, ?yrq9⟩) hHeld ?rrq9
                case yrq9 =>
                  intro wx hSx
                  go_simp
                  try with_reducible rfl
                try simp only [Act.put, List.setIfInBounds_toArray, List.set_cons_zero, List.set_cons_succ]
                refine wpAnyH_take (i := 10) (oi := ⟨some 128, _, _, _, _, _⟩) (v := ?vrq10) rfl (by kernel_rfl) (by kernel_rfl) (by kernel_rfl) (fun _ _ _ h => h) (Or.inl ⟨by rfl, ?yrq10⟩) hHeld ?rrq10
                case yrq10 =>
                  intro wx hSx
                  obtain ⟨v3, h3⟩ := hSx
                  obtain ⟨c0, c1, c2⟩ := cells3 (h3.is List.mem_cons_self : wx.heap[g]? = _)
                  go_simp
                  try with_reducible rfl
                try simp only [Act.put, List.setIfInBounds_toArray, List.set_cons_zero, List.set_cons_succ]
                refine wpAnyH_take (i := 11) (oi := ⟨some 129, _, _, _, _, _⟩) (v := ?vrq11) rfl (by kernel_rfl) (by kernel_rfl) (by kernel_rfl) (fun _ _ _ h => h) (Or.inl ⟨by rfl, ?yrq11⟩) hHeld ?rrq11
                case yrq11 =>
                  intro wx hSx
                  go_simp
                  try with_reducible rfl
                try simp only [Act.put, List.setIfInBounds_toArray, List.set_cons_zero, List.set_cons_succ]
                refine wpAnyH_ready (rs := [8]) (by kernel_rfl) (by simp) ?_
                refine AllReadyH.cons (o := ⟨some 126, _, _, _, _, _⟩) rfl (fun K hK => ?_) AllReadyH.nil
                obtain ⟨v3, h3⟩ := hHeld
                go_simp
                refine (HLE.out _ _ _ h3).mono ?_
                rintro e wc ⟨rfl, hb⟩
                refine hK.out _ _ ⟨_, h3.later hb⟩ (fun hHeld => ?_)
                clear hK K hb h3
                try simp only [Act.put, List.setIfInBounds_toArray, List.set_cons_zero, List.set_cons_succ]
                refine wpAnyH_take (i := 12) (oi := ⟨some 130, _, _, _, _, _⟩) (v := ?vrq12) rfl (by kernel_rfl) (by kernel_rfl) (by kernel_rfl) (fun _ _ _ h => h) (Or.inl ⟨by rfl, ?yrq12⟩) hHeld ?rrq12
                case yrq12 =>
                  intro wx hSx
                  go_simp
                  try with_reducible rfl
                try simp only [Act.put, List.setIfInBounds_toArray, List.set_cons_zero, List.set_cons_succ]
                refine wpAnyH_take (i := 13) (oi := ⟨some 131, _, _, _, _, _⟩) (v := ?vrq13) rfl (by kernel_rfl) (by kernel_rfl) (by kernel_rfl) (fun _ _ _ h => h) (Or.inl ⟨by rfl, ?yrq13⟩) hHeld ?rrq13
                case yrq13 =>
                  intro wx hSx
                  go_simp
                  try with_reducible rfl
                try simp only [Act.put, List.setIfInBounds_toArray, List.set_cons_zero, List.set_cons_succ]
                refine wpAnyH_take (i := 14) (oi := ⟨some 132, _, _, _, _, _⟩) (v := ?vrq14) rfl (by kernel_rfl) (by kernel_rfl) (by kernel_rfl) (fun _ _ _ h => h) (Or.inl ⟨by rfl, ?yrq14⟩) hHeld ?rrq14
                case yrq14 =>
                  intro wx hSx
                  go_simp
                  try with_reducible rfl
                try simp only [Act.put, List.setIfInBounds_toArray, List.set_cons_zero, List.set_cons_succ]
                refine wpAnyH_take (i := 15) (oi := ⟨some 133, _, _, _, _, _⟩) (v := ?vrq15) rfl (by kernel_rfl) (by kernel_rfl) (by kernel_rfl) (fun _ _ _ h => h) (Or.inl ⟨by rfl, ?yrq15⟩) hHeld ?rrq15
                case yrq15 =>
                  intro wx hSx
                  go_simp
                  try with_reducible rfl
                try simp only [Act.put, List.setIfInBounds_toArray, List.set_cons_zero, List.set_cons_succ]
                refine wpAnyH_take (i := 17) (oi := ⟨some 135, _, _, _, _, _⟩) (v := ?vrq17) rfl (by kernel_rfl) (by kernel_rfl) (by kernel_rfl) (fun _ _ _ h => h) (Or.inl ⟨by rfl, ?yrq17⟩) hHeld ?rrq17
                case yrq17 =>
                  intro wx hSx
                  go_simp
                  try with_reducible rfl
                try simp only [Act.put, List.setIfInBounds_toArray, List.set_cons_zero, List.set_cons_succ]
                refine wpAnyH_take (i := 18) (oi := ⟨some 136, _, _, _, _, _⟩) (v := ?vrq18) rfl (by kernel_rfl) (by kernel_rfl) (by kernel_rfl) (fun _ _ _ h => h) (Or.inl ⟨by rfl, ?yrq18⟩) hHeld ?rrq18
                case yrq18 =>
                  intro wx hSx
                  obtain ⟨v3, h3⟩ := hSx
                  obtain ⟨c0, c1, c2⟩ := cells3 (h3.is List.mem_cons_self : wx.heap[g]? = _)
                  go_simp
                  try with_reducible rfl
                try simp only [Act.put, List.setIfInBounds_toArray, List.set_cons_zero, List.set_cons_succ]
                refine wpAnyH_ready (rs := [16]) (by kernel_rfl) (by simp) ?_
                refine AllReadyH.cons (o := ⟨some 134, _, _, _, _, _⟩) rfl (fun K hK => ?_) AllReadyH.nil
                obtain ⟨v3, h3⟩ := hHeld
                go_simp
                refine (HLS.out _ _ _ h3).mono ?_
                rintro e we ⟨rfl, hb⟩
                refine hK.out _ _ ⟨_, h3.later hb⟩ (fun hHeld => ?_)
                clear hK K hb h3
                try simp only [Act.put, List.setIfInBounds_toArray, List.set_cons_zero, List.set_cons_succ]
                refine wpAnyH_take (i := 19) (oi := ⟨some 137, _, _, _, _, _⟩) (v := ?vrq19) rfl (by kernel_rfl) (by kernel_rfl) (by kernel_rfl) (fun _ _ _ h => h) (Or.inl ⟨by rfl, ?yrq19⟩) hHeld ?rrq19
                case yrq19 =>
                  intro wx hSx
                  go_simp
                  try with_reducible rfl
                try simp only [Act.put, List.setIfInBounds_toArray, List.set_cons_zero, List.set_cons_succ]
                refine wpAnyH_take (i := 20) (oi := ⟨some 138, _, _, _, _, _⟩) (v := ?vrq20) rfl (by kernel_rfl) (by kernel_rfl) (by kernel_rfl) (fun _ _ _ h => h) (Or.inl ⟨by rfl, ?yrq20⟩) hHeld ?rrq20
                case yrq20 =>
                  intro wx hSx
                  go_simp
                  try with_reducible rfl
                try simp only [Act.put, List.setIfInBounds_toArray, List.set_cons_zero, List.set_cons_succ]
                refine wpAnyH_done (by kernel_rfl) ?_ _
                obtain ⟨v3, h3⟩ := hHeld
                have HS9 : Hid (∃ v vd p, Bo w we b v p g vd p [] ∧ FitP p m (a + 1)) := Lib.hid ⟨v3, _, p3, ⟨h3, HOF.out, HLO'.out, fun t ht => (by cases ht)⟩, HFN.out⟩
                clear h3 HLE HLS HLO' HOF
                go_wp2_with fail
                refine ⟨⟨a + 1, by go_num, by omega, by omega, HS9⟩, ?_⟩
                simp [intOf]; omega
              · skip
                go_upto_region 16 with (fail)
                obtain ⟨d0, d1, d2, d3, d4, d5, d6, d7, d8, d9, d10⟩ := cells11 (HA5.out.kp.is (t := Th.box g7 (.cells #[.int .i64 yk, .string yr, .string yu, .string yz, .string yt, .bool yp, .bool yo, .int .i64 ys, .int .i64 yy, .int .i64 yc, .int .i64 ym] 32 (0, 0))) (List.mem_cons_of_mem _ (List.mem_cons_of_mem _ List.mem_cons_self)) : (World.heap _)[g7]? = _)
                obtain ⟨c0, c1, c2⟩ := cells3 HA5.out.at
                have HTD5 := Lib.hid (HTD.out _ _ HA5.out.row)
                clear HPD HPC heqg
                go_wp2_with fail
                go_at_call 12
                refine HTD5.out.mono ?_
                rintro e w6 ⟨u, vn, rfl, hmu, hmv, hb⟩
                have HA6 := Lib.hid ((HA5.out.doc (.inr hmv) hb).with (t := Th.row LE u tl) hmu.slice (fun k hk ho => by
                  have h1 := (hmu.lt k hk.2).1
                  have h2 := (HA5.out.kp.pk.old ho).2
                  omega) (fun hk => by
                  have h1 := (hmu.lt g hk.2).1
                  have h2 := smem_lt HA5.out.at
                  omega))
                obtain ⟨Au, cu, rfl, -⟩ := hmu.shape
                clear hmu hmv hb HTD HTD5 HA5 d0 d1 d2 d3 d4 d5 d6 d7 d8 d9 d10 c0 c1 c2
                obtain ⟨An, cn, rfl, -⟩ := id HA6.out.row
                obtain ⟨nn, hnn⟩ : ∃ n, pt.l.length = n := ⟨_, rfl⟩
                rw [hnn] at HA6 ⊢
                have HNN := Lib.hid hnn
                clear hnn
                obtain ⟨nu, hnu⟩ : ∃ n, tl.length = n := ⟨_, rfl⟩
                rw [hnu] at HA6 ⊢
                clear hnu
                have h8 := heap_alloc_new w6 (.cells #[.int .i64 (pt.most : Int), .slice An nn cn, .int .i64 (pt.lost : Int)] 30)
                have HA6b := Lib.hid (HA6.out.later (below_new w6 (.cells #[.int .i64 (pt.most : Int), .slice An nn cn, .int .i64 (pt.lost : Int)] 30)))
                clear HA6
                go_upto_region 17 with (fail)
                generalize World.alloc _ _ = w7 at HA6b h8 ⊢
                generalize w6.heap.size = g14 at h8 ⊢
                obtain ⟨c0, c1, c2⟩ := cells3 h8
                have hat' := Lib.hid HA6b.out.at
                have HA8 := Lib.hid HA6b.out.store
                go_upto_region 18 with (refine wpList_store_row rfl 30 (.tmp 11) (.tmp 86) rfl g #[.int .i64 (pt.most : Int), .slice An nn cn, .int .i64 (pt.lost : Int)] rfl rfl 30 _ hat'.out p_info rfl (one3 _ _ _ _ _) ?_)
                generalize World.setRow _ _ _ = w8 at HA8 ⊢
                clear c0 c1 c2 h8 hat' HA6b
                obtain ⟨d0, d1, d2, d3, d4, d5, d6, d7, d8, d9, d10⟩ := cells11 (HA8.out.kp.is (t := Th.box g7 (.cells #[.int .i64 yk, .string yr, .string yu, .string yz, .string yt, .bool yp, .bool yo, .int .i64 ys, .int .i64 yy, .int .i64 yc, .int .i64 ym] 32 (0, 0))) (List.mem_cons_of_mem _ (List.mem_cons_of_mem _ (List.mem_cons_of_mem _ List.mem_cons_self))) : w8.heap[g7]? = _)
                have HTC8 := Lib.hid (HTC.out _ _ _ HA8.out.kp)
                go_wp2_with fail
                go_at_call 14
                refine HTC8.out.mono ?_
                rintro e w9 ⟨u2, rfl, v9, hk9⟩
                have hsm := sameEdus_any u2 (.slice Au nu cu) tl tl w9 (hk9.is List.mem_cons_self) (hk9.is (t := Th.row LE (.slice Au nu cu) tl) (List.mem_cons_of_mem _ (List.mem_cons_of_mem _ (List.mem_cons_of_mem _ List.mem_cons_self))))
                rw [sameL_self] at hsm
                have HSM := Lib.hid hsm
                have HA9 := Lib.hid (HA8.out.code0 hk9 (fun t ht => by
                  rcases List.mem_cons.1 ht with rfl | ht
                  · exact List.mem_cons_of_mem _ List.mem_cons_self
                  · rcases List.mem_cons.1 ht with rfl | ht
                    · exact List.mem_cons_of_mem _ (List.mem_cons_of_mem _ List.mem_cons_self)
                    · cases ht))
                obtain ⟨A2', c2', rfl, -⟩ := id (hk9.is List.mem_cons_self : LE.Slice w9 u2 tl)
                clear hk9 HA8 HTC HTC8 hsm d0 d1 d2 d3 d4 d5 d6 d7 d8 d9 d10
                go_wp2_with fail
                go_at_call 13
                refine HSM.out.mono ?_
                rintro e w10 ⟨rfl, hb⟩
                have HA11 := Lib.hid (HA9.out.later hb)
                have HFN := HFT
                clear hb HA9 HSM HFT HFP
                go_upto_region 25 with (fail)
                generalize hpp : pt = p3 at *
                have HNL : Hid (p3.l.length = nn) := HNN
                have HLL3 := Lib.hid (show p3.l.length ≤ 100000 by have := HFN.out.len; omega)
                have HLE := Lib.hid (fun W v ts (hk : Kp w W b v p3 ts) => pkLen_any hk.pk)
                have HLS := Lib.hid (fun W v ts (hk : Kp w W b v p3 ts) => pkLost_any hk.pk)
                rw [HNL.out] at HLE
                have HD := Lib.hid (HA11.out.later (below_drew _))
                refine wp_region_held_drew (S := fun W => ∃ v, Kp w W b v p3 (Th.box g (p3.box (.slice An nn cn)) :: Th.row LE (.slice An nn cn) p3.l :: [])) (by kernel_rfl) ⟨_, HD.out.kp⟩ (fun hHeld => ?_)
                generalize World.drew _ = wd at HD hHeld ⊢
                have HLO' := Lib.hid HD.out.lo
                have HOF := Lib.hid HD.out.off
                clear HA11 HD HNN
                refine wpAnyH_take (i := 0) (oi := ⟨some 118, _, _, _, _, _⟩) (v := ?vrr0) rfl (by kernel_rfl) (by kernel_rfl) (by kernel_rfl) (fun _ _ _ h => h) (Or.inl ⟨by rfl, ?yrr0⟩) hHeld ?rrr0
                case yrr0 =>
                  intro wx hSx
                  go_simp
                  try with_reducible rfl
                try simp only [Act.put, List.setIfInBounds_toArray, List.set_cons_zero, List.set_cons_succ]
                refine wpAnyH_take (i := 2) (oi := ⟨some 120, _, _, _, _, _⟩) (v := ?vrr2) rfl (by kernel_rfl) (by kernel_rfl) (by kernel_rfl) (fun _ _ _ h => h) (Or.inl ⟨by rfl, ?yrr2⟩) hHeld ?rrr2
                case yrr2 =>
                  intro wx hSx
                  go_simp
                  try with_reducible rfl
                try simp only [Act.put, List.setIfInBounds_toArray, List.set_cons_zero, List.set_cons_succ]
                refine wpAnyH_take (i := 3) (oi := ⟨some 121, _, _, _, _, _⟩) (v := ?vrr3) rfl (by kernel_rfl) (by kernel_rfl) (by kernel_rfl) (fun _ _ _ h => h) (Or.inl ⟨by rfl, ?yrr3⟩) hHeld ?rrr3
                case yrr3 =>
                  intro wx hSx
                  obtain ⟨v3, h3⟩ := hSx
                  obtain ⟨c0, c1, c2⟩ := cells3 (h3.is List.mem_cons_self : wx.heap[g]? = _)
                  go_simp
                  try with_reducible rfl
                try simp only [Act.put, List.setIfInBounds_toArray, List.set_cons_zero, List.set_cons_succ]
                refine wpAnyH_ready (rs := [1]) (by kernel_rfl) (by simp) ?_
                refine AllReadyH.cons (o := ⟨some 119, _, _, _, _, _⟩) rfl (fun K hK => ?_) AllReadyH.nil
                obtain ⟨v3, h3⟩ := hHeld
                have HC := h3.all_any HLL3.out
                go_simp
                refine HC.mono ?_
                rintro e wa ⟨u2, rfl, -, hk2⟩
                have hsm := sameEdus_any u2 (.slice An nn cn) p3.l p3.l wa (hk2.is List.mem_cons_self) (hk2.is (t := Th.row LE (.slice An nn cn) p3.l) (List.mem_cons_of_mem _ (List.mem_cons_of_mem _ List.mem_cons_self)))
                rw [sameL_self] at hsm
                have HSM := Lib.hid hsm
                refine hK.out _ _ ⟨_, hk2.less (fun t ht => List.mem_cons_of_mem _ ht)⟩ (fun hHeld => ?_)
                clear hK K hsm hk2 HC h3
                try simp only [Act.put, List.setIfInBounds_toArray, List.set_cons_zero, List.set_cons_succ]
                refine wpAnyH_ready (rs := [4]) (by kernel_rfl) (by simp) ?_
                refine AllReadyH.cons (o := ⟨some 122, _, _, _, _, _⟩) rfl (fun K hK => ?_) AllReadyH.nil
                obtain ⟨v3, h3⟩ := hHeld
                go_simp
                refine HSM.out.mono ?_
                rintro e wb ⟨rfl, hb⟩
                refine hK.out _ _ ⟨_, h3.later hb⟩ (fun hHeld => ?_)
                clear hK K hb HSM h3
                try simp only [Act.put, List.setIfInBounds_toArray, List.set_cons_zero, List.set_cons_succ]
                refine wpAnyH_take (i := 5) (oi := ⟨some 123, _, _, _, _, _⟩) (v := ?vrr5) rfl (by kernel_rfl) (by kernel_rfl) (by kernel_rfl) (fun _ _ _ h => h) (Or.inl ⟨by rfl, ?yrr5⟩) hHeld ?rrr5
                case yrr5 =>
                  intro wx hSx
                  go_simp
                  try with_reducible rfl
                try simp only [Act.put, List.setIfInBounds_toArray, List.set_cons_zero, List.set_cons_succ]
                refine wpAnyH_take (i := 6) (oi := ⟨some 124, _, _, _, _, _⟩) (v := ?vrr6) rfl (by kernel_rfl) (by kernel_rfl) (by kernel_rfl) (fun _ _ _ h => h) (Or.inl ⟨by rfl, ?yrr6⟩) hHeld ?rrr6
                case yrr6 =>
                  intro wx hSx
                  go_simp
                  try with_reducible rfl
                try simp only [Act.put, List.setIfInBounds_toArray, List.set_cons_zero, List.set_cons_succ]
                refine wpAnyH_take (i := 7) (oi := ⟨some 125, _, _, _, _, _⟩) (v := ?vrr7) rfl (by kernel_rfl) (by kernel_rfl) (by kernel_rfl) (fun _ _ _ h => h) (Or.inl ⟨by rfl, ?yrr7⟩) hHeld ?rrr7
                case yrr7 =>
                  intro wx hSx
                  go_simp
                  try with_reducible rfl
                try simp only [Act.put, List.setIfInBounds_toArray, List.set_cons_zero, List.set_cons_succ]
                refine wpAnyH_take (i := 9) (oi := ⟨some 127, _, _, _, _, _⟩) (v := ?vrr9) rfl (by kernel_rfl) (by kernel_rfl) (by kernel_rfl) (fun _ _ _ h => h) (Or.inl ⟨by rfl, ?yrr9⟩) hHeld ?rrr9
                case yrr9 =>
                  intro wx hSx
                  go_simp
                  try with_reducible rfl
                try simp only [Act.put, List.setIfInBounds_toArray, List.set_cons_zero, List.set_cons_succ]
                refine wpAnyH_take (i := 10) (oi := ⟨some 128, _, _, _, _, _⟩) (v := ?vrr10) rfl (by kernel_rfl) (by kernel_rfl) (by kernel_rfl) (fun _ _ _ h => h) (Or.inl ⟨by rfl, ?yrr10⟩) hHeld ?rrr10
                case yrr10 =>
                  intro wx hSx
                  obtain ⟨v3, h3⟩ := hSx
                  obtain ⟨c0, c1, c2⟩ := cells3 (h3.is List.mem_cons_self : wx.heap[g]? = _)
                  go_simp
                  try with_reducible rfl
                try simp only [Act.put, List.setIfInBounds_toArray, List.set_cons_zero, List.set_cons_succ]
                refine wpAnyH_take (i := 11) (oi := ⟨some 129, _, _, _, _, _⟩) (v := ?vrr11) rfl (by kernel_rfl) (by kernel_rfl) (by kernel_rfl) (fun _ _ _ h => h) (Or.inl ⟨by rfl, ?yrr11⟩) hHeld ?rrr11
                case yrr11 =>
                  intro wx hSx
                  go_simp
                  try with_reducible rfl
                try simp only [Act.put, List.setIfInBounds_toArray, List.set_cons_zero, List.set_cons_succ]
                refine wpAnyH_ready (rs := [8]) (by kernel_rfl) (by simp) ?_
                refine AllReadyH.cons (o := ⟨some 126, _, _, _, _, _⟩) rfl (fun K hK => ?_) AllReadyH.nil
                obtain ⟨v3, h3⟩ := hHeld
                go_simp
                refine (HLE.out _ _ _ h3).mono ?_
                rintro e wc ⟨rfl, hb⟩
                refine hK.out _ _ ⟨_, h3.later hb⟩ (fun hHeld => ?_)
                clear hK K hb h3
                try simp only [Act.put, List.setIfInBounds_toArray, List.set_cons_zero, List.set_cons_succ]
                refine wpAnyH_take (i := 12) (oi := ⟨some 130, _, _, _, _, _⟩) (v := ?vrr12) rfl (by kernel_rfl) (by kernel_rfl) (by kernel_rfl) (fun _ _ _ h => h) (Or.inl ⟨by rfl, ?yrr12⟩) hHeld ?rrr12
                case yrr12 =>
                  intro wx hSx
                  go_simp
                  try with_reducible rfl
                try simp only [Act.put, List.setIfInBounds_toArray, List.set_cons_zero, List.set_cons_succ]
                refine wpAnyH_take (i := 13) (oi := ⟨some 131, _, _, _, _, _⟩) (v := ?vrr13) rfl (by kernel_rfl) (by kernel_rfl) (by kernel_rfl) (fun _ _ _ h => h) (Or.inl ⟨by rfl, ?yrr13⟩) hHeld ?rrr13
                case yrr13 =>
                  intro wx hSx
                  go_simp
                  try with_reducible rfl
                try simp only [Act.put, List.setIfInBounds_toArray, List.set_cons_zero, List.set_cons_succ]
                refine wpAnyH_take (i := 14) (oi := ⟨some 132, _, _, _, _, _⟩) (v := ?vrr14) rfl (by kernel_rfl) (by kernel_rfl) (by kernel_rfl) (fun _ _ _ h => h) (Or.inl ⟨by rfl, ?yrr14⟩) hHeld ?rrr14
                case yrr14 =>
                  intro wx hSx
                  go_simp
                  try with_reducible rfl
                try simp only [Act.put, List.setIfInBounds_toArray, List.set_cons_zero, List.set_cons_succ]
                refine wpAnyH_take (i := 15) (oi := ⟨some 133, _, _, _, _, _⟩) (v := ?vrr15) rfl (by kernel_rfl) (by kernel_rfl) (by kernel_rfl) (fun _ _ _ h => h) (Or.inl ⟨by rfl, ?yrr15⟩) hHeld ?rrr15
                case yrr15 =>
                  intro wx hSx
                  go_simp
                  try with_reducible rfl
                try simp only [Act.put, List.setIfInBounds_toArray, List.set_cons_zero, List.set_cons_succ]
                refine wpAnyH_take (i := 17) (oi := ⟨some 135, _, _, _, _, _⟩) (v := ?vrr17) rfl (by kernel_rfl) (by kernel_rfl) (by kernel_rfl) (fun _ _ _ h => h) (Or.inl ⟨by rfl, ?yrr17⟩) hHeld ?rrr17
                case yrr17 =>
                  intro wx hSx
                  go_simp
                  try with_reducible rfl
                try simp only [Act.put, List.setIfInBounds_toArray, List.set_cons_zero, List.set_cons_succ]
                refine wpAnyH_take (i := 18) (oi := ⟨some 136, _, _, _, _, _⟩) (v := ?vrr18) rfl (by kernel_rfl) (by kernel_rfl) (by kernel_rfl) (fun _ _ _ h => h) (Or.inl ⟨by rfl, ?yrr18⟩) hHeld ?rrr18
                case yrr18 =>
                  intro wx hSx
                  obtain ⟨v3, h3⟩ := hSx
                  obtain ⟨c0, c1, c2⟩ := cells3 (h3.is List.mem_cons_self : wx.heap[g]? = _)
                  go_simp
                  try with_reducible rfl
                try simp only [Act.put, List.setIfInBounds_toArray, List.set_cons_zero, List.set_cons_succ]
                refine wpAnyH_ready (rs := [16]) (by kernel_rfl) (by simp) ?_
                refine AllReadyH.cons (o := ⟨some 134, _, _, _, _, _⟩) rfl (fun K hK => ?_) AllReadyH.nil
                obtain ⟨v3, h3⟩ := hHeld
                go_simp
                refine (HLS.out _ _ _ h3).mono ?_
                rintro e we ⟨rfl, hb⟩
                refine hK.out _ _ ⟨_, h3.later hb⟩ (fun hHeld => ?_)
                clear hK K hb h3
                try simp only [Act.put, List.setIfInBounds_toArray, List.set_cons_zero, List.set_cons_succ]
                refine wpAnyH_take (i := 19) (oi := ⟨some 137, _, _, _, _, _⟩) (v := ?vrr19) rfl (by kernel_rfl) (by kernel_rfl) (by kernel_rfl) (fun _ _ _ h => h) (Or.inl ⟨by rfl, ?yrr19⟩) hHeld ?rrr19
                case yrr19 =>
                  intro wx hSx
                  go_simp
                  try with_reducible rfl
                try simp only [Act.put, List.setIfInBounds_toArray, List.set_cons_zero, List.set_cons_succ]
                refine wpAnyH_take (i := 20) (oi := ⟨some 138, _, _, _, _, _⟩) (v := ?vrr20) rfl (by kernel_rfl) (by kernel_rfl) (by kernel_rfl) (fun _ _ _ h => h) (Or.inl ⟨by rfl, ?yrr20⟩) hHeld ?rrr20
                case yrr20 =>
                  intro wx hSx
                  go_simp
                  try with_reducible rfl
                try simp only [Act.put, List.setIfInBounds_toArray, List.set_cons_zero, List.set_cons_succ]
                refine wpAnyH_done (by kernel_rfl) ?_ _
                obtain ⟨v3, h3⟩ := hHeld
                have HS9 : Hid (∃ v vd p, Bo w we b v p g vd p [] ∧ FitP p m (a + 1)) := Lib.hid ⟨v3, _, p3, ⟨h3, HOF.out, HLO'.out, fun t ht => (by cases ht)⟩, HFN.out⟩
                clear h3 HLE HLS HLO' HOF
                go_wp2_with fail
                refine ⟨⟨a + 1, by go_num, by omega, by omega, HS9⟩, ?_⟩
                simp [intOf]; omega
            · have q7 : decide ((a : Int) < (nt : Int)) = false := decide_eq_false (by omega)
              go_upto_region 20 with (fail)
              obtain ⟨d0, d1, d2, d3, d4, d5, d6, d7, d8, d9, d10⟩ := cells11 (HA5.out.kp.is (t := Th.box g7 (.cells #[.int .i64 yk, .string yr, .string yu, .string yz, .string yt, .bool yp, .bool yo, .int .i64 ys, .int .i64 yy, .int .i64 yc, .int .i64 ym] 32 (0, 0))) (List.mem_cons_of_mem _ (List.mem_cons_of_mem _ List.mem_cons_self)) : (World.heap _)[g7]? = _)
              obtain ⟨c0, c1, c2⟩ := cells3 HA5.out.at
              have HPD5 := Lib.hid (HPD.out _ _ HA5.out.row)
              clear HTD HTC
              go_wp2_with fail
              go_at_call 15
              refine HPD5.out.mono ?_
              rintro e w6 ⟨vn, rfl, hd, hb⟩
              have HA6 := Lib.hid (HA5.out.doc hd hb)
              clear hd hb HPD HPD5 HA5 d0 d1 d2 d3 d4 d5 d6 d7 d8 d9 d10 c0 c1 c2
              obtain ⟨An, cn, rfl, -⟩ := id HA6.out.row
              obtain ⟨nn, hnn⟩ : ∃ n, p2.l.length = n := ⟨_, rfl⟩
              rw [hnn] at HA6 ⊢
              have HNN := Lib.hid hnn
              clear hnn
              obtain ⟨zk, zr, zu, zz, zt, zp, zo, zs, zy, zc, zm⟩ := ge
              simp only [Edu.val] at *
              have h8 := heap_alloc_new w6 (.cells #[.int .i64 (p2.most : Int), .slice An nn cn, .int .i64 (p2.lost : Int)] 30)
              have h9 := heap_alloc_new (w6.alloc (.cells #[.int .i64 (p2.most : Int), .slice An nn cn, .int .i64 (p2.lost : Int)] 30)) (.cells #[.int .i64 zk, .string zr, .string zu, .string zz, .string zt, .bool zp, .bool zo, .int .i64 zs, .int .i64 zy, .int .i64 zc, .int .i64 zm] 32)
              have h89 := heap_push _ (.cells #[.int .i64 zk, .string zr, .string zu, .string zz, .string zt, .bool zp, .bool zo, .int .i64 zs, .int .i64 zy, .int .i64 zc, .int .i64 zm] 32) h8
              have hs9 := size_alloc1 w6 (.cells #[.int .i64 (p2.most : Int), .slice An nn cn, .int .i64 (p2.lost : Int)] 30)
              have HA6b := Lib.hid ((HA6.out.later (below_new w6 (.cells #[.int .i64 (p2.most : Int), .slice An nn cn, .int .i64 (p2.lost : Int)] 30))).add (below_new _ (.cells #[.int .i64 zk, .string zr, .string zu, .string zz, .string zt, .bool zp, .bool zo, .int .i64 zs, .int .i64 zy, .int .i64 zc, .int .i64 zm] 32)) (t := Th.box _ (.cells #[.int .i64 zk, .string zr, .string zu, .string zz, .string zt, .bool zp, .bool zo, .int .i64 zs, .int .i64 zy, .int .i64 zc, .int .i64 zm] 32 (0, 0))) h9 (fun k hk => Nat.le_of_eq hk.symm))
              rw [hs9] at HA6b
              clear h8 h9 hs9 HA6
              go_upto_region 21 with (fail)
              generalize World.alloc _ _ = w7 at HA6b h89 ⊢
              generalize w6.heap.size + 1 = g17 at HA6b ⊢
              generalize w6.heap.size = g16 at h89 ⊢
              obtain ⟨c0, c1, c2⟩ := cells3 h89
              have hat' := Lib.hid HA6b.out.at
              have HA8 := Lib.hid HA6b.out.store
              go_upto_region 22 with (refine wpList_store_row rfl 30 (.tmp 11) (.tmp 103) rfl g #[.int .i64 (p2.most : Int), .slice An nn cn, .int .i64 (p2.lost : Int)] rfl rfl 30 _ hat'.out p_info rfl (one3 _ _ _ _ _) ?_)
              generalize World.setRow _ _ _ = w8 at HA8 ⊢
              clear c0 c1 c2 h89 hat' HA6b
              obtain ⟨d0, d1, d2, d3, d4, d5, d6, d7, d8, d9, d10⟩ := cells11 (HA8.out.kp.is (t := Th.box g7 (.cells #[.int .i64 yk, .string yr, .string yu, .string yz, .string yt, .bool yp, .bool yo, .int .i64 ys, .int .i64 yy, .int .i64 yc, .int .i64 ym] 32 (0, 0))) (List.mem_cons_of_mem _ (List.mem_cons_of_mem _ (List.mem_cons_of_mem _ List.mem_cons_self))) : w8.heap[g7]? = _)
              have HPC8 := Lib.hid (HPC.out _ _ _ HA8.out.kp)
              go_wp2_with fail
              go_at_call 16
              refine HPC8.out.mono ?_
              rintro e w9 ⟨rfl, v9, hk9⟩
              have HA9 := Lib.hid (HA8.out.code hk9)
              have h19 := heap_alloc_new w9 (.cells #[.int .i64 zk, .string zr, .string zu, .string zz, .string zt, .bool zp, .bool zo, .int .i64 zs, .int .i64 zy, .int .i64 zc, .int .i64 zm] 32)
              have HA10 := Lib.hid (HA9.out.later (below_new w9 (.cells #[.int .i64 zk, .string zr, .string zu, .string zz, .string zt, .bool zp, .bool zo, .int .i64 zs, .int .i64 zy, .int .i64 zc, .int .i64 zm] 32)))
              clear hk9 HA8 HA9 HPC HPC8 d0 d1 d2 d3 d4 d5 d6 d7 d8 d9 d10
              go_upto_region 23 with (fail)
              generalize World.alloc _ _ = w10 at h19 HA10 ⊢
              generalize w9.heap.size = g19 at h19 ⊢
              obtain ⟨d0, d1, d2, d3, d4, d5, d6, d7, d8, d9, d10⟩ := cells11 h19
              obtain ⟨c0, c1, c2, c3, c4, c5, c6, c7, c8, c9, c10⟩ := cells11 (HA10.out.kp.is (t := Th.box g17 (.cells #[.int .i64 zk, .string zr, .string zu, .string zz, .string zt, .bool zp, .bool zo, .int .i64 zs, .int .i64 zy, .int .i64 zc, .int .i64 zm] 32 (0, 0))) (List.mem_cons_of_mem _ (List.mem_cons_of_mem _ List.mem_cons_self)) : w10.heap[g17]? = _)
              have hbn : (gb != gb) = false := bne_self_eq_false gb
              have HA11 := Lib.hid (HA10.out.less (ts' := []) (fun t ht => by cases ht))
              have HFN := HFP
              clear HA10 h19 HFT HFP
              go_upto_region 25 with (fail)
              clear d0 d1 d2 d3 d4 d5 d6 d7 d8 d9 d10 c0 c1 c2 c3 c4 c5 c6 c7 c8 c9 c10 hbn heqg
              generalize hpp : p2 = p3 at *
              have HNL : Hid (p3.l.length = nn) := HNN
              have HLL3 := Lib.hid (show p3.l.length ≤ 100000 by have := HFN.out.len; omega)
              have HLE := Lib.hid (fun W v ts (hk : Kp w W b v p3 ts) => pkLen_any hk.pk)
              have HLS := Lib.hid (fun W v ts (hk : Kp w W b v p3 ts) => pkLost_any hk.pk)
              rw [HNL.out] at HLE
              have HD := Lib.hid (HA11.out.later (below_drew _))
              refine wp_region_held_drew (S := fun W => ∃ v, Kp w W b v p3 (Th.box g (p3.box (.slice An nn cn)) :: Th.row LE (.slice An nn cn) p3.l :: [])) (by kernel_rfl) ⟨_, HD.out.kp⟩ (fun hHeld => ?_)
              generalize World.drew _ = wd at HD hHeld ⊢
              have HLO' := Lib.hid HD.out.lo
              have HOF := Lib.hid HD.out.off
              clear HA11 HD HNN
              refine wpAnyH_take (i := 0) (oi := ⟨some 118, _, _, _, _, _⟩) (v := ?vrs0) rfl (by kernel_rfl) (by kernel_rfl) (by kernel_rfl) (fun _ _ _ h => h) (Or.inl ⟨by rfl, ?yrs0⟩) hHeld ?rrs0
              case yrs0 =>
                intro wx hSx
                go_simp
                try with_reducible rfl
              try simp only [Act.put, List.setIfInBounds_toArray, List.set_cons_zero, List.set_cons_succ]
              refine wpAnyH_take (i := 2) (oi := ⟨some 120, _, _, _, _, _⟩) (v := ?vrs2) rfl (by kernel_rfl) (by kernel_rfl) (by kernel_rfl) (fun _ _ _ h => h) (Or.inl ⟨by rfl, ?yrs2⟩) hHeld ?rrs2
              case yrs2 =>
                intro wx hSx
                go_simp
                try with_reducible rfl
              try simp only [Act.put, List.setIfInBounds_toArray, List.set_cons_zero, List.set_cons_succ]
              refine wpAnyH_take (i := 3) (oi := ⟨some 121, _, _, _, _, _⟩) (v := ?vrs3) rfl (by kernel_rfl) (by kernel_rfl) (by kernel_rfl) (fun _ _ _ h => h) (Or.inl ⟨by rfl, ?yrs3⟩) hHeld ?rrs3
              case yrs3 =>
                intro wx hSx
                obtain ⟨v3, h3⟩ := hSx
                obtain ⟨c0, c1, c2⟩ := cells3 (h3.is List.mem_cons_self : wx.heap[g]? = _)
                go_simp
                try with_reducible rfl
              try simp only [Act.put, List.setIfInBounds_toArray, List.set_cons_zero, List.set_cons_succ]
              refine wpAnyH_ready (rs := [1]) (by kernel_rfl) (by simp) ?_
              refine AllReadyH.cons (o := ⟨some 119, _, _, _, _, _⟩) rfl (fun K hK => ?_) AllReadyH.nil
              obtain ⟨v3, h3⟩ := hHeld
              have HC := h3.all_any HLL3.out
              go_simp
              refine HC.mono ?_
              rintro e wa ⟨u2, rfl, -, hk2⟩
              have hsm := sameEdus_any u2 (.slice An nn cn) p3.l p3.l wa (hk2.is List.mem_cons_self) (hk2.is (t := Th.row LE (.slice An nn cn) p3.l) (List.mem_cons_of_mem _ (List.mem_cons_of_mem _ List.mem_cons_self)))
              rw [sameL_self] at hsm
              have HSM := Lib.hid hsm
              refine hK.out _ _ ⟨_, hk2.less (fun t ht => List.mem_cons_of_mem _ ht)⟩ (fun hHeld => ?_)
              clear hK K hsm hk2 HC h3
              try simp only [Act.put, List.setIfInBounds_toArray, List.set_cons_zero, List.set_cons_succ]
              refine wpAnyH_ready (rs := [4]) (by kernel_rfl) (by simp) ?_
              refine AllReadyH.cons (o := ⟨some 122, _, _, _, _, _⟩) rfl (fun K hK => ?_) AllReadyH.nil
              obtain ⟨v3, h3⟩ := hHeld
              go_simp
              refine HSM.out.mono ?_
              rintro e wb ⟨rfl, hb⟩
              refine hK.out _ _ ⟨_, h3.later hb⟩ (fun hHeld => ?_)
              clear hK K hb HSM h3
              try simp only [Act.put, List.setIfInBounds_toArray, List.set_cons_zero, List.set_cons_succ]
              refine wpAnyH_take (i := 5) (oi := ⟨some 123, _, _, _, _, _⟩) (v := ?vrs5) rfl (by kernel_rfl) (by kernel_rfl) (by kernel_rfl) (fun _ _ _ h => h) (Or.inl ⟨by rfl, ?yrs5⟩) hHeld ?rrs5
              case yrs5 =>
                intro wx hSx
                go_simp
                try with_reducible rfl
              try simp only [Act.put, List.setIfInBounds_toArray, List.set_cons_zero, List.set_cons_succ]
              refine wpAnyH_take (i := 6) (oi := ⟨some 124, _, _, _, _, _⟩) (v := ?vrs6) rfl (by kernel_rfl) (by kernel_rfl) (by kernel_rfl) (fun _ _ _ h => h) (Or.inl ⟨by rfl, ?yrs6⟩) hHeld ?rrs6
              case yrs6 =>
                intro wx hSx
                go_simp
                try with_reducible rfl
              try simp only [Act.put, List.setIfInBounds_toArray, List.set_cons_zero, List.set_cons_succ]
              refine wpAnyH_take (i := 7) (oi := ⟨some 125, _, _, _, _, _⟩) (v := ?vrs7) rfl (by kernel_rfl) (by kernel_rfl) (by kernel_rfl) (fun _ _ _ h => h) (Or.inl ⟨by rfl, ?yrs7⟩) hHeld ?rrs7
              case yrs7 =>
                intro wx hSx
                go_simp
                try with_reducible rfl
              try simp only [Act.put, List.setIfInBounds_toArray, List.set_cons_zero, List.set_cons_succ]
              refine wpAnyH_take (i := 9) (oi := ⟨some 127, _, _, _, _, _⟩) (v := ?vrs9) rfl (by kernel_rfl) (by kernel_rfl) (by kernel_rfl) (fun _ _ _ h => h) (Or.inl ⟨by rfl, ?yrs9⟩) hHeld ?rrs9
              case yrs9 =>
                intro wx hSx
                go_simp
                try with_reducible rfl
              try simp only [Act.put, List.setIfInBounds_toArray, List.set_cons_zero, List.set_cons_succ]
              refine wpAnyH_take (i := 10) (oi := ⟨some 128, _, _, _, _, _⟩) (v := ?vrs10) rfl (by kernel_rfl) (by kernel_rfl) (by kernel_rfl) (fun _ _ _ h => h) (Or.inl ⟨by rfl, ?yrs10⟩) hHeld ?rrs10
              case yrs10 =>
                intro wx hSx
                obtain ⟨v3, h3⟩ := hSx
                obtain ⟨c0, c1, c2⟩ := cells3 (h3.is List.mem_cons_self : wx.heap[g]? = _)
                go_simp
                try with_reducible rfl
              try simp only [Act.put, List.setIfInBounds_toArray, List.set_cons_zero, List.set_cons_succ]
              refine wpAnyH_take (i := 11) (oi := ⟨some 129, _, _, _, _, _⟩) (v := ?vrs11) rfl (by kernel_rfl) (by kernel_rfl) (by kernel_rfl) (fun _ _ _ h => h) (Or.inl ⟨by rfl, ?yrs11⟩) hHeld ?rrs11
              case yrs11 =>
                intro wx hSx
                go_simp
                try with_reducible rfl
              try simp only [Act.put, List.setIfInBounds_toArray, List.set_cons_zero, List.set_cons_succ]
              refine wpAnyH_ready (rs := [8]) (by kernel_rfl) (by simp) ?_
              refine AllReadyH.cons (o := ⟨some 126, _, _, _, _, _⟩) rfl (fun K hK => ?_) AllReadyH.nil
              obtain ⟨v3, h3⟩ := hHeld
              go_simp
              refine (HLE.out _ _ _ h3).mono ?_
              rintro e wc ⟨rfl, hb⟩
              refine hK.out _ _ ⟨_, h3.later hb⟩ (fun hHeld => ?_)
              clear hK K hb h3
              try simp only [Act.put, List.setIfInBounds_toArray, List.set_cons_zero, List.set_cons_succ]
              refine wpAnyH_take (i := 12) (oi := ⟨some 130, _, _, _, _, _⟩) (v := ?vrs12) rfl (by kernel_rfl) (by kernel_rfl) (by kernel_rfl) (fun _ _ _ h => h) (Or.inl ⟨by rfl, ?yrs12⟩) hHeld ?rrs12
              case yrs12 =>
                intro wx hSx
                go_simp
                try with_reducible rfl
              try simp only [Act.put, List.setIfInBounds_toArray, List.set_cons_zero, List.set_cons_succ]
              refine wpAnyH_take (i := 13) (oi := ⟨some 131, _, _, _, _, _⟩) (v := ?vrs13) rfl (by kernel_rfl) (by kernel_rfl) (by kernel_rfl) (fun _ _ _ h => h) (Or.inl ⟨by rfl, ?yrs13⟩) hHeld ?rrs13
              case yrs13 =>
                intro wx hSx
                go_simp
                try with_reducible rfl
              try simp only [Act.put, List.setIfInBounds_toArray, List.set_cons_zero, List.set_cons_succ]
              refine wpAnyH_take (i := 14) (oi := ⟨some 132, _, _, _, _, _⟩) (v := ?vrs14) rfl (by kernel_rfl) (by kernel_rfl) (by kernel_rfl) (fun _ _ _ h => h) (Or.inl ⟨by rfl, ?yrs14⟩) hHeld ?rrs14
              case yrs14 =>
                intro wx hSx
                go_simp
                try with_reducible rfl
              try simp only [Act.put, List.setIfInBounds_toArray, List.set_cons_zero, List.set_cons_succ]
              refine wpAnyH_take (i := 15) (oi := ⟨some 133, _, _, _, _, _⟩) (v := ?vrs15) rfl (by kernel_rfl) (by kernel_rfl) (by kernel_rfl) (fun _ _ _ h => h) (Or.inl ⟨by rfl, ?yrs15⟩) hHeld ?rrs15
              case yrs15 =>
                intro wx hSx
                go_simp
                try with_reducible rfl
              try simp only [Act.put, List.setIfInBounds_toArray, List.set_cons_zero, List.set_cons_succ]
              refine wpAnyH_take (i := 17) (oi := ⟨some 135, _, _, _, _, _⟩) (v := ?vrs17) rfl (by kernel_rfl) (by kernel_rfl) (by kernel_rfl) (fun _ _ _ h => h) (Or.inl ⟨by rfl, ?yrs17⟩) hHeld ?rrs17
              case yrs17 =>
                intro wx hSx
                go_simp
                try with_reducible rfl
              try simp only [Act.put, List.setIfInBounds_toArray, List.set_cons_zero, List.set_cons_succ]
              refine wpAnyH_take (i := 18) (oi := ⟨some 136, _, _, _, _, _⟩) (v := ?vrs18) rfl (by kernel_rfl) (by kernel_rfl) (by kernel_rfl) (fun _ _ _ h => h) (Or.inl ⟨by rfl, ?yrs18⟩) hHeld ?rrs18
              case yrs18 =>
                intro wx hSx
                obtain ⟨v3, h3⟩ := hSx
                obtain ⟨c0, c1, c2⟩ := cells3 (h3.is List.mem_cons_self : wx.heap[g]? = _)
                go_simp
                try with_reducible rfl
              try simp only [Act.put, List.setIfInBounds_toArray, List.set_cons_zero, List.set_cons_succ]
              refine wpAnyH_ready (rs := [16]) (by kernel_rfl) (by simp) ?_
              refine AllReadyH.cons (o := ⟨some 134, _, _, _, _, _⟩) rfl (fun K hK => ?_) AllReadyH.nil
              obtain ⟨v3, h3⟩ := hHeld
              go_simp
              refine (HLS.out _ _ _ h3).mono ?_
              rintro e we ⟨rfl, hb⟩
              refine hK.out _ _ ⟨_, h3.later hb⟩ (fun hHeld => ?_)
              clear hK K hb h3
              try simp only [Act.put, List.setIfInBounds_toArray, List.set_cons_zero, List.set_cons_succ]
              refine wpAnyH_take (i := 19) (oi := ⟨some 137, _, _, _, _, _⟩) (v := ?vrs19) rfl (by kernel_rfl) (by kernel_rfl) (by kernel_rfl) (fun _ _ _ h => h) (Or.inl ⟨by rfl, ?yrs19⟩) hHeld ?rrs19
              case yrs19 =>
                intro wx hSx
                go_simp
                try with_reducible rfl
              try simp only [Act.put, List.setIfInBounds_toArray, List.set_cons_zero, List.set_cons_succ]
              refine wpAnyH_take (i := 20) (oi := ⟨some 138, _, _, _, _, _⟩) (v := ?vrs20) rfl (by kernel_rfl) (by kernel_rfl) (by kernel_rfl) (fun _ _ _ h => h) (Or.inl ⟨by rfl, ?yrs20⟩) hHeld ?rrs20
              case yrs20 =>
                intro wx hSx
                go_simp
                try with_reducible rfl
              try simp only [Act.put, List.setIfInBounds_toArray, List.set_cons_zero, List.set_cons_succ]
              refine wpAnyH_done (by kernel_rfl) ?_ _
              obtain ⟨v3, h3⟩ := hHeld
              have HS9 : Hid (∃ v vd p, Bo w we b v p g vd p [] ∧ FitP p m (a + 1)) := Lib.hid ⟨v3, _, p3, ⟨h3, HOF.out, HLO'.out, fun t ht => (by cases ht)⟩, HFN.out⟩
              clear h3 HLE HLS HLO' HOF
              go_wp2_with fail
              refine ⟨⟨a + 1, by go_num, by omega, by omega, HS9⟩, ?_⟩
              simp [intOf]; omega
          · have HBX := Lib.hid HA.out.kp.below
            by_cases hal : a < l.length
            · have q3 : decide ((a : Int) < (l.length : Int)) = true := decide_eq_true (by omega)
              have q4 : decide ((a : Int) < 16) = false := decide_eq_false (by omega)
              go_wp2_with fail
              refine ⟨⟨0 + 1, by go_num, by omega, HBX⟩, ?_⟩
              simp [intOf]
            · have q3 : decide ((a : Int) < (l.length : Int)) = false := decide_eq_false (by omega)
              go_wp2_with fail
              refine ⟨⟨0 + 1, by go_num, by omega, HBX⟩, ?_⟩
              simp [intOf]
      · skip
        go_wp2_with fail
        go_at_call 9
        refine (HNY.out _).mono ?_
        rintro e w2 ⟨b, rfl, hk⟩
        have HBo := Lib.hid (HBS.out _ _ (hk.rebase HB.out))
        clear hk HB
        go_upto_region 9 with (fail)
        generalize World.alloc _ _ = w3 at HBo ⊢
        generalize w2.heap.size = g at HBo ⊢
        have HB1 : Hid (∃ v vd p, Bo w w3 b v p g vd p [] ∧ FitP p m 0) := Lib.hid ⟨_, _, _, HBo.out, FitP.start m⟩
        clear HBo
        go_wp2_with fail
        go_loopw [12, 13, 14, 15, 16, 17, 18, 19, 20] (fun i _ _ _ _ _ _ _ _ wr => ∃ a : Nat, i = .int .i64 (a : Int) ∧ a ≤ l.length ∧ a ≤ 16 ∧ Hid (∃ v vd p, Bo w wr b v p g vd p [] ∧ FitP p m a)) (fun i _ _ _ _ _ _ _ _ _ => l.length - (intOf i).toNat)
        case atStart => exact ⟨0, rfl, Nat.zero_le _, Nat.zero_le _, HB1⟩
        case round =>
          obtain ⟨a, rfl, ha, ha16, HS⟩ := hrel
          clear HB1
          obtain ⟨v, vd, p, hBo, hF⟩ := HS.out
          have HA := Lib.hid hBo
          have HF := Lib.hid hF
          clear hBo hF HS
          have HLL := Lib.hid (show p.l.length ≤ 100000 by have := HF.out.len; omega)
          have HLO := Lib.hid (show p.lost ≤ 100000 by have := HF.out.lost; omega)
          have HMO := Lib.hid (show p.most ≤ 100000 by have := HF.out.most; omega)
          have goOn : (a < l.length ∧ a < 16) ∨ ¬ (a < l.length ∧ a < 16) := Classical.em _
          rcases goOn with ⟨hal, hat⟩ | hno
          · have q3 : decide ((a : Int) < (l.length : Int)) = true := decide_eq_true (by omega)
            have q4 : decide ((a : Int) < 16) = true := decide_eq_true (by omega)
            have hx : l[a]? = some l[a] := List.getElem?_eq_getElem hal
            generalize l[a] = x at hx
            have hxw := HWF.out x (List.mem_of_getElem? hx)
            have HWT := Lib.hid (fun W => waits_any x W hxw)
            have HFW := Lib.hid (fun W => refFew_any x W hxw.2.1 hxw.2.2.1 hxw.2.2.2.1 hxw.2.2.2.2)
            have HB1x := Lib.hid (wait_brief x)
            have HB2x := Lib.hid (few_brief x)
            obtain ⟨bo, oo, rfl, hbo, hco⟩ := (HR.out.below HA.out.kp.below).at hx
            have hiy := index_any (P := Try.prog) knE (by decide) (b := bo) (off := oo) (cap := cap) hal
            have HXX := Lib.hid (fun (W : World) (hb : Below w.heap.size w W) => show W.rangeAt bo (oo + a * 11) (Edu.cells x) from by
              obtain ⟨bo2, oo2, e1, -, hco2⟩ := (HR.out.below hb).at hx
              injection e1 with e1
              injection e1 with e2 e3 _
              subst e2 e3
              simpa [LE] using hco2)
            simp only [LE] at hiy hco
            clear hx hxw
            obtain ⟨y0, hy0⟩ : ∃ y, waitE x = y := ⟨_, rfl⟩
            obtain ⟨y1, hy1⟩ : ∃ y, fewE x = y := ⟨_, rfl⟩
            rw [hy0] at HWT HB1x
            rw [hy1] at HFW HB2x
            clear hy0 hy1
            clear HB1x
            obtain ⟨jk, jr, ju, jz, jt, jp, jo, js, jy, jc, jm⟩ := y0
            have hcx := range11 hco
            obtain ⟨a0, a1, a2, a3, a4, a5, a6', a7, a8, a9, a10⟩ := hcx
            clear hco
            unfold Edu.val at HWT
            go_wp2_with fail
            go_at_call 10
            refine (HWT.out _).mono ?_
            rintro e w4 ⟨rfl, hb⟩
            have HA4 := Lib.hid (HA.out.later hb)
            have HN7 := heap_alloc_new w4 (.cells #[.int .i64 jk, .string jr, .string ju, .string jz, .string jt, .bool jp, .bool jo, .int .i64 js, .int .i64 jy, .int .i64 jc, .int .i64 jm] 32)
            have HA5 := Lib.hid (HA4.out.add (below_new w4 (.cells #[.int .i64 jk, .string jr, .string ju, .string jz, .string jt, .bool jp, .bool jo, .int .i64 js, .int .i64 jy, .int .i64 jc, .int .i64 jm] 32)) (t := Th.box w4.heap.size (.cells #[.int .i64 jk, .string jr, .string ju, .string jz, .string jt, .bool jp, .bool jo, .int .i64 js, .int .i64 jy, .int .i64 jc, .int .i64 jm] 32 (0, 0))) HN7 (fun k hk => Nat.le_of_eq hk.symm))
            have HNX : Hid (w.heap.size ≤ w4.heap.size ∧ ∀ t ∈ [Th.box g (p.box vd), Th.row LE vd p.l], ¬ t.P w4.heap.size) := Lib.hid ⟨HA4.out.kp.below.size, fun t ht hp => by
              have h2 := t.lt w4 _ (HA4.out.kp.is ht) hp
              omega⟩
            clear hb HWT a0 a1 a2 a3 a4 a5 a6' a7 a8 a9 a10 HA HA4 HN7
            go_upto_region 13 with (fail)
            generalize World.alloc _ _ = w5 at HA5 ⊢
            generalize w4.heap.size = g7 at HA5 HNX ⊢
            go_upto_region 14 with (fail)
            obtain ⟨a0, a1, a2, a3, a4, a5, a6', a7, a8, a9, a10⟩ := range11 (HXX.out _ HA5.out.kp.below)
            go_wp2_with fail
            go_at_call 11
            refine (HFW.out _).mono ?_
            rintro e w6 ⟨rfl, hb⟩
            have HA6 := Lib.hid (HA5.out.later hb)
            clear hb HFW a0 a1 a2 a3 a4 a5 a6' a7 a8 a9 a10 HA5
            have HPC := Lib.hid (fun (W : World) v ts (hk : Kp w W b v p ts) => hk.put_any y1 HB2x.out HLL.out HLO.out HMO.out)
            have HPD := Lib.hid (fun (W : World) vd (hr : LE.Slice W vd p.l) => docPut_any hr y1 HLL.out HLO.out HMO.out)
            have HFP := Lib.hid (HF.out.put y1)
            have heqg := fun w => eql_edu (p.gone y1) (p.gone y1) w
            rw [eqE_self] at heqg
            generalize Pk.put p y1 = p2 at HPC HPD HFP
            generalize Pk.gone p y1 = ge at HPC HPD heqg
            generalize Pk.goes p y1 = gb at HPC HPD
            clear HB2x
            obtain ⟨yk, yr, yu, yz, yt, yp, yo, ys, yy, yc, ym⟩ := y1
            simp only [Edu.val] at *
            have HX6 : Hid (w6.heap[g7]? = some (.cells #[.int .i64 jk, .string jr, .string ju, .string jz, .string jt, .bool jp, .bool jo, .int .i64 js, .int .i64 jy, .int .i64 jc, .int .i64 jm] 32 (0, 0))) := Lib.hid (HA6.out.kp.is (t := Th.box g7 (.cells #[.int .i64 jk, .string jr, .string ju, .string jz, .string jt, .bool jp, .bool jo, .int .i64 js, .int .i64 jy, .int .i64 jc, .int .i64 jm] 32 (0, 0))) (List.mem_cons_of_mem _ (List.mem_cons_of_mem _ List.mem_cons_self)))
            have HA5 := Lib.hid (HA6.out.turnBox (cs' := #[.int .i64 yk, .string yr, .string yu, .string yz, .string yt, .bool yp, .bool yo, .int .i64 ys, .int .i64 yy, .int .i64 yc, .int .i64 ym]) HNX.out.1 HNX.out.2)
            clear HA6
            go_upto_region 15 with (refine wpList_store_row rfl 32 (.tmp 13) (.tmp 62) rfl g7 #[.int .i64 yk, .string yr, .string yu, .string yz, .string yt, .bool yp, .bool yo, .int .i64 ys, .int .i64 yy, .int .i64 yc, .int .i64 ym] rfl rfl 32 _ HX6.out edu_info rfl (one11 _ _ _ _ _ _ _ _ _ _ _) ?_)
            generalize World.setRow _ _ _ = w7 at HA5 ⊢
            clear HX6 HNX
            have HFTk := Lib.hid (HF.out.take yr yz)
            have HTC := Lib.hid (fun (W : World) v ts (hk : Kp w W b v p ts) => hk.take_any yr yz HLL.out)
            have HTD := Lib.hid (fun (W : World) vd (hr : LE.Slice W vd p.l) => docTake_any hr yr yz HLL.out)
            have HFT := HFTk
            generalize p.took yr yz = tl at HTC HTD
            generalize p.take yr yz = pt at HTC HTD HFT
            clear HFTk
            by_cases haf : a < nt
            · have q7 : decide ((a : Int) < (nt : Int)) = true := decide_eq_true (by omega)
              have hmn : min (a : Int) ((nt : Int) - 1) = (a : Int) := by omega
              obtain ⟨f, hf⟩ : ∃ f, tks[a]? = some f := ⟨_, List.getElem?_eq_getElem (by rw [HNT.out]; exact haf)⟩
              obtain ⟨bt, ot, hbt, hbl, hcf⟩ := (HRT.out.below HA5.out.kp.below).at hf
              subst hbt
              have hiz := index_any (P := Try.prog) knB (by decide) (b := bt) (off := ot) (cap := ct) haf
              simp only [LB, Nat.mul_one] at hiz hcf
              have cf := hcf 0 _ rfl
              rw [Nat.add_zero] at cf
              clear hf hcf
              cases f
              · skip
                go_upto_region 20 with (fail)
                obtain ⟨d0, d1, d2, d3, d4, d5, d6, d7, d8, d9, d10⟩ := cells11 (HA5.out.kp.is (t := Th.box g7 (.cells #[.int .i64 yk, .string yr, .string yu, .string yz, .string yt, .bool yp, .bool yo, .int .i64 ys, .int .i64 yy, .int .i64 yc, .int .i64 ym] 32 (0, 0))) (List.mem_cons_of_mem _ (List.mem_cons_of_mem _ List.mem_cons_self)) : (World.heap _)[g7]? = _)
                obtain ⟨c0, c1, c2⟩ := cells3 HA5.out.at
                have HPD5 := Lib.hid (HPD.out _ _ HA5.out.row)
                clear HTD HTC
                go_wp2_with fail
                go_at_call 15
                refine HPD5.out.mono ?_
                rintro e w6 ⟨vn, rfl, hd, hb⟩
                have HA6 := Lib.hid (HA5.out.doc hd hb)
                clear hd hb HPD HPD5 HA5 d0 d1 d2 d3 d4 d5 d6 d7 d8 d9 d10 c0 c1 c2
                obtain ⟨An, cn, rfl, -⟩ := id HA6.out.row
                obtain ⟨nn, hnn⟩ : ∃ n, p2.l.length = n := ⟨_, rfl⟩
                rw [hnn] at HA6 ⊢
                have HNN := Lib.hid hnn
                clear hnn
                obtain ⟨zk, zr, zu, zz, zt, zp, zo, zs, zy, zc, zm⟩ := ge
                simp only [Edu.val] at *
                have h8 := heap_alloc_new w6 (.cells #[.int .i64 (p2.most : Int), .slice An nn cn, .int .i64 (p2.lost : Int)] 30)
                have h9 := heap_alloc_new (w6.alloc (.cells #[.int .i64 (p2.most : Int), .slice An nn cn, .int .i64 (p2.lost : Int)] 30)) (.cells #[.int .i64 zk, .string zr, .string zu, .string zz, .string zt, .bool zp, .bool zo, .int .i64 zs, .int .i64 zy, .int .i64 zc, .int .i64 zm] 32)
                have h89 := heap_push _ (.cells #[.int .i64 zk, .string zr, .string zu, .string zz, .string zt, .bool zp, .bool zo, .int .i64 zs, .int .i64 zy, .int .i64 zc, .int .i64 zm] 32) h8
                have hs9 := size_alloc1 w6 (.cells #[.int .i64 (p2.most : Int), .slice An nn cn, .int .i64 (p2.lost : Int)] 30)
                have HA6b := Lib.hid ((HA6.out.later (below_new w6 (.cells #[.int .i64 (p2.most : Int), .slice An nn cn, .int .i64 (p2.lost : Int)] 30))).add (below_new _ (.cells #[.int .i64 zk, .string zr, .string zu, .string zz, .string zt, .bool zp, .bool zo, .int .i64 zs, .int .i64 zy, .int .i64 zc, .int .i64 zm] 32)) (t := Th.box _ (.cells #[.int .i64 zk, .string zr, .string zu, .string zz, .string zt, .bool zp, .bool zo, .int .i64 zs, .int .i64 zy, .int .i64 zc, .int .i64 zm] 32 (0, 0))) h9 (fun k hk => Nat.le_of_eq hk.symm))
                rw [hs9] at HA6b
                clear h8 h9 hs9 HA6
                go_upto_region 21 with (fail)
                generalize World.alloc _ _ = w7 at HA6b h89 ⊢
                generalize w6.heap.size + 1 = g17 at HA6b ⊢
                generalize w6.heap.size = g16 at h89 ⊢
                obtain ⟨c0, c1, c2⟩ := cells3 h89
                have hat' := Lib.hid HA6b.out.at
                have HA8 := Lib.hid HA6b.out.store
                go_upto_region 22 with (refine wpList_store_row rfl 30 (.tmp 11) (.tmp 103) rfl g #[.int .i64 (p2.most : Int), .slice An nn cn, .int .i64 (p2.lost : Int)] rfl rfl 30 _ hat'.out p_info rfl (one3 _ _ _ _ _) ?_)
                generalize World.setRow _ _ _ = w8 at HA8 ⊢
                clear c0 c1 c2 h89 hat' HA6b
                obtain ⟨d0, d1, d2, d3, d4, d5, d6, d7, d8, d9, d10⟩ := cells11 (HA8.out.kp.is (t := Th.box g7 (.cells #[.int .i64 yk, .string yr, .string yu, .string yz, .string yt, .bool yp, .bool yo, .int .i64 ys, .int .i64 yy, .int .i64 yc, .int .i64 ym] 32 (0, 0))) (List.mem_cons_of_mem _ (List.mem_cons_of_mem _ (List.mem_cons_of_mem _ List.mem_cons_self))) : w8.heap[g7]? = _)
                have HPC8 := Lib.hid (HPC.out _ _ _ HA8.out.kp)
                go_wp2_with fail
                go_at_call 16
                refine HPC8.out.mono ?_
                rintro e w9 ⟨rfl, v9, hk9⟩
                have HA9 := Lib.hid (HA8.out.code hk9)
                have h19 := heap_alloc_new w9 (.cells #[.int .i64 zk, .string zr, .string zu, .string zz, .string zt, .bool zp, .bool zo, .int .i64 zs, .int .i64 zy, .int .i64 zc, .int .i64 zm] 32)
                have HA10 := Lib.hid (HA9.out.later (below_new w9 (.cells #[.int .i64 zk, .string zr, .string zu, .string zz, .string zt, .bool zp, .bool zo, .int .i64 zs, .int .i64 zy, .int .i64 zc, .int .i64 zm] 32)))
                clear hk9 HA8 HA9 HPC HPC8 d0 d1 d2 d3 d4 d5 d6 d7 d8 d9 d10
                go_upto_region 23 with (fail)
                generalize World.alloc _ _ = w10 at h19 HA10 ⊢
                generalize w9.heap.size = g19 at h19 ⊢
                obtain ⟨d0, d1, d2, d3, d4, d5, d6, d7, d8, d9, d10⟩ := cells11 h19
                obtain ⟨c0, c1, c2, c3, c4, c5, c6, c7, c8, c9, c10⟩ := cells11 (HA10.out.kp.is (t := Th.box g17 (.cells #[.int .i64 zk, .string zr, .string zu, .string zz, .string zt, .bool zp, .bool zo, .int .i64 zs, .int .i64 zy, .int .i64 zc, .int .i64 zm] 32 (0, 0))) (List.mem_cons_of_mem _ (List.mem_cons_of_mem _ List.mem_cons_self)) : w10.heap[g17]? = _)
                have hbn : (gb != gb) = false := bne_self_eq_false gb
                have HA11 := Lib.hid (HA10.out.less (ts' := []) (fun t ht => by cases ht))
                have HFN := HFP
                clear HA10 h19 HFT HFP
                go_upto_region 25 with (fail)
                clear d0 d1 d2 d3 d4 d5 d6 d7 d8 d9 d10 c0 c1 c2 c3 c4 c5 c6 c7 c8 c9 c10 hbn heqg
                generalize hpp : p2 = p3 at *
                have HNL : Hid (p3.l.length = nn) := HNN
                have HLL3 := Lib.hid (show p3.l.length ≤ 100000 by have := HFN.out.len; omega)
                have HLE := Lib.hid (fun W v ts (hk : Kp w W b v p3 ts) => pkLen_any hk.pk)
                have HLS := Lib.hid (fun W v ts (hk : Kp w W b v p3 ts) => pkLost_any hk.pk)
                rw [HNL.out] at HLE
                have HD := Lib.hid (HA11.out.later (below_drew _))
                refine wp_region_held_drew (S := fun W => ∃ v, Kp w W b v p3 (Th.box g (p3.box (.slice An nn cn)) :: Th.row LE (.slice An nn cn) p3.l :: [])) (by kernel_rfl) ⟨_, HD.out.kp⟩ (fun hHeld => ?_)
                generalize World.drew _ = wd at HD hHeld ⊢
                have HLO' := Lib.hid HD.out.lo
                have HOF := Lib.hid HD.out.off
                clear HA11 HD HNN
                refine wpAnyH_take (i := 0) (oi := ⟨some 118, _, _, _, _, _⟩) (v := ?vrt0) rfl (by kernel_rfl) (by kernel_rfl) (by kernel_rfl) (fun _ _ _ h => h) (Or.inl ⟨by rfl, ?yrt0⟩) hHeld ?rrt0
                case yrt0 =>
                  intro wx hSx
                  go_simp
                  try with_reducible rfl
                try simp only [Act.put, List.setIfInBounds_toArray, List.set_cons_zero, List.set_cons_succ]
                refine wpAnyH_take (i := 2) (oi := ⟨some 120, _, _, _, _, _⟩) (v := ?vrt2) rfl (by kernel_rfl) (by kernel_rfl) (by kernel_rfl) (fun _ _ _ h => h) (Or.inl ⟨by rfl, ?yrt2⟩) hHeld ?rrt2
                case yrt2 =>
                  intro wx hSx
                  go_simp
                  try with_reducible rfl
                try simp only [Act.put, List.setIfInBounds_toArray, List.set_cons_zero, List.set_cons_succ]
                refine wpAnyH_take (i := 3) (oi := ⟨some 121, _, _, _, _, _⟩) (v := ?vrt3) rfl (by kernel_rfl) (by kernel_rfl) (by kernel_rfl) (fun _ _ _ h => h) (Or.inl ⟨by rfl, ?yrt3⟩) hHeld ?rrt3
                case yrt3 =>
                  intro wx hSx
                  obtain ⟨v3, h3⟩ := hSx
                  obtain ⟨c0, c1, c2⟩ := cells3 (h3.is List.mem_cons_self : wx.heap[g]? = _)
                  go_simp
                  try with_reducible rfl
                try simp only [Act.put, List.setIfInBounds_toArray, List.set_cons_zero, List.set_cons_succ]
                refine wpAnyH_ready (rs := [1]) (by kernel_rfl) (by simp) ?_
                refine AllReadyH.cons (o := ⟨some 119, _, _, _, _, _⟩) rfl (fun K hK => ?_) AllReadyH.nil
                obtain ⟨v3, h3⟩ := hHeld
                have HC := h3.all_any HLL3.out
                go_simp
                refine HC.mono ?_
                rintro e wa ⟨u2, rfl, -, hk2⟩
                have hsm := sameEdus_any u2 (.slice An nn cn) p3.l p3.l wa (hk2.is List.mem_cons_self) (hk2.is (t := Th.row LE (.slice An nn cn) p3.l) (List.mem_cons_of_mem _ (List.mem_cons_of_mem _ List.mem_cons_self)))
                rw [sameL_self] at hsm
                have HSM := Lib.hid hsm
                refine hK.out _ _ ⟨_, hk2.less (fun t ht => List.mem_cons_of_mem _ ht)⟩ (fun hHeld => ?_)
                clear hK K hsm hk2 HC h3
                try simp only [Act.put, List.setIfInBounds_toArray, List.set_cons_zero, List.set_cons_succ]
                refine wpAnyH_ready (rs := [4]) (by kernel_rfl) (by simp) ?_
                refine AllReadyH.cons (o := ⟨some 122, _, _, _, _, _⟩) rfl (fun K hK => ?_) AllReadyH.nil
                obtain ⟨v3, h3⟩ := hHeld
                go_simp
                refine HSM.out.mono ?_
                rintro e wb ⟨rfl, hb⟩
                refine hK.out _ _ ⟨_, h3.later hb⟩ (fun hHeld => ?_)
                clear hK K hb HSM h3
                try simp only [Act.put, List.setIfInBounds_toArray, List.set_cons_zero, List.set_cons_succ]
                refine wpAnyH_take (i := 5) (oi := ⟨some 123, _, _, _, _, _⟩) (v := ?vrt5) rfl (by kernel_rfl) (by kernel_rfl) (by kernel_rfl) (fun _ _ _ h => h) (Or.inl ⟨by rfl, ?yrt5⟩) hHeld ?rrt5
                case yrt5 =>
                  intro wx hSx
                  go_simp
                  try with_reducible rfl
                try simp only [Act.put, List.setIfInBounds_toArray, List.set_cons_zero, List.set_cons_succ]
                refine wpAnyH_take (i := 6) (oi := ⟨some 124, _, _, _, _, _⟩) (v := ?vrt6) rfl (by kernel_rfl) (by kernel_rfl) (by kernel_rfl) (fun _ _ _ h => h) (Or.inl ⟨by rfl, ?yrt6⟩) hHeld ?rrt6
                case yrt6 =>
                  intro wx hSx
                  go_simp
                  try with_reducible rfl
                try simp only [Act.put, List.setIfInBounds_toArray, List.set_cons_zero, List.set_cons_succ]
                refine wpAnyH_take (i := 7) (oi := ⟨some 125, _, _, _, _, _⟩) (v := ?vrt7) rfl (by kernel_rfl) (by kernel_rfl) (by kernel_rfl) (fun _ _ _ h => h) (Or.inl ⟨by rfl, ?yrt7⟩) hHeld ?rrt7
                case yrt7 =>
                  intro wx hSx
                  go_simp
                  try with_reducible rfl
                try simp only [Act.put, List.setIfInBounds_toArray, List.set_cons_zero, List.set_cons_succ]
                refine wpAnyH_take (i := 9) (oi := ⟨some 127, _, _, _, _, _⟩) (v := ?vrt9) rfl (by kernel_rfl) (by kernel_rfl) (by kernel_rfl) (fun _ _ _ h => h) (Or.inl ⟨by rfl, ?yrt9⟩) hHeld ?rrt9
                case yrt9 =>
                  intro wx hSx
                  go_simp
                  try with_reducible rfl
                try simp only [Act.put, List.setIfInBounds_toArray, List.set_cons_zero, List.set_cons_succ]
                refine wpAnyH_take (i := 10) (oi := ⟨some 128, _, _, _, _, _⟩) (v := ?vrt10) rfl (by kernel_rfl) (by kernel_rfl) (by kernel_rfl) (fun _ _ _ h => h) (Or.inl ⟨by rfl, ?yrt10⟩) hHeld ?rrt10
                case yrt10 =>
                  intro wx hSx
                  obtain ⟨v3, h3⟩ := hSx
                  obtain ⟨c0, c1, c2⟩ := cells3 (h3.is List.mem_cons_self : wx.heap[g]? = _)
                  go_simp
                  try with_reducible rfl
                try simp only [Act.put, List.setIfInBounds_toArray, List.set_cons_zero, List.set_cons_succ]
                refine wpAnyH_take (i := 11) (oi := ⟨some 129, _, _, _, _, _⟩) (v := ?vrt11) rfl (by kernel_rfl) (by kernel_rfl) (by kernel_rfl) (fun _ _ _ h => h) (Or.inl ⟨by rfl, ?yrt11⟩) hHeld ?rrt11
                case yrt11 =>
                  intro wx hSx
                  go_simp
                  try with_reducible rfl
                try simp only [Act.put, List.setIfInBounds_toArray, List.set_cons_zero, List.set_cons_succ]
                refine wpAnyH_ready (rs := [8]) (by kernel_rfl) (by simp) ?_
                refine AllReadyH.cons (o := ⟨some 126, _, _, _, _, _⟩) rfl (fun K hK => ?_) AllReadyH.nil
                obtain ⟨v3, h3⟩ := hHeld
                go_simp
                refine (HLE.out _ _ _ h3).mono ?_
                rintro e wc ⟨rfl, hb⟩
                refine hK.out _ _ ⟨_, h3.later hb⟩ (fun hHeld => ?_)
                clear hK K hb h3
                try simp only [Act.put, List.setIfInBounds_toArray, List.set_cons_zero, List.set_cons_succ]
                refine wpAnyH_take (i := 12) (oi := ⟨some 130, _, _, _, _, _⟩) (v := ?vrt12) rfl (by kernel_rfl) (by kernel_rfl) (by kernel_rfl) (fun _ _ _ h => h) (Or.inl ⟨by rfl, ?yrt12⟩) hHeld ?rrt12
                case yrt12 =>
                  intro wx hSx
                  go_simp
                  try with_reducible rfl
                try simp only [Act.put, List.setIfInBounds_toArray, List.set_cons_zero, List.set_cons_succ]
                refine wpAnyH_take (i := 13) (oi := ⟨some 131, _, _, _, _, _⟩) (v := ?vrt13) rfl (by kernel_rfl) (by kernel_rfl) (by kernel_rfl) (fun _ _ _ h => h) (Or.inl ⟨by rfl, ?yrt13⟩) hHeld ?rrt13
                case yrt13 =>
                  intro wx hSx
                  go_simp
                  try with_reducible rfl
                try simp only [Act.put, List.setIfInBounds_toArray, List.set_cons_zero, List.set_cons_succ]
                refine wpAnyH_take (i := 14) (oi := ⟨some 132, _, _, _, _, _⟩) (v := ?vrt14) rfl (by kernel_rfl) (by kernel_rfl) (by kernel_rfl) (fun _ _ _ h => h) (Or.inl ⟨by rfl, ?yrt14⟩) hHeld ?rrt14
                case yrt14 =>
                  intro wx hSx
                  go_simp
                  try with_reducible rfl
                try simp only [Act.put, List.setIfInBounds_toArray, List.set_cons_zero, List.set_cons_succ]
                refine wpAnyH_take (i := 15) (oi := ⟨some 133, _, _, _, _, _⟩) (v := ?vrt15) rfl (by kernel_rfl) (by kernel_rfl) (by kernel_rfl) (fun _ _ _ h => h) (Or.inl ⟨by rfl, ?yrt15⟩) hHeld ?rrt15
                case yrt15 =>
                  intro wx hSx
                  go_simp
                  try with_reducible rfl
                try simp only [Act.put, List.setIfInBounds_toArray, List.set_cons_zero, List.set_cons_succ]
                refine wpAnyH_take (i := 17) (oi := ⟨some 135, _, _, _, _, _⟩) (v := ?vrt17) rfl (by kernel_rfl) (by kernel_rfl) (by kernel_rfl) (fun _ _ _ h => h) (Or.inl ⟨by rfl, ?yrt17⟩) hHeld ?rrt17
                case yrt17 =>
                  intro wx hSx
                  go_simp
                  try with_reducible rfl
                try simp only [Act.put, List.setIfInBounds_toArray, List.set_cons_zero, List.set_cons_succ]
                refine wpAnyH_take (i := 18) (oi := ⟨some 136, _, _, _, _, _⟩) (v := ?vrt18) rfl (by kernel_rfl) (by kernel_rfl) (by kernel_rfl) (fun _ _ _ h => h) (Or.inl ⟨by rfl, ?yrt18⟩) hHeld ?rrt18
                case yrt18 =>
                  intro wx hSx
                  obtain ⟨v3, h3⟩ := hSx
                  obtain ⟨c0, c1, c2⟩ := cells3 (h3.is List.mem_cons_self : wx.heap[g]? = _)
                  go_simp
                  try with_reducible rfl
                try simp only [Act.put, List.setIfInBounds_toArray, List.set_cons_zero, List.set_cons_succ]
                refine wpAnyH_ready (rs := [16]) (by kernel_rfl) (by simp) ?_
                refine AllReadyH.cons (o := ⟨some 134, _, _, _, _, _⟩) rfl (fun K hK => ?_) AllReadyH.nil
                obtain ⟨v3, h3⟩ := hHeld
                go_simp
                refine (HLS.out _ _ _ h3).mono ?_
                rintro e we ⟨rfl, hb⟩
                refine hK.out _ _ ⟨_, h3.later hb⟩ (fun hHeld => ?_)
                clear hK K hb h3
                try simp only [Act.put, List.setIfInBounds_toArray, List.set_cons_zero, List.set_cons_succ]
                refine wpAnyH_take (i := 19) (oi := ⟨some 137, _, _, _, _, _⟩) (v := ?vrt19) rfl (by kernel_rfl) (by kernel_rfl) (by kernel_rfl) (fun _ _ _ h => h) (Or.inl ⟨by rfl, ?yrt19⟩) hHeld ?rrt19
                case yrt19 =>
                  intro wx hSx
                  go_simp
                  try with_reducible rfl
                try simp only [Act.put, List.setIfInBounds_toArray, List.set_cons_zero, List.set_cons_succ]
                refine wpAnyH_take (i := 20) (oi := ⟨some 138, _, _, _, _, _⟩) (v := ?vrt20) rfl (by kernel_rfl) (by kernel_rfl) (by kernel_rfl) (fun _ _ _ h => h) (Or.inl ⟨by rfl, ?yrt20⟩) hHeld ?rrt20
                case yrt20 =>
                  intro wx hSx
                  go_simp
                  try with_reducible rfl
                try simp only [Act.put, List.setIfInBounds_toArray, List.set_cons_zero, List.set_cons_succ]
                refine wpAnyH_done (by kernel_rfl) ?_ _
                obtain ⟨v3, h3⟩ := hHeld
                have HS9 : Hid (∃ v vd p, Bo w we b v p g vd p [] ∧ FitP p m (a + 1)) := Lib.hid ⟨v3, _, p3, ⟨h3, HOF.out, HLO'.out, fun t ht => (by cases ht)⟩, HFN.out⟩
                clear h3 HLE HLS HLO' HOF
                go_wp2_with fail
                refine ⟨⟨a + 1, by go_num, by omega, by omega, HS9⟩, ?_⟩
                simp [intOf]; omega
              · skip
                go_upto_region 16 with (fail)
                obtain ⟨d0, d1, d2, d3, d4, d5, d6, d7, d8, d9, d10⟩ := cells11 (HA5.out.kp.is (t := Th.box g7 (.cells #[.int .i64 yk, .string yr, .string yu, .string yz, .string yt, .bool yp, .bool yo, .int .i64 ys, .int .i64 yy, .int .i64 yc, .int .i64 ym] 32 (0, 0))) (List.mem_cons_of_mem _ (List.mem_cons_of_mem _ List.mem_cons_self)) : (World.heap _)[g7]? = _)
                obtain ⟨c0, c1, c2⟩ := cells3 HA5.out.at
                have HTD5 := Lib.hid (HTD.out _ _ HA5.out.row)
                clear HPD HPC heqg
                go_wp2_with fail
                go_at_call 12
                refine HTD5.out.mono ?_
                rintro e w6 ⟨u, vn, rfl, hmu, hmv, hb⟩
                have HA6 := Lib.hid ((HA5.out.doc (.inr hmv) hb).with (t := Th.row LE u tl) hmu.slice (fun k hk ho => by
                  have h1 := (hmu.lt k hk.2).1
                  have h2 := (HA5.out.kp.pk.old ho).2
                  omega) (fun hk => by
                  have h1 := (hmu.lt g hk.2).1
                  have h2 := smem_lt HA5.out.at
                  omega))
                obtain ⟨Au, cu, rfl, -⟩ := hmu.shape
                clear hmu hmv hb HTD HTD5 HA5 d0 d1 d2 d3 d4 d5 d6 d7 d8 d9 d10 c0 c1 c2
                obtain ⟨An, cn, rfl, -⟩ := id HA6.out.row
                obtain ⟨nn, hnn⟩ : ∃ n, pt.l.length = n := ⟨_, rfl⟩
                rw [hnn] at HA6 ⊢
                have HNN := Lib.hid hnn
                clear hnn
                obtain ⟨nu, hnu⟩ : ∃ n, tl.length = n := ⟨_, rfl⟩
                rw [hnu] at HA6 ⊢
                clear hnu
                have h8 := heap_alloc_new w6 (.cells #[.int .i64 (pt.most : Int), .slice An nn cn, .int .i64 (pt.lost : Int)] 30)
                have HA6b := Lib.hid (HA6.out.later (below_new w6 (.cells #[.int .i64 (pt.most : Int), .slice An nn cn, .int .i64 (pt.lost : Int)] 30)))
                clear HA6
                go_upto_region 17 with (fail)
                generalize World.alloc _ _ = w7 at HA6b h8 ⊢
                generalize w6.heap.size = g14 at h8 ⊢
                obtain ⟨c0, c1, c2⟩ := cells3 h8
                have hat' := Lib.hid HA6b.out.at
                have HA8 := Lib.hid HA6b.out.store
                go_upto_region 18 with (refine wpList_store_row rfl 30 (.tmp 11) (.tmp 86) rfl g #[.int .i64 (pt.most : Int), .slice An nn cn, .int .i64 (pt.lost : Int)] rfl rfl 30 _ hat'.out p_info rfl (one3 _ _ _ _ _) ?_)
                generalize World.setRow _ _ _ = w8 at HA8 ⊢
                clear c0 c1 c2 h8 hat' HA6b
                obtain ⟨d0, d1, d2, d3, d4, d5, d6, d7, d8, d9, d10⟩ := cells11 (HA8.out.kp.is (t := Th.box g7 (.cells #[.int .i64 yk, .string yr, .string yu, .string yz, .string yt, .bool yp, .bool yo, .int .i64 ys, .int .i64 yy, .int .i64 yc, .int .i64 ym] 32 (0, 0))) (List.mem_cons_of_mem _ (List.mem_cons_of_mem _ (List.mem_cons_of_mem _ List.mem_cons_self))) : w8.heap[g7]? = _)
                have HTC8 := Lib.hid (HTC.out _ _ _ HA8.out.kp)
                go_wp2_with fail
                go_at_call 14
                refine HTC8.out.mono ?_
                rintro e w9 ⟨u2, rfl, v9, hk9⟩
                have hsm := sameEdus_any u2 (.slice Au nu cu) tl tl w9 (hk9.is List.mem_cons_self) (hk9.is (t := Th.row LE (.slice Au nu cu) tl) (List.mem_cons_of_mem _ (List.mem_cons_of_mem _ (List.mem_cons_of_mem _ List.mem_cons_self))))
                rw [sameL_self] at hsm
                have HSM := Lib.hid hsm
                have HA9 := Lib.hid (HA8.out.code0 hk9 (fun t ht => by
                  rcases List.mem_cons.1 ht with rfl | ht
                  · exact List.mem_cons_of_mem _ List.mem_cons_self
                  · rcases List.mem_cons.1 ht with rfl | ht
                    · exact List.mem_cons_of_mem _ (List.mem_cons_of_mem _ List.mem_cons_self)
                    · cases ht))
                obtain ⟨A2', c2', rfl, -⟩ := id (hk9.is List.mem_cons_self : LE.Slice w9 u2 tl)
                clear hk9 HA8 HTC HTC8 hsm d0 d1 d2 d3 d4 d5 d6 d7 d8 d9 d10
                go_wp2_with fail
                go_at_call 13
                refine HSM.out.mono ?_
                rintro e w10 ⟨rfl, hb⟩
                have HA11 := Lib.hid (HA9.out.later hb)
                have HFN := HFT
                clear hb HA9 HSM HFT HFP
                go_upto_region 25 with (fail)
                generalize hpp : pt = p3 at *
                have HNL : Hid (p3.l.length = nn) := HNN
                have HLL3 := Lib.hid (show p3.l.length ≤ 100000 by have := HFN.out.len; omega)
                have HLE := Lib.hid (fun W v ts (hk : Kp w W b v p3 ts) => pkLen_any hk.pk)
                have HLS := Lib.hid (fun W v ts (hk : Kp w W b v p3 ts) => pkLost_any hk.pk)
                rw [HNL.out] at HLE
                have HD := Lib.hid (HA11.out.later (below_drew _))
                refine wp_region_held_drew (S := fun W => ∃ v, Kp w W b v p3 (Th.box g (p3.box (.slice An nn cn)) :: Th.row LE (.slice An nn cn) p3.l :: [])) (by kernel_rfl) ⟨_, HD.out.kp⟩ (fun hHeld => ?_)
                generalize World.drew _ = wd at HD hHeld ⊢
                have HLO' := Lib.hid HD.out.lo
                have HOF := Lib.hid HD.out.off
                clear HA11 HD HNN
                refine wpAnyH_take (i := 0) (oi := ⟨some 118, _, _, _, _, _⟩) (v := ?vru0) rfl (by kernel_rfl) (by kernel_rfl) (by kernel_rfl) (fun _ _ _ h => h) (Or.inl ⟨by rfl, ?yru0⟩) hHeld ?rru0
                case yru0 =>
                  intro wx hSx
                  go_simp
                  try with_reducible rfl
                try simp only [Act.put, List.setIfInBounds_toArray, List.set_cons_zero, List.set_cons_succ]
                refine wpAnyH_take (i := 2) (oi := ⟨some 120, _, _, _, _, _⟩) (v := ?vru2) rfl (by kernel_rfl) (by kernel_rfl) (by kernel_rfl) (fun _ _ _ h => h) (Or.inl ⟨by rfl, ?yru2⟩) hHeld ?rru2
                case yru2 =>
                  intro wx hSx
                  go_simp
                  try with_reducible rfl
                try simp only [Act.put, List.setIfInBounds_toArray, List.set_cons_zero, List.set_cons_succ]
                refine wpAnyH_take (i := 3) (oi := ⟨some 121, _, _, _, _, _⟩) (v := ?vru3) rfl (by kernel_rfl) (by kernel_rfl) (by kernel_rfl) (fun _ _ _ h => h) (Or.inl ⟨by rfl, ?yru3⟩) hHeld ?rru3
                case yru3 =>
                  intro wx hSx
                  obtain ⟨v3, h3⟩ := hSx
                  obtain ⟨c0, c1, c2⟩ := cells3 (h3.is List.mem_cons_self : wx.heap[g]? = _)
                  go_simp
                  try with_reducible rfl
                try simp only [Act.put, List.setIfInBounds_toArray, List.set_cons_zero, List.set_cons_succ]
                refine wpAnyH_ready (rs := [1]) (by kernel_rfl) (by simp) ?_
                refine AllReadyH.cons (o := ⟨some 119, _, _, _, _, _⟩) rfl (fun K hK => ?_) AllReadyH.nil
                obtain ⟨v3, h3⟩ := hHeld
                have HC := h3.all_any HLL3.out
                go_simp
                refine HC.mono ?_
                rintro e wa ⟨u2, rfl, -, hk2⟩
                have hsm := sameEdus_any u2 (.slice An nn cn) p3.l p3.l wa (hk2.is List.mem_cons_self) (hk2.is (t := Th.row LE (.slice An nn cn) p3.l) (List.mem_cons_of_mem _ (List.mem_cons_of_mem _ List.mem_cons_self)))
                rw [sameL_self] at hsm
                have HSM := Lib.hid hsm
                refine hK.out _ _ ⟨_, hk2.less (fun t ht => List.mem_cons_of_mem _ ht)⟩ (fun hHeld => ?_)
                clear hK K hsm hk2 HC h3
                try simp only [Act.put, List.setIfInBounds_toArray, List.set_cons_zero, List.set_cons_succ]
                refine wpAnyH_ready (rs := [4]) (by kernel_rfl) (by simp) ?_
                refine AllReadyH.cons (o := ⟨some 122, _, _, _, _, _⟩) rfl (fun K hK => ?_) AllReadyH.nil
                obtain ⟨v3, h3⟩ := hHeld
                go_simp
                refine HSM.out.mono ?_
                rintro e wb ⟨rfl, hb⟩
                refine hK.out _ _ ⟨_, h3.later hb⟩ (fun hHeld => ?_)
                clear hK K hb HSM h3
                try simp only [Act.put, List.setIfInBounds_toArray, List.set_cons_zero, List.set_cons_succ]
                refine wpAnyH_take (i := 5) (oi := ⟨some 123, _, _, _, _, _⟩) (v := ?vru5) rfl (by kernel_rfl) (by kernel_rfl) (by kernel_rfl) (fun _ _ _ h => h) (Or.inl ⟨by rfl, ?yru5⟩) hHeld ?rru5
                case yru5 =>
                  intro wx hSx
                  go_simp
                  try with_reducible rfl
                try simp only [Act.put, List.setIfInBounds_toArray, List.set_cons_zero, List.set_cons_succ]
                refine wpAnyH_take (i := 6) (oi := ⟨some 124, _, _, _, _, _⟩) (v := ?vru6) rfl (by kernel_rfl) (by kernel_rfl) (by kernel_rfl) (fun _ _ _ h => h) (Or.inl ⟨by rfl, ?yru6⟩) hHeld ?rru6
                case yru6 =>
                  intro wx hSx
                  go_simp
                  try with_reducible rfl
                try simp only [Act.put, List.setIfInBounds_toArray, List.set_cons_zero, List.set_cons_succ]
                refine wpAnyH_take (i := 7) (oi := ⟨some 125, _, _, _, _, _⟩) (v := ?vru7) rfl (by kernel_rfl) (by kernel_rfl) (by kernel_rfl) (fun _ _ _ h => h) (Or.inl ⟨by rfl, ?yru7⟩) hHeld ?rru7
                case yru7 =>
                  intro wx hSx
                  go_simp
                  try with_reducible rfl
                try simp only [Act.put, List.setIfInBounds_toArray, List.set_cons_zero, List.set_cons_succ]
                refine wpAnyH_take (i := 9) (oi := ⟨some 127, _, _, _, _, _⟩) (v := ?vru9) rfl (by kernel_rfl) (by kernel_rfl) (by kernel_rfl) (fun _ _ _ h => h) (Or.inl ⟨by rfl, ?yru9⟩) hHeld ?rru9
                case yru9 =>
                  intro wx hSx
                  go_simp
                  try with_reducible rfl
                try simp only [Act.put, List.setIfInBounds_toArray, List.set_cons_zero, List.set_cons_succ]
                refine wpAnyH_take (i := 10) (oi := ⟨some 128, _, _, _, _, _⟩) (v := ?vru10) rfl (by kernel_rfl) (by kernel_rfl) (by kernel_rfl) (fun _ _ _ h => h) (Or.inl ⟨by rfl, ?yru10⟩) hHeld ?rru10
                case yru10 =>
                  intro wx hSx
                  obtain ⟨v3, h3⟩ := hSx
                  obtain ⟨c0, c1, c2⟩ := cells3 (h3.is List.mem_cons_self : wx.heap[g]? = _)
                  go_simp
                  try with_reducible rfl
                try simp only [Act.put, List.setIfInBounds_toArray, List.set_cons_zero, List.set_cons_succ]
                refine wpAnyH_take (i := 11) (oi := ⟨some 129, _, _, _, _, _⟩) (v := ?vru11) rfl (by kernel_rfl) (by kernel_rfl) (by kernel_rfl) (fun _ _ _ h => h) (Or.inl ⟨by rfl, ?yru11⟩) hHeld ?rru11
                case yru11 =>
                  intro wx hSx
                  go_simp
                  try with_reducible rfl
                try simp only [Act.put, List.setIfInBounds_toArray, List.set_cons_zero, List.set_cons_succ]
                refine wpAnyH_ready (rs := [8]) (by kernel_rfl) (by simp) ?_
                refine AllReadyH.cons (o := ⟨some 126, _, _, _, _, _⟩) rfl (fun K hK => ?_) AllReadyH.nil
                obtain ⟨v3, h3⟩ := hHeld
                go_simp
                refine (HLE.out _ _ _ h3).mono ?_
                rintro e wc ⟨rfl, hb⟩
                refine hK.out _ _ ⟨_, h3.later hb⟩ (fun hHeld => ?_)
                clear hK K hb h3
                try simp only [Act.put, List.setIfInBounds_toArray, List.set_cons_zero, List.set_cons_succ]
                refine wpAnyH_take (i := 12) (oi := ⟨some 130, _, _, _, _, _⟩) (v := ?vru12) rfl (by kernel_rfl) (by kernel_rfl) (by kernel_rfl) (fun _ _ _ h => h) (Or.inl ⟨by rfl, ?yru12⟩) hHeld ?rru12
                case yru12 =>
                  intro wx hSx
                  go_simp
                  try with_reducible rfl
                try simp only [Act.put, List.setIfInBounds_toArray, List.set_cons_zero, List.set_cons_succ]
                refine wpAnyH_take (i := 13) (oi := ⟨some 131, _, _, _, _, _⟩) (v := ?vru13) rfl (by kernel_rfl) (by kernel_rfl) (by kernel_rfl) (fun _ _ _ h => h) (Or.inl ⟨by rfl, ?yru13⟩) hHeld ?rru13
                case yru13 =>
                  intro wx hSx
                  go_simp
                  try with_reducible rfl
                try simp only [Act.put, List.setIfInBounds_toArray, List.set_cons_zero, List.set_cons_succ]
                refine wpAnyH_take (i := 14) (oi := ⟨some 132, _, _, _, _, _⟩) (v := ?vru14) rfl (by kernel_rfl) (by kernel_rfl) (by kernel_rfl) (fun _ _ _ h => h) (Or.inl ⟨by rfl, ?yru14⟩) hHeld ?rru14
                case yru14 =>
                  intro wx hSx
                  go_simp
                  try with_reducible rfl
                try simp only [Act.put, List.setIfInBounds_toArray, List.set_cons_zero, List.set_cons_succ]
                refine wpAnyH_take (i := 15) (oi := ⟨some 133, _, _, _, _, _⟩) (v := ?vru15) rfl (by kernel_rfl) (by kernel_rfl) (by kernel_rfl) (fun _ _ _ h => h) (Or.inl ⟨by rfl, ?yru15⟩) hHeld ?rru15
                case yru15 =>
                  intro wx hSx
                  go_simp
                  try with_reducible rfl
                try simp only [Act.put, List.setIfInBounds_toArray, List.set_cons_zero, List.set_cons_succ]
                refine wpAnyH_take (i := 17) (oi := ⟨some 135, _, _, _, _, _⟩) (v := ?vru17) rfl (by kernel_rfl) (by kernel_rfl) (by kernel_rfl) (fun _ _ _ h => h) (Or.inl ⟨by rfl, ?yru17⟩) hHeld ?rru17
                case yru17 =>
                  intro wx hSx
                  go_simp
                  try with_reducible rfl
                try simp only [Act.put, List.setIfInBounds_toArray, List.set_cons_zero, List.set_cons_succ]
                refine wpAnyH_take (i := 18) (oi := ⟨some 136, _, _, _, _, _⟩) (v := ?vru18) rfl (by kernel_rfl) (by kernel_rfl) (by kernel_rfl) (fun _ _ _ h => h) (Or.inl ⟨by rfl, ?yru18⟩) hHeld ?rru18
                case yru18 =>
                  intro wx hSx
                  obtain ⟨v3, h3⟩ := hSx
                  obtain ⟨c0, c1, c2⟩ := cells3 (h3.is List.mem_cons_self : wx.heap[g]? = _)
                  go_simp
                  try with_reducible rfl
                try simp only [Act.put, List.setIfInBounds_toArray, List.set_cons_zero, List.set_cons_succ]
                refine wpAnyH_ready (rs := [16]) (by kernel_rfl) (by simp) ?_
                refine AllReadyH.cons (o := ⟨some 134, _, _, _, _, _⟩) rfl (fun K hK => ?_) AllReadyH.nil
                obtain ⟨v3, h3⟩ := hHeld
                go_simp
                refine (HLS.out _ _ _ h3).mono ?_
                rintro e we ⟨rfl, hb⟩
                refine hK.out _ _ ⟨_, h3.later hb⟩ (fun hHeld => ?_)
                clear hK K hb h3
                try simp only [Act.put, List.setIfInBounds_toArray, List.set_cons_zero, List.set_cons_succ]
                refine wpAnyH_take (i := 19) (oi := ⟨some 137, _, _, _, _, _⟩) (v := ?vru19) rfl (by kernel_rfl) (by kernel_rfl) (by kernel_rfl) (fun _ _ _ h => h) (Or.inl ⟨by rfl, ?yru19⟩) hHeld ?rru19
                case yru19 =>
                  intro wx hSx
                  go_simp
                  try with_reducible rfl
                try simp only [Act.put, List.setIfInBounds_toArray, List.set_cons_zero, List.set_cons_succ]
                refine wpAnyH_take (i := 20) (oi := ⟨some 138, _, _, _, _, _⟩) (v := ?vru20) rfl (by kernel_rfl) (by kernel_rfl) (by kernel_rfl) (fun _ _ _ h => h) (Or.inl ⟨by rfl, ?yru20⟩) hHeld ?rru20
                case yru20 =>
                  intro wx hSx
                  go_simp
                  try with_reducible rfl
                try simp only [Act.put, List.setIfInBounds_toArray, List.set_cons_zero, List.set_cons_succ]
                refine wpAnyH_done (by kernel_rfl) ?_ _
                obtain ⟨v3, h3⟩ := hHeld
                have HS9 : Hid (∃ v vd p, Bo w we b v p g vd p [] ∧ FitP p m (a + 1)) := Lib.hid ⟨v3, _, p3, ⟨h3, HOF.out, HLO'.out, fun t ht => (by cases ht)⟩, HFN.out⟩
                clear h3 HLE HLS HLO' HOF
                go_wp2_with fail
                refine ⟨⟨a + 1, by go_num, by omega, by omega, HS9⟩, ?_⟩
                simp [intOf]; omega
            · have q7 : decide ((a : Int) < (nt : Int)) = false := decide_eq_false (by omega)
              go_upto_region 20 with (fail)
              obtain ⟨d0, d1, d2, d3, d4, d5, d6, d7, d8, d9, d10⟩ := cells11 (HA5.out.kp.is (t := Th.box g7 (.cells #[.int .i64 yk, .string yr, .string yu, .string yz, .string yt, .bool yp, .bool yo, .int .i64 ys, .int .i64 yy, .int .i64 yc, .int .i64 ym] 32 (0, 0))) (List.mem_cons_of_mem _ (List.mem_cons_of_mem _ List.mem_cons_self)) : (World.heap _)[g7]? = _)
              obtain ⟨c0, c1, c2⟩ := cells3 HA5.out.at
              have HPD5 := Lib.hid (HPD.out _ _ HA5.out.row)
              clear HTD HTC
              go_wp2_with fail
              go_at_call 15
              refine HPD5.out.mono ?_
              rintro e w6 ⟨vn, rfl, hd, hb⟩
              have HA6 := Lib.hid (HA5.out.doc hd hb)
              clear hd hb HPD HPD5 HA5 d0 d1 d2 d3 d4 d5 d6 d7 d8 d9 d10 c0 c1 c2
              obtain ⟨An, cn, rfl, -⟩ := id HA6.out.row
              obtain ⟨nn, hnn⟩ : ∃ n, p2.l.length = n := ⟨_, rfl⟩
              rw [hnn] at HA6 ⊢
              have HNN := Lib.hid hnn
              clear hnn
              obtain ⟨zk, zr, zu, zz, zt, zp, zo, zs, zy, zc, zm⟩ := ge
              simp only [Edu.val] at *
              have h8 := heap_alloc_new w6 (.cells #[.int .i64 (p2.most : Int), .slice An nn cn, .int .i64 (p2.lost : Int)] 30)
              have h9 := heap_alloc_new (w6.alloc (.cells #[.int .i64 (p2.most : Int), .slice An nn cn, .int .i64 (p2.lost : Int)] 30)) (.cells #[.int .i64 zk, .string zr, .string zu, .string zz, .string zt, .bool zp, .bool zo, .int .i64 zs, .int .i64 zy, .int .i64 zc, .int .i64 zm] 32)
              have h89 := heap_push _ (.cells #[.int .i64 zk, .string zr, .string zu, .string zz, .string zt, .bool zp, .bool zo, .int .i64 zs, .int .i64 zy, .int .i64 zc, .int .i64 zm] 32) h8
              have hs9 := size_alloc1 w6 (.cells #[.int .i64 (p2.most : Int), .slice An nn cn, .int .i64 (p2.lost : Int)] 30)
              have HA6b := Lib.hid ((HA6.out.later (below_new w6 (.cells #[.int .i64 (p2.most : Int), .slice An nn cn, .int .i64 (p2.lost : Int)] 30))).add (below_new _ (.cells #[.int .i64 zk, .string zr, .string zu, .string zz, .string zt, .bool zp, .bool zo, .int .i64 zs, .int .i64 zy, .int .i64 zc, .int .i64 zm] 32)) (t := Th.box _ (.cells #[.int .i64 zk, .string zr, .string zu, .string zz, .string zt, .bool zp, .bool zo, .int .i64 zs, .int .i64 zy, .int .i64 zc, .int .i64 zm] 32 (0, 0))) h9 (fun k hk => Nat.le_of_eq hk.symm))
              rw [hs9] at HA6b
              clear h8 h9 hs9 HA6
              go_upto_region 21 with (fail)
              generalize World.alloc _ _ = w7 at HA6b h89 ⊢
              generalize w6.heap.size + 1 = g17 at HA6b ⊢
              generalize w6.heap.size = g16 at h89 ⊢
              obtain ⟨c0, c1, c2⟩ := cells3 h89
              have hat' := Lib.hid HA6b.out.at
              have HA8 := Lib.hid HA6b.out.store
              go_upto_region 22 with (refine wpList_store_row rfl 30 (.tmp 11) (.tmp 103) rfl g #[.int .i64 (p2.most : Int), .slice An nn cn, .int .i64 (p2.lost : Int)] rfl rfl 30 _ hat'.out p_info rfl (one3 _ _ _ _ _) ?_)
              generalize World.setRow _ _ _ = w8 at HA8 ⊢
              clear c0 c1 c2 h89 hat' HA6b
              obtain ⟨d0, d1, d2, d3, d4, d5, d6, d7, d8, d9, d10⟩ := cells11 (HA8.out.kp.is (t := Th.box g7 (.cells #[.int .i64 yk, .string yr, .string yu, .string yz, .string yt, .bool yp, .bool yo, .int .i64 ys, .int .i64 yy, .int .i64 yc, .int .i64 ym] 32 (0, 0))) (List.mem_cons_of_mem _ (List.mem_cons_of_mem _ (List.mem_cons_of_mem _ List.mem_cons_self))) : w8.heap[g7]? = _)
              have HPC8 := Lib.hid (HPC.out _ _ _ HA8.out.kp)
              go_wp2_with fail
              go_at_call 16
              refine HPC8.out.mono ?_
              rintro e w9 ⟨rfl, v9, hk9⟩
              have HA9 := Lib.hid (HA8.out.code hk9)
              have h19 := heap_alloc_new w9 (.cells #[.int .i64 zk, .string zr, .string zu, .string zz, .string zt, .bool zp, .bool zo, .int .i64 zs, .int .i64 zy, .int .i64 zc, .int .i64 zm] 32)
              have HA10 := Lib.hid (HA9.out.later (below_new w9 (.cells #[.int .i64 zk, .string zr, .string zu, .string zz, .string zt, .bool zp, .bool zo, .int .i64 zs, .int .i64 zy, .int .i64 zc, .int .i64 zm] 32)))
              clear hk9 HA8 HA9 HPC HPC8 d0 d1 d2 d3 d4 d5 d6 d7 d8 d9 d10
              go_upto_region 23 with (fail)
              generalize World.alloc _ _ = w10 at h19 HA10 ⊢
              generalize w9.heap.size = g19 at h19 ⊢
              obtain ⟨d0, d1, d2, d3, d4, d5, d6, d7, d8, d9, d10⟩ := cells11 h19
              obtain ⟨c0, c1, c2, c3, c4, c5, c6, c7, c8, c9, c10⟩ := cells11 (HA10.out.kp.is (t := Th.box g17 (.cells #[.int .i64 zk, .string zr, .string zu, .string zz, .string zt, .bool zp, .bool zo, .int .i64 zs, .int .i64 zy, .int .i64 zc, .int .i64 zm] 32 (0, 0))) (List.mem_cons_of_mem _ (List.mem_cons_of_mem _ List.mem_cons_self)) : w10.heap[g17]? = _)
              have hbn : (gb != gb) = false := bne_self_eq_false gb
              have HA11 := Lib.hid (HA10.out.less (ts' := []) (fun t ht => by cases ht))
              have HFN := HFP
              clear HA10 h19 HFT HFP
              go_upto_region 25 with (fail)
              clear d0 d1 d2 d3 d4 d5 d6 d7 d8 d9 d10 c0 c1 c2 c3 c4 c5 c6 c7 c8 c9 c10 hbn heqg
              generalize hpp : p2 = p3 at *
              have HNL : Hid (p3.l.length = nn) := HNN
              have HLL3 := Lib.hid (show p3.l.length ≤ 100000 by have := HFN.out.len; omega)
              have HLE := Lib.hid (fun W v ts (hk : Kp w W b v p3 ts) => pkLen_any hk.pk)
              have HLS := Lib.hid (fun W v ts (hk : Kp w W b v p3 ts) => pkLost_any hk.pk)
              rw [HNL.out] at HLE
              have HD := Lib.hid (HA11.out.later (below_drew _))
              refine wp_region_held_drew (S := fun W => ∃ v, Kp w W b v p3 (Th.box g (p3.box (.slice An nn cn)) :: Th.row LE (.slice An nn cn) p3.l :: [])) (by kernel_rfl) ⟨_, HD.out.kp⟩ (fun hHeld => ?_)
              generalize World.drew _ = wd at HD hHeld ⊢
              have HLO' := Lib.hid HD.out.lo
              have HOF := Lib.hid HD.out.off
              clear HA11 HD HNN
              refine wpAnyH_take (i := 0) (oi := ⟨some 118, _, _, _, _, _⟩) (v := ?vrv0) rfl (by kernel_rfl) (by kernel_rfl) (by kernel_rfl) (fun _ _ _ h => h) (Or.inl ⟨by rfl, ?yrv0⟩) hHeld ?rrv0
              case yrv0 =>
                intro wx hSx
                go_simp
                try with_reducible rfl
              try simp only [Act.put, List.setIfInBounds_toArray, List.set_cons_zero, List.set_cons_succ]
              refine wpAnyH_take (i := 2) (oi := ⟨some 120, _, _, _, _, _⟩) (v := ?vrv2) rfl (by kernel_rfl) (by kernel_rfl) (by kernel_rfl) (fun _ _ _ h => h) (Or.inl ⟨by rfl, ?yrv2⟩) hHeld ?rrv2
              case yrv2 =>
                intro wx hSx
                go_simp
                try with_reducible rfl
              try simp only [Act.put, List.setIfInBounds_toArray, List.set_cons_zero, List.set_cons_succ]
              refine wpAnyH_take (i := 3) (oi := ⟨some 121, _, _, _, _, _⟩) (v := ?vrv3) rfl (by kernel_rfl) (by kernel_rfl) (by kernel_rfl) (fun _ _ _ h => h) (Or.inl ⟨by rfl, ?yrv3⟩) hHeld ?rrv3
              case yrv3 =>
                intro wx hSx
                obtain ⟨v3, h3⟩ := hSx
                obtain ⟨c0, c1, c2⟩ := cells3 (h3.is List.mem_cons_self : wx.heap[g]? = _)
                go_simp
                try with_reducible rfl
              try simp only [Act.put, List.setIfInBounds_toArray, List.set_cons_zero, List.set_cons_succ]
              refine wpAnyH_ready (rs := [1]) (by kernel_rfl) (by simp) ?_
              refine AllReadyH.cons (o := ⟨some 119, _, _, _, _, _⟩) rfl (fun K hK => ?_) AllReadyH.nil
              obtain ⟨v3, h3⟩ := hHeld
              have HC := h3.all_any HLL3.out
              go_simp
              refine HC.mono ?_
              rintro e wa ⟨u2, rfl, -, hk2⟩
              have hsm := sameEdus_any u2 (.slice An nn cn) p3.l p3.l wa (hk2.is List.mem_cons_self) (hk2.is (t := Th.row LE (.slice An nn cn) p3.l) (List.mem_cons_of_mem _ (List.mem_cons_of_mem _ List.mem_cons_self)))
              rw [sameL_self] at hsm
              have HSM := Lib.hid hsm
              refine hK.out _ _ ⟨_, hk2.less (fun t ht => List.mem_cons_of_mem _ ht)⟩ (fun hHeld => ?_)
              clear hK K hsm hk2 HC h3
              try simp only [Act.put, List.setIfInBounds_toArray, List.set_cons_zero, List.set_cons_succ]
              refine wpAnyH_ready (rs := [4]) (by kernel_rfl) (by simp) ?_
              refine AllReadyH.cons (o := ⟨some 122, _, _, _, _, _⟩) rfl (fun K hK => ?_) AllReadyH.nil
              obtain ⟨v3, h3⟩ := hHeld
              go_simp
              refine HSM.out.mono ?_
              rintro e wb ⟨rfl, hb⟩
              refine hK.out _ _ ⟨_, h3.later hb⟩ (fun hHeld => ?_)
              clear hK K hb HSM h3
              try simp only [Act.put, List.setIfInBounds_toArray, List.set_cons_zero, List.set_cons_succ]
              refine wpAnyH_take (i := 5) (oi := ⟨some 123, _, _, _, _, _⟩) (v := ?vrv5) rfl (by kernel_rfl) (by kernel_rfl) (by kernel_rfl) (fun _ _ _ h => h) (Or.inl ⟨by rfl, ?yrv5⟩) hHeld ?rrv5
              case yrv5 =>
                intro wx hSx
                go_simp
                try with_reducible rfl
              try simp only [Act.put, List.setIfInBounds_toArray, List.set_cons_zero, List.set_cons_succ]
              refine wpAnyH_take (i := 6) (oi := ⟨some 124, _, _, _, _, _⟩) (v := ?vrv6) rfl (by kernel_rfl) (by kernel_rfl) (by kernel_rfl) (fun _ _ _ h => h) (Or.inl ⟨by rfl, ?yrv6⟩) hHeld ?rrv6
              case yrv6 =>
                intro wx hSx
                go_simp
                try with_reducible rfl
              try simp only [Act.put, List.setIfInBounds_toArray, List.set_cons_zero, List.set_cons_succ]
              refine wpAnyH_take (i := 7) (oi := ⟨some 125, _, _, _, _, _⟩) (v := ?vrv7) rfl (by kernel_rfl) (by kernel_rfl) (by kernel_rfl) (fun _ _ _ h => h) (Or.inl ⟨by rfl, ?yrv7⟩) hHeld ?rrv7
              case yrv7 =>
                intro wx hSx
                go_simp
                try with_reducible rfl
              try simp only [Act.put, List.setIfInBounds_toArray, List.set_cons_zero, List.set_cons_succ]
              refine wpAnyH_take (i := 9) (oi := ⟨some 127, _, _, _, _, _⟩) (v := ?vrv9) rfl (by kernel_rfl) (by kernel_rfl) (by kernel_rfl) (fun _ _ _ h => h) (Or.inl ⟨by rfl, ?yrv9⟩) hHeld ?rrv9
              case yrv9 =>
                intro wx hSx
                go_simp
                try with_reducible rfl
              try simp only [Act.put, List.setIfInBounds_toArray, List.set_cons_zero, List.set_cons_succ]
              refine wpAnyH_take (i := 10) (oi := ⟨some 128, _, _, _, _, _⟩) (v := ?vrv10) rfl (by kernel_rfl) (by kernel_rfl) (by kernel_rfl) (fun _ _ _ h => h) (Or.inl ⟨by rfl, ?yrv10⟩) hHeld ?rrv10
              case yrv10 =>
                intro wx hSx
                obtain ⟨v3, h3⟩ := hSx
                obtain ⟨c0, c1, c2⟩ := cells3 (h3.is List.mem_cons_self : wx.heap[g]? = _)
                go_simp
                try with_reducible rfl
              try simp only [Act.put, List.setIfInBounds_toArray, List.set_cons_zero, List.set_cons_succ]
              refine wpAnyH_take (i := 11) (oi := ⟨some 129, _, _, _, _, _⟩) (v := ?vrv11) rfl (by kernel_rfl) (by kernel_rfl) (by kernel_rfl) (fun _ _ _ h => h) (Or.inl ⟨by rfl, ?yrv11⟩) hHeld ?rrv11
              case yrv11 =>
                intro wx hSx
                go_simp
                try with_reducible rfl
              try simp only [Act.put, List.setIfInBounds_toArray, List.set_cons_zero, List.set_cons_succ]
              refine wpAnyH_ready (rs := [8]) (by kernel_rfl) (by simp) ?_
              refine AllReadyH.cons (o := ⟨some 126, _, _, _, _, _⟩) rfl (fun K hK => ?_) AllReadyH.nil
              obtain ⟨v3, h3⟩ := hHeld
              go_simp
              refine (HLE.out _ _ _ h3).mono ?_
              rintro e wc ⟨rfl, hb⟩
              refine hK.out _ _ ⟨_, h3.later hb⟩ (fun hHeld => ?_)
              clear hK K hb h3
              try simp only [Act.put, List.setIfInBounds_toArray, List.set_cons_zero, List.set_cons_succ]
              refine wpAnyH_take (i := 12) (oi := ⟨some 130, _, _, _, _, _⟩) (v := ?vrv12) rfl (by kernel_rfl) (by kernel_rfl) (by kernel_rfl) (fun _ _ _ h => h) (Or.inl ⟨by rfl, ?yrv12⟩) hHeld ?rrv12
              case yrv12 =>
                intro wx hSx
                go_simp
                try with_reducible rfl
              try simp only [Act.put, List.setIfInBounds_toArray, List.set_cons_zero, List.set_cons_succ]
              refine wpAnyH_take (i := 13) (oi := ⟨some 131, _, _, _, _, _⟩) (v := ?vrv13) rfl (by kernel_rfl) (by kernel_rfl) (by kernel_rfl) (fun _ _ _ h => h) (Or.inl ⟨by rfl, ?yrv13⟩) hHeld ?rrv13
              case yrv13 =>
                intro wx hSx
                go_simp
                try with_reducible rfl
              try simp only [Act.put, List.setIfInBounds_toArray, List.set_cons_zero, List.set_cons_succ]
              refine wpAnyH_take (i := 14) (oi := ⟨some 132, _, _, _, _, _⟩) (v := ?vrv14) rfl (by kernel_rfl) (by kernel_rfl) (by kernel_rfl) (fun _ _ _ h => h) (Or.inl ⟨by rfl, ?yrv14⟩) hHeld ?rrv14
              case yrv14 =>
                intro wx hSx
                go_simp
                try with_reducible rfl
              try simp only [Act.put, List.setIfInBounds_toArray, List.set_cons_zero, List.set_cons_succ]
              refine wpAnyH_take (i := 15) (oi := ⟨some 133, _, _, _, _, _⟩) (v := ?vrv15) rfl (by kernel_rfl) (by kernel_rfl) (by kernel_rfl) (fun _ _ _ h => h) (Or.inl ⟨by rfl, ?yrv15⟩) hHeld ?rrv15
              case yrv15 =>
                intro wx hSx
                go_simp
                try with_reducible rfl
              try simp only [Act.put, List.setIfInBounds_toArray, List.set_cons_zero, List.set_cons_succ]
              refine wpAnyH_take (i := 17) (oi := ⟨some 135, _, _, _, _, _⟩) (v := ?vrv17) rfl (by kernel_rfl) (by kernel_rfl) (by kernel_rfl) (fun _ _ _ h => h) (Or.inl ⟨by rfl, ?yrv17⟩) hHeld ?rrv17
              case yrv17 =>
                intro wx hSx
                go_simp
                try with_reducible rfl
              try simp only [Act.put, List.setIfInBounds_toArray, List.set_cons_zero, List.set_cons_succ]
              refine wpAnyH_take (i := 18) (oi := ⟨some 136, _, _, _, _, _⟩) (v := ?vrv18) rfl (by kernel_rfl) (by kernel_rfl) (by kernel_rfl) (fun _ _ _ h => h) (Or.inl ⟨by rfl, ?yrv18⟩) hHeld ?rrv18
              case yrv18 =>
                intro wx hSx
                obtain ⟨v3, h3⟩ := hSx
                obtain ⟨c0, c1, c2⟩ := cells3 (h3.is List.mem_cons_self : wx.heap[g]? = _)
                go_simp
                try with_reducible rfl
              try simp only [Act.put, List.setIfInBounds_toArray, List.set_cons_zero, List.set_cons_succ]
              refine wpAnyH_ready (rs := [16]) (by kernel_rfl) (by simp) ?_
              refine AllReadyH.cons (o := ⟨some 134, _, _, _, _, _⟩) rfl (fun K hK => ?_) AllReadyH.nil
              obtain ⟨v3, h3⟩ := hHeld
              go_simp
              refine (HLS.out _ _ _ h3).mono ?_
              rintro e we ⟨rfl, hb⟩
              refine hK.out _ _ ⟨_, h3.later hb⟩ (fun hHeld => ?_)
              clear hK K hb h3
              try simp only [Act.put, List.setIfInBounds_toArray, List.set_cons_zero, List.set_cons_succ]
              refine wpAnyH_take (i := 19) (oi := ⟨some 137, _, _, _, _, _⟩) (v := ?vrv19) rfl (by kernel_rfl) (by kernel_rfl) (by kernel_rfl) (fun _ _ _ h => h) (Or.inl ⟨by rfl, ?yrv19⟩) hHeld ?rrv19
              case yrv19 =>
                intro wx hSx
                go_simp
                try with_reducible rfl
              try simp only [Act.put, List.setIfInBounds_toArray, List.set_cons_zero, List.set_cons_succ]
              refine wpAnyH_take (i := 20) (oi := ⟨some 138, _, _, _, _, _⟩) (v := ?vrv20) rfl (by kernel_rfl) (by kernel_rfl) (by kernel_rfl) (fun _ _ _ h => h) (Or.inl ⟨by rfl, ?yrv20⟩) hHeld ?rrv20
              case yrv20 =>
                intro wx hSx
                go_simp
                try with_reducible rfl
              try simp only [Act.put, List.setIfInBounds_toArray, List.set_cons_zero, List.set_cons_succ]
              refine wpAnyH_done (by kernel_rfl) ?_ _
              obtain ⟨v3, h3⟩ := hHeld
              have HS9 : Hid (∃ v vd p, Bo w we b v p g vd p [] ∧ FitP p m (a + 1)) := Lib.hid ⟨v3, _, p3, ⟨h3, HOF.out, HLO'.out, fun t ht => (by cases ht)⟩, HFN.out⟩
              clear h3 HLE HLS HLO' HOF
              go_wp2_with fail
              refine ⟨⟨a + 1, by go_num, by omega, by omega, HS9⟩, ?_⟩
              simp [intOf]; omega
          · have HBX := Lib.hid HA.out.kp.below
            by_cases hal : a < l.length
            · have q3 : decide ((a : Int) < (l.length : Int)) = true := decide_eq_true (by omega)
              have q4 : decide ((a : Int) < 16) = false := decide_eq_false (by omega)
              go_wp2_with fail
              refine ⟨⟨1 + 1, by go_num, by omega, HBX⟩, ?_⟩
              simp [intOf]
            · have q3 : decide ((a : Int) < (l.length : Int)) = false := decide_eq_false (by omega)
              go_wp2_with fail
              refine ⟨⟨1 + 1, by go_num, by omega, HBX⟩, ?_⟩
              simp [intOf]
    · have q1 : decide ((h : Int) < 2) = false := decide_eq_false (by omega)
      go_wp2_with fail
      go_at_call 20
      refine (HLV.out _).mono ?_
      rintro e w3 ⟨rfl, hb⟩
      have HBL := Lib.hid (HB.out.trans (hb.mono HB.out.size))
      clear hb HB
      go_wp2_with fail
      go_ret
      exact ⟨rfl, HBL.out⟩
end Go.Proofs.Ytimlomflgnnmnaa
