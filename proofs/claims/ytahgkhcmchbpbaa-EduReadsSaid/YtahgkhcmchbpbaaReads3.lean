/-
  The EDU of bytes, or the error, is the document's: the statement EduReads, walked.
-/
import Derived.Test.YtahgkhcmchbpbaaLawKit
import Derived.Test.YtahgkhcmchbpbaaReadQ
import Derived.Test.YtahgkhcmchbpbaaRefReadQ
namespace Go.Proofs.Ytahgkhcmchbpbaa
open Go.RowKit
set_option linter.unusedVariables false
set_option linter.unusedSimpArgs false
set_option maxRecDepth 4000

theorem ArgB.piece {w : World} {A : Option Addr} {len cap : Nat} {bs : List UInt8} (h : ArgB w A len cap bs) {m : Nat} (hm : m ≤ len) : ArgQ w w.heap.size (.slice A m cap) (bs.take m) := by
  obtain ⟨h1, h2, h3, h4, h5⟩ := h
  have hl : (bs.take m).length = m := by rw [List.length_take]; omega
  refine ⟨A, cap, by rw [hl], by omega, h3, h4, fun h0 => ?_⟩
  cases A with
  | none => have := h4 rfl; omega
  | some a =>
    obtain ⟨b, off, spot⟩ := a
    have hb : 0 < bs.length := by omega
    have hc := h5 _ rfl 0 _ (List.getElem?_eq_getElem hb)
    have hspot : spot = none := by simpa [Addr.add] using World.cell?_spot hc
    subst hspot
    refine ⟨b, off, rfl, ?_, fun j x hx => ?_⟩
    · exact World.block_lt_of_cell? w _ hc
    · rw [List.getElem?_take] at hx
      split at hx
      · have := h5 _ rfl j x hx
        rw [Go.WideShapes.add_plain] at this
        exact this
      · cases hx

set_option maxHeartbeats 12800000 in
theorem eduReads_walk (A : Option Addr) (len cap : Nat) (bs : List UInt8) (e : Edu) (n c : Int) (w : World) (hA : ArgB w A len cap bs) (ef : e.fits) (e3 : e.event.size ≤ maxLen) (e4 : e.thread.size ≤ maxLen) (n0 : -9223372036854775808 ≤ n) (n1 : n ≤ 9223372036854775807) (c0 : 0 ≤ c) (c1 : c ≤ 255) :
    Calls Try.prog 4 #[.slice A len cap, e.val, .int .i64 n, .int .u8 c] w fun x w' => x = .returned (.bool true) ∧ Below w.heap.size w w' := by
  have HP := Lib.hid (fun w => public_any e w ef e3 e4)
  have mx := public_may e
  generalize publicE e = p at *
  have fx := local_fits (may_local mx)
  have sx := local_short (may_local mx)
  have HB := Lib.hid (fun w => refBytes_any p w fx sx)
  have hlo := bytes_len fx sx
  have hpo : 0 < (bytesB p).length := by
    unfold bytesB
    rw [List.length_append]
    have := digs_pos (natI p.kind)
    omega
  generalize bytesB p = oy at *
  clear ef e3 e4 mx fx sx
  have HAr := Lib.hid (fun w => around_any n (oy.length : Int) w n0 n1 (by omega) (by omega))
  obtain ⟨k, hk, hkl⟩ : ∃ k : Nat, aroundI n (oy.length : Int) = (k : Int) ∧ k < oy.length := by
    have := aroundI_bd n (oy.length : Int) (by omega)
    exact ⟨(aroundI n (oy.length : Int)).toNat, by omega, by omega⟩
  rw [hk] at HAr
  clear hk n0 n1
  obtain ⟨x, hx⟩ : ∃ x : UInt8, bV x = .int .u8 c := ⟨UInt8.ofNat c.toNat, by unfold bV; rw [toNat_ofNat (by omega)]; congr 2; omega⟩
  have hxc : (x.toNat : Int) = c := by unfold bV at hx; injection hx
  obtain ⟨m, hm⟩ : ∃ m, m = min len 60 := ⟨_, rfl⟩
  have hml : m ≤ len := by omega
  have hm60 : m ≤ 60 := by omega
  have Hm := Lib.hid hm
  clear hm
  have HQ := Lib.hid (hA.piece hml)
  have hlt : (bs.take m).length = m := by rw [List.length_take]; have := hA.1; omega
  have hcap := hA.2.1
  have hcm := hA.2.2.1
  unfold maxLen at hcm
  clear hA
  generalize bs.take m = ts at *
  simp only [Edu.val] at *
  go_enter Try.func4, Try.ntmps4
  go_upto_region 1 with (fail)
  have HK : Keep w _ _ (w.alloc (.cells #[.int .i64 e.kind, .string e.room, .string e.user, .string e.event, .string e.thread, .bool e.priv, .bool e.on, .int .i64 e.span, .int .i64 e.state, .int .i64 e.tick, .int .i64 e.stamp] 23)) := ((Keep.refl w).new #[.int .i64 e.kind, .string e.room, .string e.user, .string e.event, .string e.thread, .bool e.priv, .bool e.on, .int .i64 e.span, .int .i64 e.state, .int .i64 e.tick, .int .i64 e.stamp] 23)
  try simp only [size_alloc1] at HK
  replace HK := Lib.hid (show Keep w [(w.heap.size, #[.int .i64 e.kind, .string e.room, .string e.user, .string e.event, .string e.thread, .bool e.priv, .bool e.on, .int .i64 e.span, .int .i64 e.state, .int .i64 e.tick, .int .i64 e.stamp], 23)] [] (w.alloc (.cells #[.int .i64 e.kind, .string e.room, .string e.user, .string e.event, .string e.thread, .bool e.priv, .bool e.on, .int .i64 e.span, .int .i64 e.state, .int .i64 e.tick, .int .i64 e.stamp] 23)) from HK)
  generalize hW : (w.alloc (.cells #[.int .i64 e.kind, .string e.room, .string e.user, .string e.event, .string e.thread, .bool e.priv, .bool e.on, .int .i64 e.span, .int .i64 e.state, .int .i64 e.tick, .int .i64 e.stamp] 23)) = W0 at HK ⊢
  clear hW
  obtain ⟨c0_0, c0_1, c0_2, c0_3, c0_4, c0_5, c0_6, c0_7, c0_8, c0_9, c0_10⟩ := cells11 (HK.out.st 0 rfl)
  go_wp2_with fail
  clear c0_0 c0_1 c0_2 c0_3 c0_4 c0_5 c0_6 c0_7 c0_8 c0_9 c0_10
  refine (HP.out _).mono ?_
  rintro e w1 ⟨rfl, hb⟩
  replace HK := Lib.hid (HK.out.later hb)
  clear hb
  go_wp2_with fail
  refine (HB.out _).mono ?_
  rintro e w2 ⟨⟨g2, cap2, rfl, hg, ho⟩, hb⟩
  replace HK := Lib.hid (show Keep w [(w.heap.size, #[.int .i64 e.kind, .string e.room, .string e.user, .string e.event, .string e.thread, .bool e.priv, .bool e.on, .int .i64 e.span, .int .i64 e.state, .int .i64 e.tick, .int .i64 e.stamp], 23)] [(.slice (some ⟨g2, 0, none⟩) oy.length cap2, oy)] w2 from (HK.out.later hb).consR (ho.row (Nat.zero_le _)))
  clear hb ho hg
  go_wp2_with fail
  refine (HAr.out _).mono ?_
  rintro e wz ⟨rfl, rfl⟩
  have HS := Lib.hid (Src.ofRow rfl (HK.out.row 0 rfl))
  have HPn : Hid (Puts w2 w2.heap.size (.slice none 0 0) []) := Lib.hid (.inl ⟨none, rfl, Row.nil _ _⟩)
  go_upto_region 5 with (at_builtin; refine wpList_puts rfl (.tmp 26) (.tmp 27) _ rfl rfl HPn.out (Nat.le_refl _) _ _ oy rfl rfl HS.out (.inl hpo) (by simp; omega) ?_; rintro go capo wo hgo hoo hbo)
  rw [List.nil_append] at hoo
  clear HS HPn
  have hcell := hoo.cells k _ (List.getElem?_eq_getElem hkl)
  have hfr : wo.frozen? ⟨go, k, none⟩ = false := by obtain ⟨cur, hh, _⟩ := hoo; exact free_at hh k
  have hk2 : (k : Int) < (oy.length : Int) := by omega
  have HOo := Lib.hid hoo
  clear hoo
  unfold bV at hcell
  go_upto_region 6 with (fail)
  have hset := HOo.out.set k x
  rw [hx] at hset
  have hol : (oy.set k x).length = oy.length := List.length_set
  generalize oy.set k x = od at *
  replace HK := Lib.hid (show Keep w [(w.heap.size, #[.int .i64 e.kind, .string e.room, .string e.user, .string e.event, .string e.thread, .bool e.priv, .bool e.on, .int .i64 e.span, .int .i64 e.state, .int .i64 e.tick, .int .i64 e.stamp], 23)] [(.slice (some ⟨go, 0, none⟩) oy.length capo, od), (.slice (some ⟨g2, 0, none⟩) oy.length cap2, oy)] (wo.setCell ⟨go, k, none⟩ (.int .u8 c)) from (HK.out.later (hbo.setCell (p := ⟨go, k, none⟩) hgo (.int .u8 c))).consR (by rw [← hol]; exact hset.row (Nat.zero_le _)))
  generalize hW7 : (wo.setCell ⟨go, k, none⟩ (.int .u8 c)) = w7 at HK ⊢
  clear hW7 hset HOo hcell hfr hk2 hbo hgo hx
  clear wo
  have HS := Lib.hid (Src.ofRow rfl (HK.out.row 1 rfl))
  have HPn : Hid (Puts w7 w7.heap.size (.slice none 0 0) []) := Lib.hid (.inl ⟨none, rfl, Row.nil _ _⟩)
  go_upto_region 8 with (at_builtin; refine wpList_puts rfl (.tmp 33) (.tmp 34) _ rfl rfl HPn.out (Nat.le_refl _) _ _ oy rfl rfl HS.out (.inl hpo) (by simp; omega) ?_; rintro gm capm wm hgm hom hbm)
  rw [List.nil_append] at hom
  clear HS HPn
  have HS2 := Lib.hid (Src.ofLit wm x c hxc wm.heap.size rfl)
  have HP2 := Lib.hid (show Puts (wm.alloc (.cells #[.int .u8 c] 5)) w7.heap.size (.slice (some ⟨gm, 0, none⟩) oy.length capm) oy from .inr ⟨gm, capm, rfl, hgm, hom.below (below_new wm _)⟩)
  have HSz := Lib.hid (show w7.heap.size ≤ (wm.alloc (.cells #[.int .u8 c] 5)).heap.size by rw [size_alloc1]; have := hbm.size; omega)
  have HBm := Lib.hid (hbm.alloc (hbm.size) (.cells #[.int .u8 c] 5))
  clear hom hbm hgm
  go_upto_region 9 with (at_builtin; refine wpList_puts rfl (.tmp 36) (.tmp 38) _ rfl rfl HP2.out HSz.out _ 1 [x] rfl rfl HS2.out (.inl (by decide)) (by omega) ?_; rintro gn capn wn hgn hon hbn)
  have hnl : (oy ++ [x]).length = oy.length + 1 := by rw [List.length_append]; rfl
  generalize oy ++ [x] = mr at *
  replace HK := Lib.hid (show Keep w [(w.heap.size, #[.int .i64 e.kind, .string e.room, .string e.user, .string e.event, .string e.thread, .bool e.priv, .bool e.on, .int .i64 e.span, .int .i64 e.state, .int .i64 e.tick, .int .i64 e.stamp], 23)] [(.slice (some ⟨gn, 0, none⟩) (oy.length + 1) capn, mr), (.slice (some ⟨go, 0, none⟩) oy.length capo, od), (.slice (some ⟨g2, 0, none⟩) oy.length cap2, oy)] wn from (HK.out.later (HBm.out.trans hbn)).consR (by rw [← hnl]; exact hon.row (Nat.zero_le _)))
  clear hon hbn HBm HSz HP2 HS2 hgn
  have hcp : oy.length ≤ cap2 ∧ cap2 ≤ 9223372036854775807 := by
    obtain ⟨A', c', hv, h1, h2, _⟩ := (HK.out.row 2 rfl).shape
    injection hv with _ _ hv
    unfold maxLen at h2
    omega
  refine wp_region_held_drew (S := fun w' => Keep w [(w.heap.size, #[.int .i64 e.kind, .string e.room, .string e.user, .string e.event, .string e.thread, .bool e.priv, .bool e.on, .int .i64 e.span, .int .i64 e.state, .int .i64 e.tick, .int .i64 e.stamp], 23)] [(.slice (some ⟨gn, 0, none⟩) (oy.length + 1) capn, mr), (.slice (some ⟨go, 0, none⟩) oy.length capo, od), (.slice (some ⟨g2, 0, none⟩) oy.length cap2, oy)] w') (by kernel_rfl) HK.out.drew (fun hHeld => ?_)
  generalize hwd : wn.drew = wd at hHeld ⊢
  clear HK hwd
  refine wpAnyH_take (i := 0) (oi := ⟨some 40, _, _, _, _, _⟩) (v := ?v0) rfl (by kernel_rfl) (by kernel_rfl) (by kernel_rfl) (fun _ _ _ h => h) (Or.inl ⟨by rfl, ?y0⟩) hHeld ?r0
  case y0 =>
    intro wx hSx
    go_simp
    try with_reducible rfl
  try simp only [Act.put, List.setIfInBounds_toArray, List.set_cons_zero, List.set_cons_succ]
  refine wpAnyH_take (i := 1) (oi := ⟨some 41, _, _, _, _, _⟩) (v := ?v1) rfl (by kernel_rfl) (by kernel_rfl) (by kernel_rfl) (fun _ _ _ h => h) (Or.inl ⟨by rfl, ?y1⟩) hHeld ?r1
  case y1 =>
    intro wx hSx
    go_simp
    try with_reducible rfl
  try simp only [Act.put, List.setIfInBounds_toArray, List.set_cons_zero, List.set_cons_succ]
  refine wpAnyH_take (i := 2) (oi := ⟨some 42, _, _, _, _, _⟩) (v := ?v2) rfl (by kernel_rfl) (by kernel_rfl) (by kernel_rfl) (fun _ _ _ h => h) (Or.inl ⟨by rfl, ?y2⟩) hHeld ?r2
  case y2 =>
    intro wx hSx
    go_simp
    try with_reducible rfl
  try simp only [Act.put, List.setIfInBounds_toArray, List.set_cons_zero, List.set_cons_succ]
  refine wpAnyH_take (i := 3) (oi := ⟨some 43, _, _, _, _, _⟩) (v := ?v3) rfl (by kernel_rfl) (by kernel_rfl) (by kernel_rfl) (fun _ _ _ h => h) (Or.inl ⟨by rfl, ?y3⟩) hHeld ?r3
  case y3 =>
    intro wx hSx
    go_simp
    try with_reducible rfl
  try simp only [Act.put, List.setIfInBounds_toArray, List.set_cons_zero, List.set_cons_succ]
  refine wpAnyH_take (i := 5) (oi := ⟨some 45, _, _, _, _, _⟩) (v := ?v5) rfl (by kernel_rfl) (by kernel_rfl) (by kernel_rfl) (fun _ _ _ h => h) (Or.inl ⟨by rfl, ?y5⟩) hHeld ?r5
  case y5 =>
    intro wx hSx
    go_simp
    try with_reducible rfl
  try simp only [Act.put, List.setIfInBounds_toArray, List.set_cons_zero, List.set_cons_succ]
  refine wpAnyH_take (i := 6) (oi := ⟨some 46, _, _, _, _, _⟩) (v := ?v6) rfl (by kernel_rfl) (by kernel_rfl) (by kernel_rfl) (fun _ _ _ h => h) (Or.inl ⟨by rfl, ?y6⟩) hHeld ?r6
  case y6 =>
    intro wx hSx
    go_simp
    try with_reducible rfl
  try simp only [Act.put, List.setIfInBounds_toArray, List.set_cons_zero, List.set_cons_succ]
  refine wpAnyH_take (i := 7) (oi := ⟨some 47, _, _, _, _, _⟩) (v := ?v7) rfl (by kernel_rfl) (by kernel_rfl) (by kernel_rfl) (fun _ _ _ h => h) (Or.inl ⟨by rfl, ?y7⟩) hHeld ?r7
  case y7 =>
    intro wx hSx
    go_simp
    try with_reducible rfl
  try simp only [Act.put, List.setIfInBounds_toArray, List.set_cons_zero, List.set_cons_succ]
  refine wpAnyH_take (i := 8) (oi := ⟨some 48, _, _, _, _, _⟩) (v := ?v8) rfl (by kernel_rfl) (by kernel_rfl) (by kernel_rfl) (fun _ _ _ h => h) (Or.inl ⟨by rfl, ?y8⟩) hHeld ?r8
  case y8 =>
    intro wx hSx
    go_simp
    try with_reducible rfl
  try simp only [Act.put, List.setIfInBounds_toArray, List.set_cons_zero, List.set_cons_succ]
  refine wpAnyH_take (i := 10) (oi := ⟨some 50, _, _, _, _, _⟩) (v := ?v10) rfl (by kernel_rfl) (by kernel_rfl) (by kernel_rfl) (fun _ _ _ h => h) (Or.inl ⟨by rfl, ?y10⟩) hHeld ?r10
  case y10 =>
    intro wx hSx
    go_simp
    try with_reducible rfl
  try simp only [Act.put, List.setIfInBounds_toArray, List.set_cons_zero, List.set_cons_succ]
  rw [show min (len : Int) 60 = (m : Int) by have := Hm.out; omega]
  refine wpAnyH_take (i := 4) (oi := ⟨some 44, _, _, _, _, _⟩) (v := ?v4) rfl (by kernel_rfl) (by kernel_rfl) (by kernel_rfl) (fun _ _ _ h => h) (Or.inl ⟨by rfl, ?y4⟩) hHeld ?r4
  case y4 =>
    intro wx hSx
    have x1 : (m : Int) ≤ (cap : Int) := by omega
    have x2 : (m : Int) ≤ 9223372036854775807 := by omega
    go_simp
    try with_reducible rfl
  try simp only [Act.put, List.setIfInBounds_toArray, List.set_cons_zero, List.set_cons_succ]
  refine wpAnyH_take (i := 9) (oi := ⟨some 49, _, _, _, _, _⟩) (v := ?v9) rfl (by kernel_rfl) (by kernel_rfl) (by kernel_rfl) (fun _ _ _ h => h) (Or.inl ⟨by rfl, ?y9⟩) hHeld ?r9
  case y9 =>
    intro wx hSx
    have x1 : (k : Int) ≤ (cap2 : Int) := by omega
    have x2 : (k : Int) ≤ 9223372036854775807 := by omega
    go_simp
    try with_reducible rfl
  try simp only [Act.put, List.setIfInBounds_toArray, List.set_cons_zero, List.set_cons_succ]
  refine wpAnyH_ready (rs := [11]) (by kernel_rfl) (by simp) ?_
  refine AllReadyH.cons (o := ⟨some 51, _, _, _, _, _⟩) rfl (fun K hK => ?_) AllReadyH.nil
  go_simp
  have HK := Lib.hid (hHeld.new #[.slice A m cap, .slice (some ⟨g2, 0, none⟩) oy.length cap2, .slice (some ⟨go, 0, none⟩) oy.length capo, .slice (some ⟨g2, 0, none⟩) k cap2, .slice (some ⟨gn, 0, none⟩) (oy.length + 1) capn] 28)
  refine hK.out _ _ (hHeld.later (below_new wd _)) (fun hHeld => ?_)
  clear hK K
  try simp only [Act.put, List.setIfInBounds_toArray, List.set_cons_zero, List.set_cons_succ]
  generalize hW : (wd.alloc (.cells #[.slice A m cap, .slice (some ⟨g2, 0, none⟩) oy.length cap2, .slice (some ⟨go, 0, none⟩) oy.length capo, .slice (some ⟨g2, 0, none⟩) k cap2, .slice (some ⟨gn, 0, none⟩) (oy.length + 1) capn] 28)) = wl at HK hHeld ⊢
  generalize hg : wd.heap.size = L at HK ⊢
  clear hW hg
  refine wpAnyH_take (i := 12) (oi := ⟨some 13, _, _, _, _, _⟩) (v := ?v12) rfl (by kernel_rfl) (by kernel_rfl) (by kernel_rfl) (fun _ _ _ h => h) (Or.inl ⟨by rfl, ?y12⟩) hHeld ?r12
  case y12 =>
    intro wx hSx
    go_simp
    try with_reducible rfl
  try simp only [Act.put, List.setIfInBounds_toArray, List.set_cons_zero, List.set_cons_succ]
  refine wpAnyH_done (by kernel_rfl) ?_ _
  clear hHeld
  go_wp2_with fail
  go_loopw [14] (fun i wr => ∃ j : Nat, j ≤ 5 ∧ i = .int .i64 (j : Int) ∧ Hid (Keep w [(L, #[.slice A m cap, .slice (some ⟨g2, 0, none⟩) oy.length cap2, .slice (some ⟨go, 0, none⟩) oy.length capo, .slice (some ⟨g2, 0, none⟩) k cap2, .slice (some ⟨gn, 0, none⟩) (oy.length + 1) capn], 28), (w.heap.size, #[.int .i64 e.kind, .string e.room, .string e.user, .string e.event, .string e.thread, .bool e.priv, .bool e.on, .int .i64 e.span, .int .i64 e.state, .int .i64 e.tick, .int .i64 e.stamp], 23)] [(.slice (some ⟨gn, 0, none⟩) (oy.length + 1) capn, mr), (.slice (some ⟨go, 0, none⟩) oy.length capo, od), (.slice (some ⟨g2, 0, none⟩) oy.length cap2, oy)] wr)) (fun i _ => 5 - (intOf i).toNat)
  case atStart => exact ⟨0, by omega, rfl, HK⟩
  case round =>
    obtain ⟨j, hj, rfl, HK⟩ := hrel
    rcases (show j = 0 ∨ j = 1 ∨ j = 2 ∨ j = 3 ∨ j = 4 ∨ j = 5 by omega) with rfl | rfl | rfl | rfl | rfl | rfl
    · have hs := answer_same ts
      have HEs := Lib.hid (eql_edu (answerE 1000 ts) (answerE 1000 ts))
      rw [(eqE_iff _ _).2 rfl] at HEs
      simp only [Edu.val] at HEs
      have hc : World.cell? _ ⟨L, 0, none⟩ = some (.slice A m cap) := cell_at (HK.out.st 0 rfl) 0
      go_wp2_with fail
      clear hc
      have hcall := readEduQ_any _ ts w.heap.size _ (HQ.out.below HK.out.1) (by omega)
      rw [hs.1, hs.2] at hcall
      generalize hae : answerE 1000 ts = ae at hcall HEs
      generalize han : answerN 1000 ts = an at hcall
      simp only [Edu.val] at hcall
      refine (hcall).mono ?_
      rintro e w3 ⟨rfl, hb⟩
      replace HK := Lib.hid (HK.out.later hb)
      clear hb
      clear hcall hs
      go_upto_region 14 with (fail)
      replace HK := Lib.hid (HK.out.new #[.int .i64 ae.kind, .string ae.room, .string ae.user, .string ae.event, .string ae.thread, .bool ae.priv, .bool ae.on, .int .i64 ae.span, .int .i64 ae.state, .int .i64 ae.tick, .int .i64 ae.stamp] 23)
      generalize hW : (w3.alloc (.cells #[.int .i64 ae.kind, .string ae.room, .string ae.user, .string ae.event, .string ae.thread, .bool ae.priv, .bool ae.on, .int .i64 ae.span, .int .i64 ae.state, .int .i64 ae.tick, .int .i64 ae.stamp] 23)) = w4 at HK ⊢
      generalize hg : w3.heap.size = b4 at HK ⊢
      clear hW hg
      have hc : World.cell? _ ⟨L, 0, none⟩ = some (.slice A m cap) := cell_at (HK.out.st 1 rfl) 0
      go_wp2_with fail
      clear hc
      have hcall := refReadQ_any _ ts _ ((HQ.out.below HK.out.1).more HK.out.1.size) (by omega)
      rw [hae, han] at hcall
      simp only [Edu.val] at hcall
      refine (hcall).mono ?_
      rintro e w5 ⟨rfl, hb⟩
      replace HK := Lib.hid (HK.out.later hb)
      clear hb
      clear hcall
      go_upto_region 15 with (fail)
      replace HK := Lib.hid (HK.out.new #[.int .i64 ae.kind, .string ae.room, .string ae.user, .string ae.event, .string ae.thread, .bool ae.priv, .bool ae.on, .int .i64 ae.span, .int .i64 ae.state, .int .i64 ae.tick, .int .i64 ae.stamp] 23)
      generalize hW : (w5.alloc (.cells #[.int .i64 ae.kind, .string ae.room, .string ae.user, .string ae.event, .string ae.thread, .bool ae.priv, .bool ae.on, .int .i64 ae.span, .int .i64 ae.state, .int .i64 ae.tick, .int .i64 ae.stamp] 23)) = w6 at HK ⊢
      generalize hg : w5.heap.size = b6 at HK ⊢
      clear hW hg
      obtain ⟨c0_0, c0_1, c0_2, c0_3, c0_4, c0_5, c0_6, c0_7, c0_8, c0_9, c0_10⟩ := cells11 (HK.out.st 0 rfl)
      obtain ⟨c1_0, c1_1, c1_2, c1_3, c1_4, c1_5, c1_6, c1_7, c1_8, c1_9, c1_10⟩ := cells11 (HK.out.st 1 rfl)
      have heq := HEs.out
      go_wp2_with fail
      clear c0_0 c0_1 c0_2 c0_3 c0_4 c0_5 c0_6 c0_7 c0_8 c0_9 c0_10 c1_0 c1_1 c1_2 c1_3 c1_4 c1_5 c1_6 c1_7 c1_8 c1_9 c1_10
      clear heq
      go_roundw
      case rel => exact ⟨1, by omega, by go_num, Lib.hid ⟨HK.out.1, fun p hp => HK.out.2.1 p (List.mem_cons_of_mem _ (List.mem_cons_of_mem _ hp)), HK.out.2.2⟩⟩
      case measure => simp [intOf]
    · have hs := answer_same oy
      have HEs := Lib.hid (eql_edu (answerE 1000 oy) (answerE 1000 oy))
      rw [(eqE_iff _ _).2 rfl] at HEs
      simp only [Edu.val] at HEs
      have hc : World.cell? _ ⟨L, 1, none⟩ = some (.slice (some ⟨g2, 0, none⟩) oy.length cap2) := cell_at (HK.out.st 0 rfl) 1
      go_wp2_with fail
      clear hc
      have hcall := readEdu_any _ oy 0 _ (HK.out.row 2 rfl) (by omega)
      rw [hs.1, hs.2] at hcall
      generalize hae : answerE 1000 oy = ae at hcall HEs
      generalize han : answerN 1000 oy = an at hcall
      simp only [Edu.val] at hcall
      refine (hcall).mono ?_
      rintro e w3 ⟨rfl, hb⟩
      replace HK := Lib.hid (HK.out.later hb)
      clear hb
      clear hcall hs
      go_upto_region 14 with (fail)
      replace HK := Lib.hid (HK.out.new #[.int .i64 ae.kind, .string ae.room, .string ae.user, .string ae.event, .string ae.thread, .bool ae.priv, .bool ae.on, .int .i64 ae.span, .int .i64 ae.state, .int .i64 ae.tick, .int .i64 ae.stamp] 23)
      generalize hW : (w3.alloc (.cells #[.int .i64 ae.kind, .string ae.room, .string ae.user, .string ae.event, .string ae.thread, .bool ae.priv, .bool ae.on, .int .i64 ae.span, .int .i64 ae.state, .int .i64 ae.tick, .int .i64 ae.stamp] 23)) = w4 at HK ⊢
      generalize hg : w3.heap.size = b4 at HK ⊢
      clear hW hg
      have hc : World.cell? _ ⟨L, 1, none⟩ = some (.slice (some ⟨g2, 0, none⟩) oy.length cap2) := cell_at (HK.out.st 1 rfl) 1
      go_wp2_with fail
      clear hc
      have hcall := refReadE_any _ oy 0 _ (HK.out.row 2 rfl) (by omega)
      rw [hae, han] at hcall
      simp only [Edu.val] at hcall
      refine (hcall).mono ?_
      rintro e w5 ⟨rfl, hb⟩
      replace HK := Lib.hid (HK.out.later hb)
      clear hb
      clear hcall
      go_upto_region 15 with (fail)
      replace HK := Lib.hid (HK.out.new #[.int .i64 ae.kind, .string ae.room, .string ae.user, .string ae.event, .string ae.thread, .bool ae.priv, .bool ae.on, .int .i64 ae.span, .int .i64 ae.state, .int .i64 ae.tick, .int .i64 ae.stamp] 23)
      generalize hW : (w5.alloc (.cells #[.int .i64 ae.kind, .string ae.room, .string ae.user, .string ae.event, .string ae.thread, .bool ae.priv, .bool ae.on, .int .i64 ae.span, .int .i64 ae.state, .int .i64 ae.tick, .int .i64 ae.stamp] 23)) = w6 at HK ⊢
      generalize hg : w5.heap.size = b6 at HK ⊢
      clear hW hg
      obtain ⟨c0_0, c0_1, c0_2, c0_3, c0_4, c0_5, c0_6, c0_7, c0_8, c0_9, c0_10⟩ := cells11 (HK.out.st 0 rfl)
      obtain ⟨c1_0, c1_1, c1_2, c1_3, c1_4, c1_5, c1_6, c1_7, c1_8, c1_9, c1_10⟩ := cells11 (HK.out.st 1 rfl)
      have heq := HEs.out
      go_wp2_with fail
      clear c0_0 c0_1 c0_2 c0_3 c0_4 c0_5 c0_6 c0_7 c0_8 c0_9 c0_10 c1_0 c1_1 c1_2 c1_3 c1_4 c1_5 c1_6 c1_7 c1_8 c1_9 c1_10
      clear heq
      go_roundw
      case rel => exact ⟨2, by omega, by go_num, Lib.hid ⟨HK.out.1, fun p hp => HK.out.2.1 p (List.mem_cons_of_mem _ (List.mem_cons_of_mem _ hp)), HK.out.2.2⟩⟩
      case measure => simp [intOf]
    · have hs := answer_same od
      have HEs := Lib.hid (eql_edu (answerE 1000 od) (answerE 1000 od))
      rw [(eqE_iff _ _).2 rfl] at HEs
      simp only [Edu.val] at HEs
      have hc : World.cell? _ ⟨L, 2, none⟩ = some (.slice (some ⟨go, 0, none⟩) oy.length capo) := cell_at (HK.out.st 0 rfl) 2
      go_wp2_with fail
      clear hc
      have hcall := readEdu_any _ od 0 _ (HK.out.row 1 rfl) (by omega)
      rw [hs.1, hs.2] at hcall
      generalize hae : answerE 1000 od = ae at hcall HEs
      generalize han : answerN 1000 od = an at hcall
      simp only [Edu.val] at hcall
      refine (hcall).mono ?_
      rintro e w3 ⟨rfl, hb⟩
      replace HK := Lib.hid (HK.out.later hb)
      clear hb
      clear hcall hs
      go_upto_region 14 with (fail)
      replace HK := Lib.hid (HK.out.new #[.int .i64 ae.kind, .string ae.room, .string ae.user, .string ae.event, .string ae.thread, .bool ae.priv, .bool ae.on, .int .i64 ae.span, .int .i64 ae.state, .int .i64 ae.tick, .int .i64 ae.stamp] 23)
      generalize hW : (w3.alloc (.cells #[.int .i64 ae.kind, .string ae.room, .string ae.user, .string ae.event, .string ae.thread, .bool ae.priv, .bool ae.on, .int .i64 ae.span, .int .i64 ae.state, .int .i64 ae.tick, .int .i64 ae.stamp] 23)) = w4 at HK ⊢
      generalize hg : w3.heap.size = b4 at HK ⊢
      clear hW hg
      have hc : World.cell? _ ⟨L, 2, none⟩ = some (.slice (some ⟨go, 0, none⟩) oy.length capo) := cell_at (HK.out.st 1 rfl) 2
      go_wp2_with fail
      clear hc
      have hcall := refReadE_any _ od 0 _ (HK.out.row 1 rfl) (by omega)
      rw [hae, han] at hcall
      simp only [Edu.val] at hcall
      refine (hcall).mono ?_
      rintro e w5 ⟨rfl, hb⟩
      replace HK := Lib.hid (HK.out.later hb)
      clear hb
      clear hcall
      go_upto_region 15 with (fail)
      replace HK := Lib.hid (HK.out.new #[.int .i64 ae.kind, .string ae.room, .string ae.user, .string ae.event, .string ae.thread, .bool ae.priv, .bool ae.on, .int .i64 ae.span, .int .i64 ae.state, .int .i64 ae.tick, .int .i64 ae.stamp] 23)
      generalize hW : (w5.alloc (.cells #[.int .i64 ae.kind, .string ae.room, .string ae.user, .string ae.event, .string ae.thread, .bool ae.priv, .bool ae.on, .int .i64 ae.span, .int .i64 ae.state, .int .i64 ae.tick, .int .i64 ae.stamp] 23)) = w6 at HK ⊢
      generalize hg : w5.heap.size = b6 at HK ⊢
      clear hW hg
      obtain ⟨c0_0, c0_1, c0_2, c0_3, c0_4, c0_5, c0_6, c0_7, c0_8, c0_9, c0_10⟩ := cells11 (HK.out.st 0 rfl)
      obtain ⟨c1_0, c1_1, c1_2, c1_3, c1_4, c1_5, c1_6, c1_7, c1_8, c1_9, c1_10⟩ := cells11 (HK.out.st 1 rfl)
      have heq := HEs.out
      go_wp2_with fail
      clear c0_0 c0_1 c0_2 c0_3 c0_4 c0_5 c0_6 c0_7 c0_8 c0_9 c0_10 c1_0 c1_1 c1_2 c1_3 c1_4 c1_5 c1_6 c1_7 c1_8 c1_9 c1_10
      clear heq
      go_roundw
      case rel => exact ⟨3, by omega, by go_num, Lib.hid ⟨HK.out.1, fun p hp => HK.out.2.1 p (List.mem_cons_of_mem _ (List.mem_cons_of_mem _ hp)), HK.out.2.2⟩⟩
      case measure => simp [intOf]
    · have HRk := Lib.hid (fun (w' : World) (h : Row w' 0 (.slice (some ⟨g2, 0, none⟩) oy.length cap2) oy) => show Row w' 0 (.slice (some ⟨g2, 0, none⟩) k cap2) (oy.take k) from Row.head h (by omega))
      have hs := answer_same (oy.take k)
      have HEs := Lib.hid (eql_edu (answerE 1000 (oy.take k)) (answerE 1000 (oy.take k)))
      rw [(eqE_iff _ _).2 rfl] at HEs
      simp only [Edu.val] at HEs
      have hc : World.cell? _ ⟨L, 3, none⟩ = some (.slice (some ⟨g2, 0, none⟩) k cap2) := cell_at (HK.out.st 0 rfl) 3
      go_wp2_with fail
      clear hc
      have hcall := readEdu_any _ (oy.take k) 0 _ (HRk.out _ (HK.out.row 2 rfl)) (by rw [List.length_take]; omega)
      rw [hs.1, hs.2] at hcall
      generalize hae : answerE 1000 (oy.take k) = ae at hcall HEs
      generalize han : answerN 1000 (oy.take k) = an at hcall
      simp only [Edu.val] at hcall
      refine (hcall).mono ?_
      rintro e w3 ⟨rfl, hb⟩
      replace HK := Lib.hid (HK.out.later hb)
      clear hb
      clear hcall hs
      go_upto_region 14 with (fail)
      replace HK := Lib.hid (HK.out.new #[.int .i64 ae.kind, .string ae.room, .string ae.user, .string ae.event, .string ae.thread, .bool ae.priv, .bool ae.on, .int .i64 ae.span, .int .i64 ae.state, .int .i64 ae.tick, .int .i64 ae.stamp] 23)
      generalize hW : (w3.alloc (.cells #[.int .i64 ae.kind, .string ae.room, .string ae.user, .string ae.event, .string ae.thread, .bool ae.priv, .bool ae.on, .int .i64 ae.span, .int .i64 ae.state, .int .i64 ae.tick, .int .i64 ae.stamp] 23)) = w4 at HK ⊢
      generalize hg : w3.heap.size = b4 at HK ⊢
      clear hW hg
      have hc : World.cell? _ ⟨L, 3, none⟩ = some (.slice (some ⟨g2, 0, none⟩) k cap2) := cell_at (HK.out.st 1 rfl) 3
      go_wp2_with fail
      clear hc
      have hcall := refReadE_any _ (oy.take k) 0 _ (HRk.out _ (HK.out.row 2 rfl)) (by rw [List.length_take]; omega)
      rw [hae, han] at hcall
      simp only [Edu.val] at hcall
      refine (hcall).mono ?_
      rintro e w5 ⟨rfl, hb⟩
      replace HK := Lib.hid (HK.out.later hb)
      clear hb
      clear hcall
      go_upto_region 15 with (fail)
      replace HK := Lib.hid (HK.out.new #[.int .i64 ae.kind, .string ae.room, .string ae.user, .string ae.event, .string ae.thread, .bool ae.priv, .bool ae.on, .int .i64 ae.span, .int .i64 ae.state, .int .i64 ae.tick, .int .i64 ae.stamp] 23)
      generalize hW : (w5.alloc (.cells #[.int .i64 ae.kind, .string ae.room, .string ae.user, .string ae.event, .string ae.thread, .bool ae.priv, .bool ae.on, .int .i64 ae.span, .int .i64 ae.state, .int .i64 ae.tick, .int .i64 ae.stamp] 23)) = w6 at HK ⊢
      generalize hg : w5.heap.size = b6 at HK ⊢
      clear hW hg
      obtain ⟨c0_0, c0_1, c0_2, c0_3, c0_4, c0_5, c0_6, c0_7, c0_8, c0_9, c0_10⟩ := cells11 (HK.out.st 0 rfl)
      obtain ⟨c1_0, c1_1, c1_2, c1_3, c1_4, c1_5, c1_6, c1_7, c1_8, c1_9, c1_10⟩ := cells11 (HK.out.st 1 rfl)
      have heq := HEs.out
      go_wp2_with fail
      clear c0_0 c0_1 c0_2 c0_3 c0_4 c0_5 c0_6 c0_7 c0_8 c0_9 c0_10 c1_0 c1_1 c1_2 c1_3 c1_4 c1_5 c1_6 c1_7 c1_8 c1_9 c1_10
      clear heq
      go_roundw
      case rel => exact ⟨4, by omega, by go_num, Lib.hid ⟨HK.out.1, fun p hp => HK.out.2.1 p (List.mem_cons_of_mem _ (List.mem_cons_of_mem _ hp)), HK.out.2.2⟩⟩
      case measure => simp [intOf]
    · have hs := answer_same mr
      have HEs := Lib.hid (eql_edu (answerE 1000 mr) (answerE 1000 mr))
      rw [(eqE_iff _ _).2 rfl] at HEs
      simp only [Edu.val] at HEs
      have hc : World.cell? _ ⟨L, 4, none⟩ = some (.slice (some ⟨gn, 0, none⟩) (oy.length + 1) capn) := cell_at (HK.out.st 0 rfl) 4
      go_wp2_with fail
      clear hc
      have hcall := readEdu_any _ mr 0 _ (HK.out.row 0 rfl) (by omega)
      rw [hs.1, hs.2] at hcall
      generalize hae : answerE 1000 mr = ae at hcall HEs
      generalize han : answerN 1000 mr = an at hcall
      simp only [Edu.val] at hcall
      refine (hcall).mono ?_
      rintro e w3 ⟨rfl, hb⟩
      replace HK := Lib.hid (HK.out.later hb)
      clear hb
      clear hcall hs
      go_upto_region 14 with (fail)
      replace HK := Lib.hid (HK.out.new #[.int .i64 ae.kind, .string ae.room, .string ae.user, .string ae.event, .string ae.thread, .bool ae.priv, .bool ae.on, .int .i64 ae.span, .int .i64 ae.state, .int .i64 ae.tick, .int .i64 ae.stamp] 23)
      generalize hW : (w3.alloc (.cells #[.int .i64 ae.kind, .string ae.room, .string ae.user, .string ae.event, .string ae.thread, .bool ae.priv, .bool ae.on, .int .i64 ae.span, .int .i64 ae.state, .int .i64 ae.tick, .int .i64 ae.stamp] 23)) = w4 at HK ⊢
      generalize hg : w3.heap.size = b4 at HK ⊢
      clear hW hg
      have hc : World.cell? _ ⟨L, 4, none⟩ = some (.slice (some ⟨gn, 0, none⟩) (oy.length + 1) capn) := cell_at (HK.out.st 1 rfl) 4
      go_wp2_with fail
      clear hc
      have hcall := refReadE_any _ mr 0 _ (HK.out.row 0 rfl) (by omega)
      rw [hae, han] at hcall
      simp only [Edu.val] at hcall
      refine (hcall).mono ?_
      rintro e w5 ⟨rfl, hb⟩
      replace HK := Lib.hid (HK.out.later hb)
      clear hb
      clear hcall
      go_upto_region 15 with (fail)
      replace HK := Lib.hid (HK.out.new #[.int .i64 ae.kind, .string ae.room, .string ae.user, .string ae.event, .string ae.thread, .bool ae.priv, .bool ae.on, .int .i64 ae.span, .int .i64 ae.state, .int .i64 ae.tick, .int .i64 ae.stamp] 23)
      generalize hW : (w5.alloc (.cells #[.int .i64 ae.kind, .string ae.room, .string ae.user, .string ae.event, .string ae.thread, .bool ae.priv, .bool ae.on, .int .i64 ae.span, .int .i64 ae.state, .int .i64 ae.tick, .int .i64 ae.stamp] 23)) = w6 at HK ⊢
      generalize hg : w5.heap.size = b6 at HK ⊢
      clear hW hg
      obtain ⟨c0_0, c0_1, c0_2, c0_3, c0_4, c0_5, c0_6, c0_7, c0_8, c0_9, c0_10⟩ := cells11 (HK.out.st 0 rfl)
      obtain ⟨c1_0, c1_1, c1_2, c1_3, c1_4, c1_5, c1_6, c1_7, c1_8, c1_9, c1_10⟩ := cells11 (HK.out.st 1 rfl)
      have heq := HEs.out
      go_wp2_with fail
      clear c0_0 c0_1 c0_2 c0_3 c0_4 c0_5 c0_6 c0_7 c0_8 c0_9 c0_10 c1_0 c1_1 c1_2 c1_3 c1_4 c1_5 c1_6 c1_7 c1_8 c1_9 c1_10
      clear heq
      go_roundw
      case rel => exact ⟨5, by omega, by go_num, Lib.hid ⟨HK.out.1, fun p hp => HK.out.2.1 p (List.mem_cons_of_mem _ (List.mem_cons_of_mem _ hp)), HK.out.2.2⟩⟩
      case measure => simp [intOf]
    · go_wp2_with fail
      refine (lives_any _).mono ?_
      rintro e w3 ⟨rfl, hb⟩
      replace HK := Lib.hid (HK.out.later hb)
      clear hb
      go_wp2_with fail
      go_ret
      exact ⟨rfl, HK.out.1⟩
end Go.Proofs.Ytahgkhcmchbpbaa
