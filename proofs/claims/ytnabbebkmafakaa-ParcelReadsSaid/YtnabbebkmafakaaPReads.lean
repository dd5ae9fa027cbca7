/-
  The parcel of bytes, or the error, is the document's: the statement ParcelReads, walked.
-/
import Derived.Test.YtnabbebkmafakaaPAll
import Derived.Test.YtnabbebkmafakaaPRound
namespace Go.Proofs.Ytnabbebkmafakaa
set_option maxRecDepth 20000
open Go.RowKit
set_option linter.unusedVariables false
set_option linter.unusedSimpArgs false

theorem ArgB.piece {w : World} {A : Option Addr} {len cap : Nat} {bs : List UInt8} (h : ArgB w A len cap bs) {m : Nat} (hm : m ≤ len) : ArgQ w w.heap.size (.slice A m cap) (bs.take m) := by
  obtain ⟨h1, h2, h3, h4, h5⟩ := h
  have hl : (bs.take m).length = m := by rw [List.length_take]; omega
  refine ⟨A, cap, by rw [hl], by omega, h3, h4, fun h0 => ?_⟩
  cases A with
  | none => have := h4 rfl; omega
  | some a =>
    obtain ⟨b, off, spot⟩ := a
    have hb : 0 < bs.length := by omega
    have hc := h5 _ rfl 0 _ (List.getElem?_eq_getElem hb)
    have hspot : spot = none := by simpa [Addr.add] using World.cell?_spot hc
    subst hspot
    refine ⟨b, off, rfl, ?_, fun j x hx => ?_⟩
    · exact World.block_lt_of_cell? w _ hc
    · rw [List.getElem?_take] at hx
      split at hx
      · have := h5 _ rfl j x hx
        rw [Go.WideShapes.add_plain] at this
        exact this
      · cases hx

/-- What is answered of bytes. -/
def zeroPar : Par := ⟨false, ⟨#[]⟩, ⟨#[]⟩, 0, []⟩
def ansP (bs : List UInt8) : Par := (readP 16 1000000 bs).getD zeroPar
def ansN (bs : List UInt8) : Int := bif (readP 16 1000000 bs).isSome then 0 else 2
theorem read_code {v : Value} {bs : List UInt8} {lo : Nat} {w : World} (h : ArgQ w lo v bs) (hl : bs.length ≤ 1000000) :
    Calls Try.prog 17 #[v] w fun e w' => ∃ S, e = .returned (.tuple #[parV (ansP bs) S, .int .i64 (ansN bs)]) ∧ MadeE w' w.heap.size S (ansP bs).edus ∧ Below w.heap.size w w' := by
  unfold ansP ansN
  cases hr : readP 16 1000000 bs with
  | some q => exact readPar_yes h hl hr
  | none => exact (readPar_none h hl hr).mono fun e w' ⟨he, hb⟩ => ⟨.slice none 0 0, he, MadeE.nil _ _, hb⟩
theorem read_docu {v : Value} {bs : List UInt8} {w : World} (h : ArgQ w w.heap.size v bs) (hl : bs.length ≤ 1000000) :
    Calls Try.prog 18 #[v] w fun e w' => ∃ S, e = .returned (.tuple #[parV (ansP bs) S, .int .i64 (ansN bs)]) ∧ MadeE w' w.heap.size S (ansP bs).edus ∧ Below w.heap.size w w' := by
  unfold ansP ansN
  cases hr : readP 16 1000000 bs with
  | some q => exact refReadPar_yes h hl hr
  | none => exact (refReadPar_none h hl hr).mono fun e w' ⟨he, hb⟩ => ⟨.slice none 0 0, he, MadeE.nil _ _, hb⟩
/-- The five rows of bytes. -/
def AllB (w : World) (b : Nat) (V : Nat → Value) (Z : Nat → List UInt8) (w' : World) : Prop :=
  Below w.heap.size w w' ∧ ∀ j, j < 5 → w'.cell? ⟨b, j, none⟩ = some (V j) ∧ ArgQ w' w'.heap.size (V j) (Z j) ∧ (Z j).length ≤ 1000000
theorem AllB.later {w w' w'' : World} {b : Nat} {V : Nat → Value} {Z : Nat → List UInt8} (h : AllB w b V Z w') (hb : Below w'.heap.size w' w'') : AllB w b V Z w'' :=
  ⟨Go.Proofs.Ytnabbebkmafakaa.later h.1 hb, fun j hj => ⟨by rw [hb.cell (World.block_lt_of_cell? w' _ (h.2 j hj).1)]; exact (h.2 j hj).1, ((h.2 j hj).2.1.below hb).more hb.size, (h.2 j hj).2.2⟩⟩
theorem AllB.drew {w w' : World} {b : Nat} {V : Nat → Value} {Z : Nat → List UInt8} (h : AllB w b V Z w') : AllB w b V Z w'.drew := ⟨h.1.drew, h.2⟩
theorem KeepP.of {w w' : World} (h : Below w.heap.size w w') : KeepP w [] [] [] w' := ⟨⟨h, fun _ h => (List.not_mem_nil h).elim, fun _ h => (List.not_mem_nil h).elim⟩, fun _ h => (List.not_mem_nil h).elim⟩
def sel5 {α : Type} (a b c d e : α) : Nat → α
  | 0 => a
  | 1 => b
  | 2 => c
  | 3 => d
  | _ => e
theorem slice_size : (Try.prog.info? 29).map (·.size) = some 1 := by kernel_rfl
theorem index_rows {b len cap i : Nat} (hi : i < len) (w : World) : (Instr.indexAt 39 (.slice (some ⟨b, 0, none⟩) len cap) (.int .i64 (i : Int))).run Try.prog w = .ok (.pointer (some ⟨b, i, none⟩)) w := by
  obtain ⟨i0, hi0, hz0⟩ := Option.map_eq_some_iff.1 slice_size
  have h1 : (0 : Int) ≤ (i : Int) ∧ (i : Int) < (len : Int) := by omega
  simp [Instr.indexAt, asIntOf, run_underlying Try.underlying39, sizeOf, typeInfo, hi0, hz0, h1, Addr.add_lit]
  intro h
  omega

set_option maxHeartbeats 12800000 in
theorem parcelReads_walk (A : Option Addr) (len cap : Nat) (bs : List UInt8) (p : Par) (A' : Option Addr) (cap' : Nat) (n c : Int) (w : World) (hA : ArgB w A len cap bs) (hE : EdusAt w A' p.edus.length p.edus) (hl : p.edus.length ≤ maxLen) (hf : p.frm.size ≤ maxLen) (hd : p.dest.size ≤ maxLen) (hi : -9223372036854775808 ≤ p.id ∧ p.id ≤ 9223372036854775807) (n0 : -9223372036854775808 ≤ n) (n1 : n ≤ 9223372036854775807) (c0 : 0 ≤ c) (c1 : c ≤ 255) :
    Calls Try.prog 4 #[.slice A len cap, .agg #[.bool p.ack, .string p.frm, .string p.dest, .int .i64 p.id, .slice A' p.edus.length cap'], .int .i64 n, .int .u8 c] w fun x w' => x = .returned (.bool true) ∧ Below w.heap.size w w' := by
  have HG := Lib.hid (fun w' hb => goodParE_any p A' cap' w hE hl hf hd hi w' hb)
  have mq := good_mayP p
  generalize goodP p = q at *
  clear hE hl hf hd hi
  obtain ⟨pf, pd, _, pi', pn, _, pall⟩ := mayP_parts mq
  replace pf := server_size pf
  replace pd := server_size pd
  have HB := Lib.hid (fun w A cap hE => refBytesPar_any q A cap w hE pall (by omega) (by omega) (by omega) (by omega))
  have hlo := parcel_len mq
  have hpo : 0 < (bytesP q).length := by
    rw [bytesP_head, List.length_append]
    have : 0 < (headP q).length := by unfold headP; simp only [List.length_append]; have : (flagB q.ack).length = 1 := rfl; omega
    omega
  generalize bytesP q = oy at *
  clear pf pd pi' pn pall mq
  obtain ⟨qa, qf, qd, qi, qe⟩ := q
  obtain ⟨pa, pf, pd, pi', pe⟩ := p
  simp only [parV] at *
  have HAr := Lib.hid (fun w => around_any n (oy.length : Int) w n0 n1 (by omega) (by omega))
  obtain ⟨k, hk, hkl⟩ : ∃ k : Nat, aroundI n (oy.length : Int) = (k : Int) ∧ k < oy.length := by
    have := aroundI_bd n (oy.length : Int) (by omega)
    exact ⟨(aroundI n (oy.length : Int)).toNat, by omega, by omega⟩
  rw [hk] at HAr
  clear hk n0 n1
  obtain ⟨x, hx⟩ : ∃ x : UInt8, bV x = .int .u8 c := ⟨UInt8.ofNat c.toNat, by unfold bV; rw [toNat_ofNat (by omega)]; congr 2; omega⟩
  have hxc : (x.toNat : Int) = c := by unfold bV at hx; injection hx
  obtain ⟨m, hm⟩ : ∃ m, m = min len 80 := ⟨_, rfl⟩
  have hml : m ≤ len := by omega
  have hm60 : m ≤ 80 := by omega
  have Hm := Lib.hid hm
  clear hm
  have HQ := Lib.hid (hA.piece hml)
  have hlt : (bs.take m).length = m := by rw [List.length_take]; have := hA.1; omega
  have hcap := hA.2.1
  have hcm := hA.2.2.1
  unfold maxLen at hcm
  clear hA
  generalize bs.take m = ts at *
  go_enter Try.func4, Try.ntmps4
  go_upto_region 1 with (fail)
  have HK : KeepP w _ _ _ (w.alloc (.cells #[.bool pa, .string pf, .string pd, .int .i64 pi', .slice A' pe.length cap'] 24)) := ((KeepP.refl w).new #[.bool pa, .string pf, .string pd, .int .i64 pi', .slice A' pe.length cap'] 24)
  try simp only [size_alloc1] at HK
  replace HK := Lib.hid (show KeepP w [(w.heap.size, #[.bool pa, .string pf, .string pd, .int .i64 pi', .slice A' pe.length cap'], 24)] [] [] (w.alloc (.cells #[.bool pa, .string pf, .string pd, .int .i64 pi', .slice A' pe.length cap'] 24)) from HK)
  generalize hW : (w.alloc (.cells #[.bool pa, .string pf, .string pd, .int .i64 pi', .slice A' pe.length cap'] 24)) = W0 at HK ⊢
  clear hW
  obtain ⟨c0_0, c0_1, c0_2, c0_3, c0_4⟩ := cells5p (HK.out.st 0 rfl)
  go_wp2_with fail
  clear c0_0 c0_1 c0_2 c0_3 c0_4
  refine (HG.out _ HK.out.below).mono ?_
  rintro e w1 ⟨S, rfl, hm, hb⟩
  obtain ⟨A1, cp1, rfl⟩ := hm.shape
  replace HK := Lib.hid (show KeepP w [(w.heap.size, #[.bool pa, .string pf, .string pd, .int .i64 pi', .slice A' pe.length cap'], 24)] [] [(.slice A1 qe.length cp1, (qe : List Edu))] w1 from (HK.out.later hb).consS (hm.mono (HK.out.below).size))
  clear hb hm
  try simp only [parV]
  go_wp2_with fail
  refine (HB.out _ _ _ (made_at (HK.out.sl 0 rfl)).1).mono ?_
  rintro e w2 ⟨⟨g2, cap2, rfl, hg, ho⟩, hb⟩
  replace HK := Lib.hid (show KeepP w [(w.heap.size, #[.bool pa, .string pf, .string pd, .int .i64 pi', .slice A' pe.length cap'], 24)] [(.slice (some ⟨g2, 0, none⟩) oy.length cap2, oy)] [(.slice A1 qe.length cp1, (qe : List Edu))] w2 from (HK.out.later hb).consR (ho.row (Nat.zero_le _)))
  clear hb ho hg
  go_wp2_with fail
  refine (HAr.out _).mono ?_
  rintro e wz ⟨rfl, rfl⟩
  have HS := Lib.hid (Src.ofRow rfl (HK.out.row 0 rfl))
  have HPn : Hid (Puts w2 w2.heap.size (.slice none 0 0) []) := Lib.hid (.inl ⟨none, rfl, Row.nil _ _⟩)
  go_upto_region 5 with (at_builtin; refine wpList_puts rfl (.tmp 26) (.tmp 27) _ rfl rfl HPn.out (Nat.le_refl _) _ _ oy rfl rfl HS.out (.inl hpo) (by simp; omega) ?_; rintro go capo wo hgo hoo hbo)
  rw [List.nil_append] at hoo
  clear HS HPn
  have hcell := hoo.cells k _ (List.getElem?_eq_getElem hkl)
  have hfr : wo.frozen? ⟨go, k, none⟩ = false := by obtain ⟨cur, hh, _⟩ := hoo; exact free_at hh k
  have hk2 : (k : Int) < (oy.length : Int) := by omega
  have HOo := Lib.hid hoo
  clear hoo
  unfold bV at hcell
  go_upto_region 6 with (fail)
  have hset := HOo.out.set k x
  rw [hx] at hset
  have hol : (oy.set k x).length = oy.length := List.length_set
  generalize oy.set k x = od at *
  replace HK := Lib.hid (show KeepP w [(w.heap.size, #[.bool pa, .string pf, .string pd, .int .i64 pi', .slice A' pe.length cap'], 24)] [(.slice (some ⟨go, 0, none⟩) oy.length capo, od), (.slice (some ⟨g2, 0, none⟩) oy.length cap2, oy)] [(.slice A1 qe.length cp1, (qe : List Edu))] (wo.setCell ⟨go, k, none⟩ (.int .u8 c)) from (HK.out.later (hbo.setCell (p := ⟨go, k, none⟩) hgo (.int .u8 c))).consR (by rw [← hol]; exact hset.row (Nat.zero_le _)))
  generalize hW7 : (wo.setCell ⟨go, k, none⟩ (.int .u8 c)) = wq7 at HK ⊢
  clear hW7 hset HOo hcell hfr hk2 hbo hgo hx
  clear wo
  have HS := Lib.hid (Src.ofRow rfl (HK.out.row 1 rfl))
  have HPn : Hid (Puts wq7 wq7.heap.size (.slice none 0 0) []) := Lib.hid (.inl ⟨none, rfl, Row.nil _ _⟩)
  go_upto_region 8 with (at_builtin; refine wpList_puts rfl (.tmp 33) (.tmp 34) _ rfl rfl HPn.out (Nat.le_refl _) _ _ oy rfl rfl HS.out (.inl hpo) (by simp; omega) ?_; rintro gm capm wm hgm hom hbm)
  rw [List.nil_append] at hom
  clear HS HPn
  have HS2 := Lib.hid (Src.ofLit wm x c hxc wm.heap.size rfl)
  have HP2 := Lib.hid (show Puts (wm.alloc (.cells #[.int .u8 c] 5)) wq7.heap.size (.slice (some ⟨gm, 0, none⟩) oy.length capm) oy from .inr ⟨gm, capm, rfl, hgm, hom.below (below_new wm _)⟩)
  have HSz := Lib.hid (show wq7.heap.size ≤ (wm.alloc (.cells #[.int .u8 c] 5)).heap.size by rw [size_alloc1]; have := hbm.size; omega)
  have HBm := Lib.hid (hbm.alloc (hbm.size) (.cells #[.int .u8 c] 5))
  clear hom hbm hgm
  go_upto_region 9 with (at_builtin; refine wpList_puts rfl (.tmp 36) (.tmp 38) _ rfl rfl HP2.out HSz.out _ 1 [x] rfl rfl HS2.out (.inl (by decide)) (by omega) ?_; rintro gn capn wn hgn hon hbn)
  have hnl : (oy ++ [x]).length = oy.length + 1 := by rw [List.length_append]; rfl
  generalize oy ++ [x] = mr at *
  replace HK := Lib.hid (show KeepP w [(w.heap.size, #[.bool pa, .string pf, .string pd, .int .i64 pi', .slice A' pe.length cap'], 24)] [(.slice (some ⟨gn, 0, none⟩) (oy.length + 1) capn, mr), (.slice (some ⟨go, 0, none⟩) oy.length capo, od), (.slice (some ⟨g2, 0, none⟩) oy.length cap2, oy)] [(.slice A1 qe.length cp1, (qe : List Edu))] wn from (HK.out.later (HBm.out.trans hbn)).consR (by rw [← hnl]; exact hon.row (Nat.zero_le _)))
  clear hon hbn HBm HSz HP2 HS2 hgn
  have hcp : oy.length ≤ cap2 ∧ cap2 ≤ 9223372036854775807 := by
    obtain ⟨A', c', hv, h1, h2, _⟩ := (HK.out.row 2 rfl).shape
    injection hv with _ _ hv
    unfold maxLen at h2
    omega
  refine wp_region_held_drew (S := fun w' => KeepP w [(w.heap.size, #[.bool pa, .string pf, .string pd, .int .i64 pi', .slice A' pe.length cap'], 24)] [(.slice (some ⟨gn, 0, none⟩) (oy.length + 1) capn, mr), (.slice (some ⟨go, 0, none⟩) oy.length capo, od), (.slice (some ⟨g2, 0, none⟩) oy.length cap2, oy)] [(.slice A1 qe.length cp1, (qe : List Edu))] w') (by kernel_rfl) HK.out.drew (fun hHeld => ?_)
  generalize hwd : wn.drew = wd at hHeld ⊢
  clear HK hwd
  refine wpAnyH_take (i := 0) (oi := ⟨some 40, _, _, _, _, _⟩) (v := ?v0) rfl (by kernel_rfl) (by kernel_rfl) (by kernel_rfl) (fun _ _ _ h => h) (Or.inl ⟨by rfl, ?y0⟩) hHeld ?r0
  case y0 =>
    intro wx hSx
    go_simp
    try with_reducible rfl
  try simp only [Act.put, List.setIfInBounds_toArray, List.set_cons_zero, List.set_cons_succ]
  refine wpAnyH_take (i := 1) (oi := ⟨some 41, _, _, _, _, _⟩) (v := ?v1) rfl (by kernel_rfl) (by kernel_rfl) (by kernel_rfl) (fun _ _ _ h => h) (Or.inl ⟨by rfl, ?y1⟩) hHeld ?r1
  case y1 =>
    intro wx hSx
    go_simp
    try with_reducible rfl
  try simp only [Act.put, List.setIfInBounds_toArray, List.set_cons_zero, List.set_cons_succ]
  refine wpAnyH_take (i := 2) (oi := ⟨some 42, _, _, _, _, _⟩) (v := ?v2) rfl (by kernel_rfl) (by kernel_rfl) (by kernel_rfl) (fun _ _ _ h => h) (Or.inl ⟨by rfl, ?y2⟩) hHeld ?r2
  case y2 =>
    intro wx hSx
    go_simp
    try with_reducible rfl
  try simp only [Act.put, List.setIfInBounds_toArray, List.set_cons_zero, List.set_cons_succ]
  refine wpAnyH_take (i := 3) (oi := ⟨some 43, _, _, _, _, _⟩) (v := ?v3) rfl (by kernel_rfl) (by kernel_rfl) (by kernel_rfl) (fun _ _ _ h => h) (Or.inl ⟨by rfl, ?y3⟩) hHeld ?r3
  case y3 =>
    intro wx hSx
    go_simp
    try with_reducible rfl
  try simp only [Act.put, List.setIfInBounds_toArray, List.set_cons_zero, List.set_cons_succ]
  refine wpAnyH_take (i := 5) (oi := ⟨some 45, _, _, _, _, _⟩) (v := ?v5) rfl (by kernel_rfl) (by kernel_rfl) (by kernel_rfl) (fun _ _ _ h => h) (Or.inl ⟨by rfl, ?y5⟩) hHeld ?r5
  case y5 =>
    intro wx hSx
    go_simp
    try with_reducible rfl
  try simp only [Act.put, List.setIfInBounds_toArray, List.set_cons_zero, List.set_cons_succ]
  refine wpAnyH_take (i := 6) (oi := ⟨some 46, _, _, _, _, _⟩) (v := ?v6) rfl (by kernel_rfl) (by kernel_rfl) (by kernel_rfl) (fun _ _ _ h => h) (Or.inl ⟨by rfl, ?y6⟩) hHeld ?r6
  case y6 =>
    intro wx hSx
    go_simp
    try with_reducible rfl
  try simp only [Act.put, List.setIfInBounds_toArray, List.set_cons_zero, List.set_cons_succ]
  refine wpAnyH_take (i := 7) (oi := ⟨some 47, _, _, _, _, _⟩) (v := ?v7) rfl (by kernel_rfl) (by kernel_rfl) (by kernel_rfl) (fun _ _ _ h => h) (Or.inl ⟨by rfl, ?y7⟩) hHeld ?r7
  case y7 =>
    intro wx hSx
    go_simp
    try with_reducible rfl
  try simp only [Act.put, List.setIfInBounds_toArray, List.set_cons_zero, List.set_cons_succ]
  refine wpAnyH_take (i := 8) (oi := ⟨some 48, _, _, _, _, _⟩) (v := ?v8) rfl (by kernel_rfl) (by kernel_rfl) (by kernel_rfl) (fun _ _ _ h => h) (Or.inl ⟨by rfl, ?y8⟩) hHeld ?r8
  case y8 =>
    intro wx hSx
    go_simp
    try with_reducible rfl
  try simp only [Act.put, List.setIfInBounds_toArray, List.set_cons_zero, List.set_cons_succ]
  refine wpAnyH_take (i := 10) (oi := ⟨some 50, _, _, _, _, _⟩) (v := ?v10) rfl (by kernel_rfl) (by kernel_rfl) (by kernel_rfl) (fun _ _ _ h => h) (Or.inl ⟨by rfl, ?y10⟩) hHeld ?r10
  case y10 =>
    intro wx hSx
    go_simp
    try with_reducible rfl
  try simp only [Act.put, List.setIfInBounds_toArray, List.set_cons_zero, List.set_cons_succ]
  rw [show min (len : Int) 80 = (m : Int) by have := Hm.out; omega]
  refine wpAnyH_take (i := 4) (oi := ⟨some 44, _, _, _, _, _⟩) (v := ?v4) rfl (by kernel_rfl) (by kernel_rfl) (by kernel_rfl) (fun _ _ _ h => h) (Or.inl ⟨by rfl, ?y4⟩) hHeld ?r4
  case y4 =>
    intro wx hSx
    have x1 : (m : Int) ≤ (cap : Int) := by omega
    have x2 : (m : Int) ≤ 9223372036854775807 := by omega
    go_simp
    try with_reducible rfl
  try simp only [Act.put, List.setIfInBounds_toArray, List.set_cons_zero, List.set_cons_succ]
  refine wpAnyH_take (i := 9) (oi := ⟨some 49, _, _, _, _, _⟩) (v := ?v9) rfl (by kernel_rfl) (by kernel_rfl) (by kernel_rfl) (fun _ _ _ h => h) (Or.inl ⟨by rfl, ?y9⟩) hHeld ?r9
  case y9 =>
    intro wx hSx
    have x1 : (k : Int) ≤ (cap2 : Int) := by omega
    have x2 : (k : Int) ≤ 9223372036854775807 := by omega
    go_simp
    try with_reducible rfl
  try simp only [Act.put, List.setIfInBounds_toArray, List.set_cons_zero, List.set_cons_succ]
  refine wpAnyH_ready (rs := [11]) (by kernel_rfl) (by simp) ?_
  refine AllReadyH.cons (o := ⟨some 51, _, _, _, _, _⟩) rfl (fun K hK => ?_) AllReadyH.nil
  go_simp
  have HK := Lib.hid (hHeld.new #[.slice A m cap, .slice (some ⟨g2, 0, none⟩) oy.length cap2, .slice (some ⟨go, 0, none⟩) oy.length capo, .slice (some ⟨g2, 0, none⟩) k cap2, .slice (some ⟨gn, 0, none⟩) (oy.length + 1) capn] 29)
  refine hK.out _ _ (hHeld.later (below_new wd _)) (fun hHeld => ?_)
  clear hK K
  try simp only [Act.put, List.setIfInBounds_toArray, List.set_cons_zero, List.set_cons_succ]
  generalize hW : (wd.alloc (.cells #[.slice A m cap, .slice (some ⟨g2, 0, none⟩) oy.length cap2, .slice (some ⟨go, 0, none⟩) oy.length capo, .slice (some ⟨g2, 0, none⟩) k cap2, .slice (some ⟨gn, 0, none⟩) (oy.length + 1) capn] 29)) = wl at HK hHeld ⊢
  generalize hg : wd.heap.size = L at HK ⊢
  clear hW hg
  refine wpAnyH_take (i := 12) (oi := ⟨some 13, _, _, _, _, _⟩) (v := ?v12) rfl (by kernel_rfl) (by kernel_rfl) (by kernel_rfl) (fun _ _ _ h => h) (Or.inl ⟨by rfl, ?y12⟩) hHeld ?r12
  case y12 =>
    intro wx hSx
    go_simp
    try with_reducible rfl
  try simp only [Act.put, List.setIfInBounds_toArray, List.set_cons_zero, List.set_cons_succ]
  refine wpAnyH_done (by kernel_rfl) ?_ _
  clear hHeld
  have HBB : Hid (AllB w L (sel5 (.slice A m cap) (.slice (some ⟨g2, 0, none⟩) oy.length cap2) (.slice (some ⟨go, 0, none⟩) oy.length capo) (.slice (some ⟨g2, 0, none⟩) k cap2) (.slice (some ⟨gn, 0, none⟩) (oy.length + 1) capn)) (sel5 ts oy od (oy.take k) mr) wl) := Lib.hid ⟨HK.out.below, fun j hj => by
    rcases (show j = 0 ∨ j = 1 ∨ j = 2 ∨ j = 3 ∨ j = 4 by omega) with rfl | rfl | rfl | rfl | rfl
    · exact ⟨cell_at (HK.out.st 0 rfl) 0, (HQ.out.below HK.out.below).more HK.out.below.size, by show ts.length ≤ _; omega⟩
    · exact ⟨cell_at (HK.out.st 0 rfl) 1, (HK.out.row 2 rfl).argQ, by show oy.length ≤ _; omega⟩
    · exact ⟨cell_at (HK.out.st 0 rfl) 2, (HK.out.row 1 rfl).argQ, by show od.length ≤ _; omega⟩
    · exact ⟨cell_at (HK.out.st 0 rfl) 3, (Row.head (HK.out.row 2 rfl) (by omega) : Row _ 0 _ _).argQ, by show (oy.take k).length ≤ _; rw [List.length_take]; omega⟩
    · exact ⟨cell_at (HK.out.st 0 rfl) 4, (HK.out.row 0 rfl).argQ, by show mr.length ≤ _; omega⟩⟩
  generalize sel5 (Value.slice A m cap) (Value.slice (some ⟨g2, 0, none⟩) oy.length cap2) (Value.slice (some ⟨go, 0, none⟩) oy.length capo) (Value.slice (some ⟨g2, 0, none⟩) k cap2) (Value.slice (some ⟨gn, 0, none⟩) (oy.length + 1) capn) = VF at HBB
  generalize sel5 ts oy od (oy.take k) mr = ZF at HBB
  clear HK HQ HG HB HAr Hm
  go_wp2_with fail
  go_loopw [14] (fun i wr => ∃ j : Nat, j ≤ 5 ∧ i = .int .i64 (j : Int) ∧ Hid (AllB w L VF ZF wr)) (fun i _ => 5 - (intOf i).toNat)
  case atStart => exact ⟨0, by omega, rfl, HBB⟩
  case round =>
    obtain ⟨j, hj, rfl, HB⟩ := hrel
    clear HBB
    by_cases hj5 : j < 5
    rotate_left
    · have q1 : decide ((j : Int) < 5) = false := by simp; omega
      go_wp2_with fail
      refine (lives4_any _).mono ?_
      rintro e w9 ⟨rfl, hb⟩
      go_wp2_with fail
      go_ret
      exact ⟨rfl, (HB.out.later hb).1⟩
    have q1 : decide ((j : Int) < 5) = true := by simp; omega
    have hix := fun w => index_rows (b := L) (len := 5) (cap := 5) hj5 w
    have HSame := Lib.hid (fun wx A1 A2 c1 c2 h h' hl hl' => refSamePar_any (ansP (ZF j)) (ansP (ZF j)) A1 A2 c1 c2 wx h h' hl hl')
    rw [sameP_self] at HSame
    have HRC := Lib.hid (fun wx (h : AllB w L VF ZF wx) => read_code (h.2 j hj5).2.1 (h.2 j hj5).2.2)
    have HRD := Lib.hid (fun wx (h : AllB w L VF ZF wx) => read_docu (h.2 j hj5).2.1 (h.2 j hj5).2.2)
    have HCe := Lib.hid (fun wx (h : AllB w L VF ZF wx) => (h.2 j hj5).1)
    generalize ansP (ZF j) = ap at *
    generalize ansN (ZF j) = an at *
    generalize VF j = vj at HRC HRD HCe
    obtain ⟨aa, af, ad, ai, ae⟩ := ap
    simp only [parV] at HRC HRD HSame
    have HK := Lib.hid (KeepP.of HB.out.1)
    have hc := HCe.out _ HB.out
    go_wp2_with fail
    clear hc
    refine (HRC.out _ HB.out).mono ?_
    rintro e w41 ⟨S, rfl, hm, hb⟩
    obtain ⟨A41, cp41, rfl⟩ := hm.shape
    replace HK := Lib.hid (show KeepP w [] [] [(.slice A41 ae.length cp41, ae)] w41 from (HK.out.later hb).consS (hm.mono (HK.out.below).size))
    replace HB := Lib.hid (HB.out.later hb)
    clear hb hm
    try simp only
    go_upto_region 14 with (fail)
    replace HB := Lib.hid (HB.out.later (below_new w41 (.cells #[.bool aa, .string af, .string ad, .int .i64 ai, .slice A41 ae.length cp41] 33)))
    replace HK := Lib.hid (HK.out.new #[.bool aa, .string af, .string ad, .int .i64 ai, .slice A41 ae.length cp41] 33)
    generalize hW : (w41.alloc (.cells #[.bool aa, .string af, .string ad, .int .i64 ai, .slice A41 ae.length cp41] 33)) = w42 at HK HB ⊢
    generalize hg : w41.heap.size = b42 at HK ⊢
    clear hW hg
    have hc := HCe.out _ HB.out
    go_wp2_with fail
    clear hc
    refine (HRD.out _ HB.out).mono ?_
    rintro e w43 ⟨S, rfl, hm, hb⟩
    obtain ⟨A43, cp43, rfl⟩ := hm.shape
    replace HK := Lib.hid (show KeepP w [(b42, #[.bool aa, .string af, .string ad, .int .i64 ai, .slice A41 ae.length cp41], 33)] [] [(.slice A43 ae.length cp43, ae), (.slice A41 ae.length cp41, ae)] w43 from (HK.out.later hb).consS (hm.mono (HK.out.below).size))
    replace HB := Lib.hid (HB.out.later hb)
    clear hb hm
    try simp only
    go_upto_region 15 with (fail)
    replace HB := Lib.hid (HB.out.later (below_new w43 (.cells #[.bool aa, .string af, .string ad, .int .i64 ai, .slice A43 ae.length cp43] 24)))
    replace HK := Lib.hid (HK.out.new #[.bool aa, .string af, .string ad, .int .i64 ai, .slice A43 ae.length cp43] 24)
    generalize hW : (w43.alloc (.cells #[.bool aa, .string af, .string ad, .int .i64 ai, .slice A43 ae.length cp43] 24)) = w44 at HK HB ⊢
    generalize hg : w43.heap.size = b44 at HK ⊢
    clear hW hg
    have HKB := Lib.hid (And.intro HK.out HB.out)
    refine wp_region_held_drew (S := fun w' => KeepP w [(b44, #[.bool aa, .string af, .string ad, .int .i64 ai, .slice A43 ae.length cp43], 24), (b42, #[.bool aa, .string af, .string ad, .int .i64 ai, .slice A41 ae.length cp41], 33)] [] [(.slice A43 ae.length cp43, ae), (.slice A41 ae.length cp41, ae)] w' ∧ AllB w L VF ZF w') (by kernel_rfl) ⟨HK.out.drew, HB.out.drew⟩ (fun hHeld => ?_)
    generalize hwd : w44.drew = wd at hHeld ⊢
    clear HK HB HKB hwd
    refine wpAnyH_take (i := 0) (oi := ⟨some 72, _, _, _, _, _⟩) (v := ?vR0) rfl (by kernel_rfl) (by kernel_rfl) (by kernel_rfl) (fun _ _ _ h => h) (Or.inl ⟨by rfl, ?yR0⟩) hHeld ?rR0
    case yR0 =>
      intro wx hSx
      go_simp
      try with_reducible rfl
    try simp only [Act.put, List.setIfInBounds_toArray, List.set_cons_zero, List.set_cons_succ]
    refine wpAnyH_take (i := 1) (oi := ⟨some 73, _, _, _, _, _⟩) (v := ?vR1) rfl (by kernel_rfl) (by kernel_rfl) (by kernel_rfl) (fun _ _ _ h => h) (Or.inl ⟨by rfl, ?yR1⟩) hHeld ?rR1
    case yR1 =>
      intro wx hSx
      go_simp
      try with_reducible rfl
    try simp only [Act.put, List.setIfInBounds_toArray, List.set_cons_zero, List.set_cons_succ]
    refine wpAnyH_take (i := 2) (oi := ⟨some 74, _, _, _, _, _⟩) (v := ?vR2) rfl (by kernel_rfl) (by kernel_rfl) (by kernel_rfl) (fun _ _ _ h => h) (Or.inl ⟨by rfl, ?yR2⟩) hHeld ?rR2
    case yR2 =>
      intro wx hSx
      go_simp
      try with_reducible rfl
    try simp only [Act.put, List.setIfInBounds_toArray, List.set_cons_zero, List.set_cons_succ]
    refine wpAnyH_take (i := 3) (oi := ⟨some 75, _, _, _, _, _⟩) (v := ?vR3) rfl (by kernel_rfl) (by kernel_rfl) (by kernel_rfl) (fun _ _ _ h => h) (Or.inl ⟨by rfl, ?yR3⟩) hHeld ?rR3
    case yR3 =>
      intro wx hSx
      go_simp
      try with_reducible rfl
    try simp only [Act.put, List.setIfInBounds_toArray, List.set_cons_zero, List.set_cons_succ]
    refine wpAnyH_take (i := 4) (oi := ⟨some 76, _, _, _, _, _⟩) (v := ?vR4) rfl (by kernel_rfl) (by kernel_rfl) (by kernel_rfl) (fun _ _ _ h => h) (Or.inl ⟨by rfl, ?yR4⟩) hHeld ?rR4
    case yR4 =>
      intro wx hSx
      obtain ⟨c0, c1, c2, c3, c4⟩ := cells5p (hSx.1.st 1 rfl)
      go_simp
      try with_reducible rfl
    try simp only [Act.put, List.setIfInBounds_toArray, List.set_cons_zero, List.set_cons_succ]
    refine wpAnyH_take (i := 6) (oi := ⟨some 78, _, _, _, _, _⟩) (v := ?vR6) rfl (by kernel_rfl) (by kernel_rfl) (by kernel_rfl) (fun _ _ _ h => h) (Or.inl ⟨by rfl, ?yR6⟩) hHeld ?rR6
    case yR6 =>
      intro wx hSx
      obtain ⟨c0, c1, c2, c3, c4⟩ := cells5p (hSx.1.st 0 rfl)
      go_simp
      try with_reducible rfl
    try simp only [Act.put, List.setIfInBounds_toArray, List.set_cons_zero, List.set_cons_succ]
    refine wpAnyH_ready (rs := [5]) (by kernel_rfl) (by simp) ?_
    refine AllReadyH.cons (o := ⟨some 77, _, _, _, _, _⟩) rfl (fun K hK => ?_) AllReadyH.nil
    go_simp
    refine (as_par _ _ _ _ _ _ _ _).mono ?_
    rintro e wnR5 ⟨rfl, hbn⟩
    replace hHeld := And.intro (hHeld.1.later hbn) (hHeld.2.later hbn)
    refine hK.out _ _ hHeld (fun _ => ?_)
    clear hK K hbn
    try simp only [Act.put, List.setIfInBounds_toArray, List.set_cons_zero, List.set_cons_succ]
    refine wpAnyH_ready (rs := [7]) (by kernel_rfl) (by simp) ?_
    refine AllReadyH.cons (o := ⟨some 79, _, _, _, _, _⟩) rfl (fun K hK => ?_) AllReadyH.nil
    go_simp
    refine (HSame.out _ _ _ _ _ (made_at (hHeld.1.sl 1 rfl)).1 (made_at (hHeld.1.sl 0 rfl)).1 (made_at (hHeld.1.sl 1 rfl)).2 (made_at (hHeld.1.sl 0 rfl)).2).mono ?_
    rintro e wnR7 ⟨rfl, hbn⟩
    replace hHeld := And.intro (hHeld.1.later hbn) (hHeld.2.later hbn)
    refine hK.out _ _ hHeld (fun _ => ?_)
    clear hK K hbn
    try simp only [Act.put, List.setIfInBounds_toArray, List.set_cons_zero, List.set_cons_succ]
    refine wpAnyH_take (i := 8) (oi := ⟨some 80, _, _, _, _, _⟩) (v := ?vR8) rfl (by kernel_rfl) (by kernel_rfl) (by kernel_rfl) (fun _ _ _ h => h) (Or.inl ⟨by rfl, ?yR8⟩) hHeld ?rR8
    case yR8 =>
      intro wx hSx
      go_simp
      try with_reducible rfl
    try simp only [Act.put, List.setIfInBounds_toArray, List.set_cons_zero, List.set_cons_succ]
    refine wpAnyH_take (i := 9) (oi := ⟨some 81, _, _, _, _, _⟩) (v := ?vR9) rfl (by kernel_rfl) (by kernel_rfl) (by kernel_rfl) (fun _ _ _ h => h) (Or.inl ⟨by rfl, ?yR9⟩) hHeld ?rR9
    case yR9 =>
      intro wx hSx
      go_simp
      try with_reducible rfl
    try simp only [Act.put, List.setIfInBounds_toArray, List.set_cons_zero, List.set_cons_succ]
    refine wpAnyH_done (by kernel_rfl) ?_ _
    have HB := Lib.hid hHeld.2
    clear hHeld
    go_wp2_with fail
    exact ⟨⟨j + 1, by omega, by go_num, HB⟩, by simp [intOf]; omega⟩
end Go.Proofs.Ytnabbebkmafakaa
