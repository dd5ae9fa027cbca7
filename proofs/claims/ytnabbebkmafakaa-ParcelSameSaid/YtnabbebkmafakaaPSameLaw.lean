/-
  Whether two parcels are the same is told as the document says: the statement ParcelSame, walked.
-/
import Derived.Test.YtnabbebkmafakaaPAll
import Derived.Test.YtnabbebkmafakaaPRound
namespace Go.Proofs.Ytnabbebkmafakaa
set_option maxRecDepth 20000
open Go.RowKit
set_option linter.unusedVariables false
set_option linter.unusedSimpArgs false

set_option maxHeartbeats 6400000 in
theorem parcelSame_walk (p r : Par) (A A' : Option Addr) (cap cap' : Nat) (w : World) (hE : EdusAt w A p.edus.length p.edus) (hl : p.edus.length ≤ maxLen) (hf : p.frm.size ≤ maxLen) (hd : p.dest.size ≤ maxLen) (hi : -9223372036854775808 ≤ p.id ∧ p.id ≤ 9223372036854775807)
    (hE' : EdusAt w A' r.edus.length r.edus) (hl' : r.edus.length ≤ maxLen) (hf' : r.frm.size ≤ maxLen) (hd' : r.dest.size ≤ maxLen) (hi' : -9223372036854775808 ≤ r.id ∧ r.id ≤ 9223372036854775807) :
    Calls Try.prog 6 #[.agg #[.bool p.ack, .string p.frm, .string p.dest, .int .i64 p.id, .slice A p.edus.length cap], .agg #[.bool r.ack, .string r.frm, .string r.dest, .int .i64 r.id, .slice A' r.edus.length cap']] w fun e w' => e = .returned (.bool true) ∧ Below w.heap.size w w' := by
  have HGx := Lib.hid (fun w' hb => goodParE_any p A cap w hE hl hf hd hi w' hb)
  have HGy := Lib.hid (fun w' hb => goodParE_any r A' cap' w hE' hl' hf' hd' hi' w' hb)
  generalize goodP p = x at *
  generalize goodP r = y at *
  clear hE hl hf hd hi hE' hl' hf' hd' hi'
  obtain ⟨xa, xf, xd, xi, xe⟩ := x
  obtain ⟨ya, yf, yd, yi, ye⟩ := y
  obtain ⟨pa, pf, pd, pi', pe⟩ := p
  obtain ⟨ra, rf, rd, ri, re⟩ := r
  simp only [parV] at *
  go_enter Try.func6, Try.ntmps6
  go_upto_region 1 with (fail)
  have HK : KeepP w _ _ _ ((w.alloc (.cells #[.bool pa, .string pf, .string pd, .int .i64 pi', .slice A pe.length cap] 24)).alloc (.cells #[.bool ra, .string rf, .string rd, .int .i64 ri, .slice A' re.length cap'] 24)) := (((KeepP.refl w).new #[.bool pa, .string pf, .string pd, .int .i64 pi', .slice A pe.length cap] 24).new #[.bool ra, .string rf, .string rd, .int .i64 ri, .slice A' re.length cap'] 24)
  try simp only [size_alloc1] at HK
  replace HK := Lib.hid (show KeepP w [(w.heap.size + 1, #[.bool ra, .string rf, .string rd, .int .i64 ri, .slice A' re.length cap'], 24), (w.heap.size, #[.bool pa, .string pf, .string pd, .int .i64 pi', .slice A pe.length cap], 24)] [] [] ((w.alloc (.cells #[.bool pa, .string pf, .string pd, .int .i64 pi', .slice A pe.length cap] 24)).alloc (.cells #[.bool ra, .string rf, .string rd, .int .i64 ri, .slice A' re.length cap'] 24)) from HK)
  generalize hW : ((w.alloc (.cells #[.bool pa, .string pf, .string pd, .int .i64 pi', .slice A pe.length cap] 24)).alloc (.cells #[.bool ra, .string rf, .string rd, .int .i64 ri, .slice A' re.length cap'] 24)) = W0 at HK ⊢
  clear hW
  obtain ⟨c1_0, c1_1, c1_2, c1_3, c1_4⟩ := cells5p (HK.out.st 1 rfl)
  go_wp2_with fail
  clear c1_0 c1_1 c1_2 c1_3 c1_4
  refine (HGx.out _ HK.out.below).mono ?_
  rintro e w1 ⟨S, rfl, hm, hb⟩
  obtain ⟨A1, cp1, rfl⟩ := hm.shape
  replace HK := Lib.hid (show KeepP w [(w.heap.size + 1, #[.bool ra, .string rf, .string rd, .int .i64 ri, .slice A' re.length cap'], 24), (w.heap.size, #[.bool pa, .string pf, .string pd, .int .i64 pi', .slice A pe.length cap], 24)] [] [(.slice A1 xe.length cp1, (xe : List Edu))] w1 from (HK.out.later hb).consS (hm.mono (HK.out.below).size))
  clear hb hm
  try simp only [parV]
  go_upto_region 2 with (fail)
  have lt2_0 : w.heap.size + 1 < w1.heap.size := heap_lt (HK.out.st 0 rfl)
  have lt2_1 : w.heap.size < w1.heap.size := heap_lt (HK.out.st 1 rfl)
  replace HK := Lib.hid (HK.out.new #[.bool xa, .string xf, .string xd, .int .i64 xi, .slice A1 xe.length cp1] 24)
  generalize hW : (w1.alloc (.cells #[.bool xa, .string xf, .string xd, .int .i64 xi, .slice A1 xe.length cp1] 24)) = w2 at HK ⊢
  generalize hg : w1.heap.size = b2 at HK lt2_0 lt2_1 ⊢
  clear hW hg
  obtain ⟨c1_0, c1_1, c1_2, c1_3, c1_4⟩ := cells5p (HK.out.st 1 rfl)
  go_wp2_with fail
  clear c1_0 c1_1 c1_2 c1_3 c1_4
  refine (HGy.out _ HK.out.below).mono ?_
  rintro e w3 ⟨S, rfl, hm, hb⟩
  obtain ⟨A3, cp3, rfl⟩ := hm.shape
  replace HK := Lib.hid (show KeepP w [(b2, #[.bool xa, .string xf, .string xd, .int .i64 xi, .slice A1 xe.length cp1], 24), (w.heap.size + 1, #[.bool ra, .string rf, .string rd, .int .i64 ri, .slice A' re.length cap'], 24), (w.heap.size, #[.bool pa, .string pf, .string pd, .int .i64 pi', .slice A pe.length cap], 24)] [] [(.slice A3 ye.length cp3, (ye : List Edu)), (.slice A1 xe.length cp1, (xe : List Edu))] w3 from (HK.out.later hb).consS (hm.mono (HK.out.below).size))
  clear hb hm
  try simp only [parV]
  go_upto_region 3 with (fail)
  have lt4_0 : b2 < w3.heap.size := heap_lt (HK.out.st 0 rfl)
  have lt4_1 : w.heap.size + 1 < w3.heap.size := heap_lt (HK.out.st 1 rfl)
  have lt4_2 : w.heap.size < w3.heap.size := heap_lt (HK.out.st 2 rfl)
  replace HK := Lib.hid (HK.out.new #[.bool ya, .string yf, .string yd, .int .i64 yi, .slice A3 ye.length cp3] 24)
  generalize hW : (w3.alloc (.cells #[.bool ya, .string yf, .string yd, .int .i64 yi, .slice A3 ye.length cp3] 24)) = w4 at HK ⊢
  generalize hg : w3.heap.size = b4 at HK lt4_0 lt4_1 lt4_2 ⊢
  clear hW hg
  obtain ⟨c1_0, c1_1, c1_2, c1_3, c1_4⟩ := cells5p (HK.out.st 1 rfl)
  go_upto_region 4 with (fail)
  clear c1_0 c1_1 c1_2 c1_3 c1_4
  have lt5_0 : b4 < w4.heap.size := heap_lt (HK.out.st 0 rfl)
  have lt5_1 : b2 < w4.heap.size := heap_lt (HK.out.st 1 rfl)
  have lt5_2 : w.heap.size + 1 < w4.heap.size := heap_lt (HK.out.st 2 rfl)
  have lt5_3 : w.heap.size < w4.heap.size := heap_lt (HK.out.st 3 rfl)
  replace HK := Lib.hid (HK.out.new #[.bool xa, .string xf, .string xd, .int .i64 xi, .slice A1 xe.length cp1] 24)
  generalize hW : (w4.alloc (.cells #[.bool xa, .string xf, .string xd, .int .i64 xi, .slice A1 xe.length cp1] 24)) = w5 at HK ⊢
  generalize hg : w4.heap.size = b5 at HK lt5_0 lt5_1 lt5_2 lt5_3 ⊢
  clear hW hg
  obtain ⟨c0_0, c0_1, c0_2, c0_3, c0_4⟩ := cells5p (HK.out.st 0 rfl)
  obtain ⟨c1_0, c1_1, c1_2, c1_3, c1_4⟩ := cells5p (HK.out.st 1 rfl)
  have fr := free_at (HK.out.st 0 rfl) 4
  go_upto_region 5 with (fail)
  clear c0_0 c0_1 c0_2 c0_3 c0_4 c1_0 c1_1 c1_2 c1_3 c1_4
  clear fr
  replace HK := Lib.hid (show KeepP w [(b5, #[.bool xa, .string xf, .string xd, .int .i64 xi, .slice A3 ye.length cp3], 24), (b4, #[.bool ya, .string yf, .string yd, .int .i64 yi, .slice A3 ye.length cp3], 24), (b2, #[.bool xa, .string xf, .string xd, .int .i64 xi, .slice A1 xe.length cp1], 24), (w.heap.size + 1, #[.bool ra, .string rf, .string rd, .int .i64 ri, .slice A' re.length cap'], 24), (w.heap.size, #[.bool pa, .string pf, .string pd, .int .i64 pi', .slice A pe.length cap], 24)] [] [(.slice A3 ye.length cp3, (ye : List Edu)), (.slice A1 xe.length cp1, (xe : List Edu))] (w5.setCell ⟨b5, 4, none⟩ (.slice A3 ye.length cp3)) from KeepP.store (pre := []) (post := [(b4, #[.bool ya, .string yf, .string yd, .int .i64 yi, .slice A3 ye.length cp3], 24), (b2, #[.bool xa, .string xf, .string xd, .int .i64 xi, .slice A1 xe.length cp1], 24), (w.heap.size + 1, #[.bool ra, .string rf, .string rd, .int .i64 ri, .slice A' re.length cap'], 24), (w.heap.size, #[.bool pa, .string pf, .string pd, .int .i64 pi', .slice A pe.length cap], 24)]) HK.out (by simp; try omega) (by omega) (by decide) (by decide))
  generalize hW : (w5.setCell ⟨b5, 4, none⟩ (.slice A3 ye.length cp3)) = w6 at HK ⊢
  clear hW
  obtain ⟨c2_0, c2_1, c2_2, c2_3, c2_4⟩ := cells5p (HK.out.st 2 rfl)
  go_upto_region 6 with (fail)
  clear c2_0 c2_1 c2_2 c2_3 c2_4
  have lt7_0 : b5 < w6.heap.size := heap_lt (HK.out.st 0 rfl)
  have lt7_1 : b4 < w6.heap.size := heap_lt (HK.out.st 1 rfl)
  have lt7_2 : b2 < w6.heap.size := heap_lt (HK.out.st 2 rfl)
  have lt7_3 : w.heap.size + 1 < w6.heap.size := heap_lt (HK.out.st 3 rfl)
  have lt7_4 : w.heap.size < w6.heap.size := heap_lt (HK.out.st 4 rfl)
  replace HK := Lib.hid (HK.out.new #[.bool xa, .string xf, .string xd, .int .i64 xi, .slice A1 xe.length cp1] 24)
  generalize hW : (w6.alloc (.cells #[.bool xa, .string xf, .string xd, .int .i64 xi, .slice A1 xe.length cp1] 24)) = w7 at HK ⊢
  generalize hg : w6.heap.size = b7 at HK lt7_0 lt7_1 lt7_2 lt7_3 lt7_4 ⊢
  clear hW hg
  obtain ⟨c0_0, c0_1, c0_2, c0_3, c0_4⟩ := cells5p (HK.out.st 0 rfl)
  obtain ⟨c2_0, c2_1, c2_2, c2_3, c2_4⟩ := cells5p (HK.out.st 2 rfl)
  have fr := free_at (HK.out.st 0 rfl) 3
  go_upto_region 7 with (fail)
  clear c0_0 c0_1 c0_2 c0_3 c0_4 c2_0 c2_1 c2_2 c2_3 c2_4
  clear fr
  replace HK := Lib.hid (show KeepP w [(b7, #[.bool xa, .string xf, .string xd, .int .i64 yi, .slice A1 xe.length cp1], 24), (b5, #[.bool xa, .string xf, .string xd, .int .i64 xi, .slice A3 ye.length cp3], 24), (b4, #[.bool ya, .string yf, .string yd, .int .i64 yi, .slice A3 ye.length cp3], 24), (b2, #[.bool xa, .string xf, .string xd, .int .i64 xi, .slice A1 xe.length cp1], 24), (w.heap.size + 1, #[.bool ra, .string rf, .string rd, .int .i64 ri, .slice A' re.length cap'], 24), (w.heap.size, #[.bool pa, .string pf, .string pd, .int .i64 pi', .slice A pe.length cap], 24)] [] [(.slice A3 ye.length cp3, (ye : List Edu)), (.slice A1 xe.length cp1, (xe : List Edu))] (w7.setCell ⟨b7, 3, none⟩ (.int .i64 yi)) from KeepP.store (pre := []) (post := [(b5, #[.bool xa, .string xf, .string xd, .int .i64 xi, .slice A3 ye.length cp3], 24), (b4, #[.bool ya, .string yf, .string yd, .int .i64 yi, .slice A3 ye.length cp3], 24), (b2, #[.bool xa, .string xf, .string xd, .int .i64 xi, .slice A1 xe.length cp1], 24), (w.heap.size + 1, #[.bool ra, .string rf, .string rd, .int .i64 ri, .slice A' re.length cap'], 24), (w.heap.size, #[.bool pa, .string pf, .string pd, .int .i64 pi', .slice A pe.length cap], 24)]) HK.out (by simp; try omega) (by omega) (by decide) (by decide))
  generalize hW : (w7.setCell ⟨b7, 3, none⟩ (.int .i64 yi)) = w8 at HK ⊢
  clear hW
  obtain ⟨c0_0, c0_1, c0_2, c0_3, c0_4⟩ := cells5p (HK.out.st 0 rfl)
  obtain ⟨c1_0, c1_1, c1_2, c1_3, c1_4⟩ := cells5p (HK.out.st 1 rfl)
  obtain ⟨c2_0, c2_1, c2_2, c2_3, c2_4⟩ := cells5p (HK.out.st 2 rfl)
  obtain ⟨c3_0, c3_1, c3_2, c3_3, c3_4⟩ := cells5p (HK.out.st 3 rfl)
  go_upto_region 8 with (fail)
  clear c0_0 c0_1 c0_2 c0_3 c0_4 c1_0 c1_1 c1_2 c1_3 c1_4 c2_0 c2_1 c2_2 c2_3 c2_4 c3_0 c3_1 c3_2 c3_3 c3_4
  replace HK := Lib.hid (HK.out.new #[.bool xa, .string xf, .string xd, .int .i64 xi, .slice A1 xe.length cp1, .bool ya, .string yf, .string yd, .int .i64 yi, .slice A3 ye.length cp3, .bool xa, .string xf, .string xd, .int .i64 xi, .slice A3 ye.length cp3, .bool xa, .string xf, .string xd, .int .i64 yi, .slice A1 xe.length cp1] 24)
  generalize hW : (w8.alloc (.cells #[.bool xa, .string xf, .string xd, .int .i64 xi, .slice A1 xe.length cp1, .bool ya, .string yf, .string yd, .int .i64 yi, .slice A3 ye.length cp3, .bool xa, .string xf, .string xd, .int .i64 xi, .slice A3 ye.length cp3, .bool xa, .string xf, .string xd, .int .i64 yi, .slice A1 xe.length cp1] 24)) = w9 at HK ⊢
  generalize hg : w8.heap.size = b9 at HK  ⊢
  clear hW hg
  have HA4 := Lib.hid (all4 ⟨xa, xf, xd, xi, xe⟩ ⟨ya, yf, yd, yi, ye⟩ ⟨xa, xf, xd, xi, ye⟩ ⟨xa, xf, xd, yi, xe⟩ A1 A3 A3 A1 cp1 cp3 cp3 cp1 HK.out.below (HK.out.st 0 rfl) (HK.out.sl 1 rfl) (HK.out.sl 0 rfl) (HK.out.sl 0 rfl) (HK.out.sl 1 rfl))
  clear HK HGx HGy
  generalize sel4 (⟨xa, xf, xd, xi, xe⟩ : Par) ⟨ya, yf, yd, yi, ye⟩ ⟨xa, xf, xd, xi, ye⟩ ⟨xa, xf, xd, yi, xe⟩ = F at HA4
  generalize sel4 A1 A3 A3 A1 = Av at HA4
  generalize sel4 cp1 cp3 cp3 cp1 = Cv at HA4
  go_wp2_with fail
  go_loopw [10] (fun iv wr => ∃ i : Nat, i ≤ 4 ∧ iv = .int .i64 (i : Int) ∧ Hid (AllP w b9 4 F Av Cv wr)) (fun iv _ => 4 - (intOf iv).toNat)
  case atStart => exact ⟨0, by omega, rfl, HA4⟩
  case round =>
    obtain ⟨i, hi, rfl, HR⟩ := hrel
    clear HA4
    by_cases hi4 : i < 4
    rotate_left
    · have q1 : decide ((i : Int) < 4) = false := by simp; omega
      go_wp2_with fail
      refine (lives4_any _).mono ?_
      rintro e w9 ⟨rfl, hb⟩
      go_wp2_with fail
      go_ret
      exact ⟨rfl, (HR.out.later hb).below⟩
    have q1 : decide ((i : Int) < 4) = true := by simp; omega
    go_wp2_with fail
    go_loopw [11] (fun kv wr => ∃ k : Nat, k ≤ 4 ∧ kv = .int .i64 (k : Int) ∧ Hid (AllP w b9 4 F Av Cv wr)) (fun kv _ => 4 - (intOf kv).toNat)
    case atStart => exact ⟨0, by omega, rfl, HR⟩
    case round =>
      obtain ⟨k, hk, rfl, HR'⟩ := hrel
      clear HR
      have HR := HR'
      clear HR'
      by_cases hk4 : k < 4
      rotate_left
      · have q2 : decide ((k : Int) < 4) = false := by simp; omega
        go_wp2_with fail
        first | exact ⟨⟨i + 1, by omega, by go_num, HR⟩, by simp [intOf]; omega⟩ | (refine ⟨⟨i + 1, by omega, by go_num, HR⟩, ?_⟩; simp [intOf]; omega)
      have q2 : decide ((k : Int) < 4) = true := by simp; omega
      have hix := fun w => index_par (b := b9) (len := 4) (cap := 4) hi4 w
      have hix' := fun w => index_par (b := b9) (len := 4) (cap := 4) hk4 w
      have HAt := Lib.hid (fun wx (h : AllP w b9 4 F Av Cv wx) => h.at hi4)
      have HAt' := Lib.hid (fun wx (h : AllP w b9 4 F Av Cv wx) => h.at hk4)
      have HEd := Lib.hid (fun wx (h : AllP w b9 4 F Av Cv wx) => h.edus hi4)
      have HEd' := Lib.hid (fun wx (h : AllP w b9 4 F Av Cv wx) => h.edus hk4)
      have HS1 := Lib.hid (fun wx h h' hl hl' => samePar_any (F i) (F k) (Av i) (Av k) (Cv i) (Cv k) wx h h' hl hl')
      have HS2 := Lib.hid (fun wx h h' hl hl' => refSamePar_any (F i) (F k) (Av i) (Av k) (Cv i) (Cv k) wx h h' hl hl')
      generalize sameP (F i) (F k) = M at *
      generalize F i = fi at HAt HEd HS1 HS2
      generalize Av i = ai at HAt HEd HS1 HS2
      generalize Cv i = ci at HAt HEd HS1 HS2
      generalize F k = fk at HAt' HEd' HS1 HS2
      generalize Av k = ak at HAt' HEd' HS1 HS2
      generalize Cv k = ck at HAt' HEd' HS1 HS2
      obtain ⟨ia, if', id', ii, ie⟩ := fi
      obtain ⟨ka, kf, kd, ki, ke⟩ := fk
      simp only at HAt HEd HS1 HS2 HAt' HEd'
      go_wp2_with fail
      refine wp_region_held_drew (S := fun w' => AllP w b9 4 F Av Cv w') (by kernel_rfl) HR.out.drew (fun hHeld => ?_)
      generalize hwd : wr.drew = wd at hHeld ⊢
      clear HR hwd
      refine wpAnyH_take (i := 0) (oi := ⟨some 37, _, _, _, _, _⟩) (v := ?v0) rfl (by kernel_rfl) (by kernel_rfl) (by kernel_rfl) (fun _ _ _ h => h) (Or.inl ⟨by rfl, ?y0⟩) hHeld ?r0
      case y0 =>
        intro wx hSx
        go_simp
        try with_reducible rfl
      try simp only [Act.put, List.setIfInBounds_toArray, List.set_cons_zero, List.set_cons_succ]
      refine wpAnyH_take (i := 1) (oi := ⟨some 38, _, _, _, _, _⟩) (v := ?v1) rfl (by kernel_rfl) (by kernel_rfl) (by kernel_rfl) (fun _ _ _ h => h) (Or.inl ⟨by rfl, ?y1⟩) hHeld ?r1
      case y1 =>
        intro wx hSx
        go_simp
        try with_reducible rfl
      try simp only [Act.put, List.setIfInBounds_toArray, List.set_cons_zero, List.set_cons_succ]
      refine wpAnyH_take (i := 2) (oi := ⟨some 39, _, _, _, _, _⟩) (v := ?v2) rfl (by kernel_rfl) (by kernel_rfl) (by kernel_rfl) (fun _ _ _ h => h) (Or.inl ⟨by rfl, ?y2⟩) hHeld ?r2
      case y2 =>
        intro wx hSx
        go_simp
        try with_reducible rfl
      try simp only [Act.put, List.setIfInBounds_toArray, List.set_cons_zero, List.set_cons_succ]
      refine wpAnyH_take (i := 3) (oi := ⟨some 40, _, _, _, _, _⟩) (v := ?v3) rfl (by kernel_rfl) (by kernel_rfl) (by kernel_rfl) (fun _ _ _ h => h) (Or.inl ⟨by rfl, ?y3⟩) hHeld ?r3
      case y3 =>
        intro wx hSx
        obtain ⟨c0, c1, c2, c3, c4⟩ := HAt.out wx hSx
        go_simp
        try with_reducible rfl
      try simp only [Act.put, List.setIfInBounds_toArray, List.set_cons_zero, List.set_cons_succ]
      refine wpAnyH_take (i := 5) (oi := ⟨some 42, _, _, _, _, _⟩) (v := ?v5) rfl (by kernel_rfl) (by kernel_rfl) (by kernel_rfl) (fun _ _ _ h => h) (Or.inl ⟨by rfl, ?y5⟩) hHeld ?r5
      case y5 =>
        intro wx hSx
        go_simp
        try with_reducible rfl
      try simp only [Act.put, List.setIfInBounds_toArray, List.set_cons_zero, List.set_cons_succ]
      refine wpAnyH_take (i := 6) (oi := ⟨some 43, _, _, _, _, _⟩) (v := ?v6) rfl (by kernel_rfl) (by kernel_rfl) (by kernel_rfl) (fun _ _ _ h => h) (Or.inl ⟨by rfl, ?y6⟩) hHeld ?r6
      case y6 =>
        intro wx hSx
        go_simp
        try with_reducible rfl
      try simp only [Act.put, List.setIfInBounds_toArray, List.set_cons_zero, List.set_cons_succ]
      refine wpAnyH_take (i := 7) (oi := ⟨some 44, _, _, _, _, _⟩) (v := ?v7) rfl (by kernel_rfl) (by kernel_rfl) (by kernel_rfl) (fun _ _ _ h => h) (Or.inl ⟨by rfl, ?y7⟩) hHeld ?r7
      case y7 =>
        intro wx hSx
        go_simp
        try with_reducible rfl
      try simp only [Act.put, List.setIfInBounds_toArray, List.set_cons_zero, List.set_cons_succ]
      refine wpAnyH_take (i := 8) (oi := ⟨some 45, _, _, _, _, _⟩) (v := ?v8) rfl (by kernel_rfl) (by kernel_rfl) (by kernel_rfl) (fun _ _ _ h => h) (Or.inl ⟨by rfl, ?y8⟩) hHeld ?r8
      case y8 =>
        intro wx hSx
        obtain ⟨c0, c1, c2, c3, c4⟩ := HAt'.out wx hSx
        go_simp
        try with_reducible rfl
      try simp only [Act.put, List.setIfInBounds_toArray, List.set_cons_zero, List.set_cons_succ]
      refine wpAnyH_take (i := 11) (oi := ⟨some 48, _, _, _, _, _⟩) (v := ?v11) rfl (by kernel_rfl) (by kernel_rfl) (by kernel_rfl) (fun _ _ _ h => h) (Or.inl ⟨by rfl, ?y11⟩) hHeld ?r11
      case y11 =>
        intro wx hSx
        go_simp
        try with_reducible rfl
      try simp only [Act.put, List.setIfInBounds_toArray, List.set_cons_zero, List.set_cons_succ]
      refine wpAnyH_take (i := 12) (oi := ⟨some 49, _, _, _, _, _⟩) (v := ?v12) rfl (by kernel_rfl) (by kernel_rfl) (by kernel_rfl) (fun _ _ _ h => h) (Or.inl ⟨by rfl, ?y12⟩) hHeld ?r12
      case y12 =>
        intro wx hSx
        go_simp
        try with_reducible rfl
      try simp only [Act.put, List.setIfInBounds_toArray, List.set_cons_zero, List.set_cons_succ]
      refine wpAnyH_take (i := 13) (oi := ⟨some 50, _, _, _, _, _⟩) (v := ?v13) rfl (by kernel_rfl) (by kernel_rfl) (by kernel_rfl) (fun _ _ _ h => h) (Or.inl ⟨by rfl, ?y13⟩) hHeld ?r13
      case y13 =>
        intro wx hSx
        go_simp
        try with_reducible rfl
      try simp only [Act.put, List.setIfInBounds_toArray, List.set_cons_zero, List.set_cons_succ]
      refine wpAnyH_take (i := 14) (oi := ⟨some 51, _, _, _, _, _⟩) (v := ?v14) rfl (by kernel_rfl) (by kernel_rfl) (by kernel_rfl) (fun _ _ _ h => h) (Or.inl ⟨by rfl, ?y14⟩) hHeld ?r14
      case y14 =>
        intro wx hSx
        obtain ⟨c0, c1, c2, c3, c4⟩ := HAt.out wx hSx
        go_simp
        try with_reducible rfl
      try simp only [Act.put, List.setIfInBounds_toArray, List.set_cons_zero, List.set_cons_succ]
      refine wpAnyH_take (i := 15) (oi := ⟨some 52, _, _, _, _, _⟩) (v := ?v15) rfl (by kernel_rfl) (by kernel_rfl) (by kernel_rfl) (fun _ _ _ h => h) (Or.inl ⟨by rfl, ?y15⟩) hHeld ?r15
      case y15 =>
        intro wx hSx
        go_simp
        try with_reducible rfl
      try simp only [Act.put, List.setIfInBounds_toArray, List.set_cons_zero, List.set_cons_succ]
      refine wpAnyH_take (i := 16) (oi := ⟨some 53, _, _, _, _, _⟩) (v := ?v16) rfl (by kernel_rfl) (by kernel_rfl) (by kernel_rfl) (fun _ _ _ h => h) (Or.inl ⟨by rfl, ?y16⟩) hHeld ?r16
      case y16 =>
        intro wx hSx
        go_simp
        try with_reducible rfl
      try simp only [Act.put, List.setIfInBounds_toArray, List.set_cons_zero, List.set_cons_succ]
      refine wpAnyH_take (i := 17) (oi := ⟨some 54, _, _, _, _, _⟩) (v := ?v17) rfl (by kernel_rfl) (by kernel_rfl) (by kernel_rfl) (fun _ _ _ h => h) (Or.inl ⟨by rfl, ?y17⟩) hHeld ?r17
      case y17 =>
        intro wx hSx
        go_simp
        try with_reducible rfl
      try simp only [Act.put, List.setIfInBounds_toArray, List.set_cons_zero, List.set_cons_succ]
      refine wpAnyH_take (i := 18) (oi := ⟨some 55, _, _, _, _, _⟩) (v := ?v18) rfl (by kernel_rfl) (by kernel_rfl) (by kernel_rfl) (fun _ _ _ h => h) (Or.inl ⟨by rfl, ?y18⟩) hHeld ?r18
      case y18 =>
        intro wx hSx
        obtain ⟨c0, c1, c2, c3, c4⟩ := HAt'.out wx hSx
        go_simp
        try with_reducible rfl
      try simp only [Act.put, List.setIfInBounds_toArray, List.set_cons_zero, List.set_cons_succ]
      refine wpAnyH_ready (rs := [4]) (by kernel_rfl) (by simp) ?_
      refine AllReadyH.cons (o := ⟨some 41, _, _, _, _, _⟩) rfl (fun K hK => ?_) AllReadyH.nil
      go_simp
      refine (of_par _ _ _ _ _ _ _ _).mono ?_
      rintro e wn4 ⟨rfl, hbn⟩
      replace hHeld := hHeld.later hbn
      refine hK.out _ _ hHeld (fun _ => ?_)
      clear hK K hbn
      try simp only [Act.put, List.setIfInBounds_toArray, List.set_cons_zero, List.set_cons_succ]
      refine wpAnyH_ready (rs := [9]) (by kernel_rfl) (by simp) ?_
      refine AllReadyH.cons (o := ⟨some 46, _, _, _, _, _⟩) rfl (fun K hK => ?_) AllReadyH.nil
      go_simp
      refine (of_par _ _ _ _ _ _ _ _).mono ?_
      rintro e wn9 ⟨rfl, hbn⟩
      replace hHeld := hHeld.later hbn
      refine hK.out _ _ hHeld (fun _ => ?_)
      clear hK K hbn
      try simp only [Act.put, List.setIfInBounds_toArray, List.set_cons_zero, List.set_cons_succ]
      refine wpAnyH_ready (rs := [10]) (by kernel_rfl) (by simp) ?_
      refine AllReadyH.cons (o := ⟨some 47, _, _, _, _, _⟩) rfl (fun K hK => ?_) AllReadyH.nil
      go_simp
      refine (HS1.out _ (HEd.out _ hHeld).1 (HEd'.out _ hHeld).1 (HEd.out _ hHeld).2 (HEd'.out _ hHeld).2).mono ?_
      rintro e wn10 ⟨rfl, hbn⟩
      replace hHeld := hHeld.later hbn
      refine hK.out _ _ hHeld (fun _ => ?_)
      clear hK K hbn
      try simp only [Act.put, List.setIfInBounds_toArray, List.set_cons_zero, List.set_cons_succ]
      refine wpAnyH_ready (rs := [19]) (by kernel_rfl) (by simp) ?_
      refine AllReadyH.cons (o := ⟨some 56, _, _, _, _, _⟩) rfl (fun K hK => ?_) AllReadyH.nil
      go_simp
      refine (HS2.out _ (HEd.out _ hHeld).1 (HEd'.out _ hHeld).1 (HEd.out _ hHeld).2 (HEd'.out _ hHeld).2).mono ?_
      rintro e wn19 ⟨rfl, hbn⟩
      replace hHeld := hHeld.later hbn
      refine hK.out _ _ hHeld (fun _ => ?_)
      clear hK K hbn
      try simp only [Act.put, List.setIfInBounds_toArray, List.set_cons_zero, List.set_cons_succ]
      have hMM : ∃ x, x = M := ⟨_, rfl⟩
      refine wpAnyH_take (i := 20) (oi := ⟨some 57, _, _, _, _, _⟩) (v := ?v20) rfl (by kernel_rfl) (by kernel_rfl) (by kernel_rfl) (fun _ _ _ h => h) (Or.inl ⟨by rfl, ?y20⟩) hHeld ?r20
      case y20 =>
        intro wx hSx
        go_simp
        try with_reducible rfl
      try simp only [Act.put, List.setIfInBounds_toArray, List.set_cons_zero, List.set_cons_succ]
      refine wpAnyH_done (by kernel_rfl) ?_ _
      have HR := Lib.hid hHeld
      clear hHeld
      cases M
      all_goals
        (go_wp2_with fail
         exact ⟨⟨k + 1, by omega, by go_num, HR⟩, by simp [intOf]; omega⟩)
end Go.Proofs.Ytnabbebkmafakaa
