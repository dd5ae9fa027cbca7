/-
  A parcel of 100 EDUs may be, and of none more: the statement ParcelMany, walked.
-/
import Derived.Test.YtnabbebkmafakaaPKit
namespace Go.Proofs.Ytnabbebkmafakaa
set_option maxRecDepth 20000
open Go.RowKit
set_option linter.unusedVariables false
set_option linter.unusedSimpArgs false

def manyP (e : Edu) (k : Nat) : Par := ⟨false, ⟨#[97]⟩, ⟨#[98]⟩, 1, List.replicate k e⟩
theorem one_max : (⟨#[97]⟩ : ByteArray).size ≤ maxLen := by decide
theorem one_max' : (⟨#[98]⟩ : ByteArray).size ≤ maxLen := by decide
theorem one_thou : (⟨#[97]⟩ : ByteArray).size ≤ 1000 := by decide
theorem one_thou' : (⟨#[98]⟩ : ByteArray).size ≤ 1000 := by decide
theorem one_int : -9223372036854775808 ≤ (1 : Int) ∧ (1 : Int) ≤ 9223372036854775807 := by decide
theorem many_all {e : Edu} (h : mayB e = true) (k : Nat) : (List.replicate k e).all mayB = true := by
  rw [List.all_eq_true]
  intro x hx
  rw [List.eq_of_mem_replicate hx]
  exact h
theorem many_servers : serverB ⟨#[97]⟩ = true ∧ serverB ⟨#[98]⟩ = true ∧ (⟨#[97]⟩ : ByteArray).toList ≠ (⟨#[98]⟩ : ByteArray).toList := by decide +kernel
theorem many_may {e : Edu} {k : Nat} (h : mayB e = true) (hk : k ≤ 100) : mayP (manyP e k) = true := by
  obtain ⟨h1, h2, h3⟩ := many_servers
  unfold mayP manyP
  simp only [Bool.and_eq_true, decide_eq_true_iff]
  exact ⟨h1, h2, h3, by omega, by rw [List.length_replicate]; exact hk, (fun h => by cases h), many_all h k⟩
theorem many_not {e : Edu} {k : Nat} (hk : ¬ k ≤ 100) : mayP (manyP e k) = false := by
  cases h : mayP (manyP e k) with
  | false => rfl
  | true =>
    obtain ⟨_, _, _, _, hn, _⟩ := mayP_parts h
    simp only [manyP, List.length_replicate] at hn
    exact absurd hn hk
theorem many_none {e : Edu} {k : Nat} (hk : ¬ k ≤ 100) (hk2 : k ≤ 1000) : readP 16 1000000 (bytesP (manyP e k)) = none := by
  have n1 : (List.replicate k e).length < 128 ^ 9 := by rw [List.length_replicate]; exact Nat.lt_of_le_of_lt hk2 (by decide)
  have i1 : natI 1 < 128 ^ 9 := by decide
  unfold readP bytesP manyP
  simp only [flagS_flag, textS_fit (f := ⟨#[97]⟩) (m := 16) (by decide) (by decide), textS_fit (f := ⟨#[98]⟩) (m := 16) (by decide) (by decide), numS_digs _ i1, numS_digs _ n1]
  rw [if_neg]
  intro h
  rw [List.length_replicate] at h
  exact hk h.2
theorem many_len {e : Edu} {k : Nat} (h : mayB e = true) (hk : k ≤ 1000) : (bytesP (manyP e k)).length ≤ 1000000 := by
  have h1 := headP_len (manyP e k) (by show (1 : Nat) ≤ 1000; decide) (by show (1 : Nat) ≤ 1000; decide) (by show (1 : Int) ≤ _; decide) (by simp only [manyP, List.length_replicate]; exact hk)
  have h2 := edus_len _ (many_all h k)
  rw [List.length_replicate] at h2
  rw [bytesP_head, List.length_append]
  simp only [manyP] at h1 ⊢
  omega
theorem KeepP.put {w w' w'' : World} {B : Nat} {l : List (Nat × Array Value × TypeId)} (h : KeepP w l [] [] w') (hB : w.heap.size ≤ B) (hl : ∀ p ∈ l, p.1 < B) (hb : Below B w' w'') : KeepP w l [] [] w'' :=
  ⟨⟨h.1.1.trans (hb.mono hB), fun p hp => (hb.block _ (hl p hp)).trans (h.1.2.1 p hp), fun p hp => (List.not_mem_nil hp).elim⟩, fun p hp => (List.not_mem_nil hp).elim⟩
theorem rep_snoc (j : Nat) (e : Edu) : List.replicate j e ++ [e] = List.replicate (j + 1) e := by rw [List.replicate_succ', ]

set_option maxHeartbeats 1200000 in
theorem parcelMany_walk (e : Edu) (n : Int) (w : World) (hw : e.well) (h0 : -9223372036854775808 ≤ n) (h1 : n ≤ 9223372036854775807) :
    Calls Try.prog 7 #[e.val, .int .i64 n] w fun e w' => e = .returned (.bool true) ∧ Below w.heap.size w w' := by
  have HP := Lib.hid (fun w => publicW_any e w hw)
  have HA := Lib.hid (fun w => around_any n 10 w h0 h1 (by decide) (by decide))
  have ba := aroundI_bd n 10 (by decide)
  have hme := public_may e
  clear hw h0 h1
  generalize aroundI n 10 = an at *
  obtain ⟨k, hk⟩ : ∃ k : Nat, (k : Int) = 95 + an := ⟨(95 + an).toNat, by omega⟩
  generalize publicE e = ne at *
  have hnw := Lib.hid (may_well hme)
  have HMay := Lib.hid (fun (hk : k ≤ 100) => many_may hme hk)
  have HNot := Lib.hid (fun (hk : ¬ k ≤ 100) => many_not (e := ne) hk)
  have HNone := Lib.hid (fun (hk : ¬ k ≤ 100) hk2 => many_none (e := ne) hk hk2)
  have HLen := Lib.hid (fun hk => many_len (k := k) hme hk)
  have HAll := Lib.hid (many_all hme k)
  have HRd := Lib.hid (fun h => readP_bytes (p := manyP ne k) (m1 := 16) (m2 := 1000000) h (by decide) (by decide))
  have HLk := Lib.hid (List.length_replicate (n := k) (a := ne))
  simp only [manyP] at HMay HNot HNone HLen HRd
  generalize hL : List.replicate k ne = L at *
  replace hL := Lib.hid hL
  have HWy := Lib.hid (fun w A c hE hm => writePar_yes ⟨false, ⟨#[97]⟩, ⟨#[98]⟩, 1, L⟩ A c w hE hm)
  have HWn := Lib.hid (fun w A c hE hl hm => writePar_no ⟨false, ⟨#[97]⟩, ⟨#[98]⟩, 1, L⟩ A c w hE hl one_max one_max' hm)
  have HMa := Lib.hid (fun w A c hE hl => mayPar_any ⟨false, ⟨#[97]⟩, ⟨#[98]⟩, 1, L⟩ A c w hE hl one_max one_max')
  have HBy := Lib.hid (fun w A c hE hn => refBytesPar_any ⟨false, ⟨#[97]⟩, ⟨#[98]⟩, 1, L⟩ A c w hE HAll.out hn one_thou one_thou' one_int)
  have HSm := Lib.hid (fun w A A' c c' h h' hl hl' => samePar_any ⟨false, ⟨#[97]⟩, ⟨#[98]⟩, 1, L⟩ ⟨false, ⟨#[97]⟩, ⟨#[98]⟩, 1, L⟩ A A' c c' w h h' hl hl')
  rw [sameP_self] at HSm
  generalize bytesP ⟨false, ⟨#[97]⟩, ⟨#[98]⟩, 1, L⟩ = BP at *
  generalize mayP ⟨false, ⟨#[97]⟩, ⟨#[98]⟩, 1, L⟩ = MB at *
  clear hme HAll
  obtain ⟨x0, x1, x2, x3, x4, x5, x6, x7, x8, x9, x10⟩ := e
  obtain ⟨y0, y1, y2, y3, y4, y5, y6, y7, y8, y9, y10⟩ := ne
  simp only [Edu.val] at *
  have hk95 : 95 ≤ k := by omega
  have hk104 : k ≤ 104 := by omega
  have hka : IntKind.i64.wrap (95 + an) = (k : Int) := by rw [IntWalk.i64_in (95 + an) (by omega)]; omega
  go_enter Try.func7, Try.ntmps7
  go_upto_region 1 with (fail)
  have HK : KeepP w _ _ _ (w.alloc (.cells #[.int .i64 x0, .string x1, .string x2, .string x3, .string x4, .bool x5, .bool x6, .int .i64 x7, .int .i64 x8, .int .i64 x9, .int .i64 x10] 50)) := ((KeepP.refl w).new #[.int .i64 x0, .string x1, .string x2, .string x3, .string x4, .bool x5, .bool x6, .int .i64 x7, .int .i64 x8, .int .i64 x9, .int .i64 x10] 50)
  try simp only [size_alloc1] at HK
  replace HK := Lib.hid (show KeepP w [(w.heap.size, #[.int .i64 x0, .string x1, .string x2, .string x3, .string x4, .bool x5, .bool x6, .int .i64 x7, .int .i64 x8, .int .i64 x9, .int .i64 x10], 50)] [] [] (w.alloc (.cells #[.int .i64 x0, .string x1, .string x2, .string x3, .string x4, .bool x5, .bool x6, .int .i64 x7, .int .i64 x8, .int .i64 x9, .int .i64 x10] 50)) from HK)
  generalize hW : (w.alloc (.cells #[.int .i64 x0, .string x1, .string x2, .string x3, .string x4, .bool x5, .bool x6, .int .i64 x7, .int .i64 x8, .int .i64 x9, .int .i64 x10] 50)) = W0 at HK ⊢
  clear hW
  obtain ⟨c0_0, c0_1, c0_2, c0_3, c0_4, c0_5, c0_6, c0_7, c0_8, c0_9, c0_10⟩ := cells11 (HK.out.st 0 rfl)
  go_wp2_with fail
  clear c0_0 c0_1 c0_2 c0_3 c0_4 c0_5 c0_6 c0_7 c0_8 c0_9 c0_10
  refine (HP.out _).mono ?_
  rintro e w1 ⟨rfl, hb⟩
  replace HK := Lib.hid (HK.out.later hb)
  clear hb
  go_upto_region 2 with (fail)
  have lt2_0 : w.heap.size < w1.heap.size := heap_lt (HK.out.st 0 rfl)
  replace HK := Lib.hid (HK.out.new #[.int .i64 y0, .string y1, .string y2, .string y3, .string y4, .bool y5, .bool y6, .int .i64 y7, .int .i64 y8, .int .i64 y9, .int .i64 y10] 50)
  generalize hW : (w1.alloc (.cells #[.int .i64 y0, .string y1, .string y2, .string y3, .string y4, .bool y5, .bool y6, .int .i64 y7, .int .i64 y8, .int .i64 y9, .int .i64 y10] 50)) = w2 at HK ⊢
  generalize hg : w1.heap.size = b2 at HK lt2_0 ⊢
  clear hW hg
  go_wp2_with fail
  refine (HA.out _).mono ?_
  rintro e wz ⟨rfl, rfl⟩
  go_upto_region 3 with (fail)
  try rw [hka]
  try rw [← hk]
  go_upto_region 4 with (fail)
  have lt3_0 : b2 < w2.heap.size := heap_lt (HK.out.st 0 rfl)
  have lt3_1 : w.heap.size < w2.heap.size := heap_lt (HK.out.st 1 rfl)
  replace HK := Lib.hid (HK.out.new #[.bool false, .string ⟨#[97]⟩, .string ⟨#[98]⟩, .int .i64 1, .slice none 0 0] 33)
  generalize hW : (w2.alloc (.cells #[.bool false, .string ⟨#[97]⟩, .string ⟨#[98]⟩, .int .i64 1, .slice none 0 0] 33)) = w3 at HK ⊢
  generalize hg : w2.heap.size = b3 at HK lt3_0 lt3_1 ⊢
  clear hW hg
  go_wp2_with fail
  go_loopw [8] (fun iv wr => ∃ (j : Nat) (S : Value), j ≤ k ∧ iv = .int .i64 (j : Int) ∧ Hid (KeepP w [(b3, #[.bool false, .string ⟨#[97]⟩, .string ⟨#[98]⟩, .int .i64 1, S], 33), (b2, #[.int .i64 y0, .string y1, .string y2, .string y3, .string y4, .bool y5, .bool y6, .int .i64 y7, .int .i64 y8, .int .i64 y9, .int .i64 y10], 50), (w.heap.size, #[.int .i64 x0, .string x1, .string x2, .string x3, .string x4, .bool x5, .bool x6, .int .i64 x7, .int .i64 x8, .int .i64 x9, .int .i64 x10], 50)] [] [] wr) ∧ Hid (MadeE wr (b3 + 1) S (List.replicate j ⟨y0, y1, y2, y3, y4, y5, y6, y7, y8, y9, y10⟩))) (fun iv _ => k - (intOf iv).toNat)
  case atStart => exact ⟨0, _, Nat.zero_le _, rfl, HK, Lib.hid (MadeE.nil _ _)⟩
  case round =>
    obtain ⟨j, S, hj, rfl, HK', HM⟩ := hrel
    clear HK
    have HK := HK'
    clear HK'
    by_cases hlt : j < k
    · have q2 : decide ((j : Int) < (k : Int)) = true := by simp; omega
      obtain ⟨c0, c1, c2, c3, c4⟩ := cells5p (HK.out.st 0 rfl)
      obtain ⟨f0, f1, f2, f3, f4, f5, f6, f7, f8, f9, f10⟩ := cells11 (HK.out.st 1 rfl)
      have hsz := heap_lt (HK.out.st 0 rfl)
      have HK5 := Lib.hid (HK.out.later (below_new wr (.cells #[.int .i64 y0, .string y1, .string y2, .string y3, .string y4, .bool y5, .bool y6, .int .i64 y7, .int .i64 y8, .int .i64 y9, .int .i64 y10] 50)))
      have HM5 := Lib.hid (HM.out.below (below_new wr (.cells #[.int .i64 y0, .string y1, .string y2, .string y3, .string y4, .bool y5, .bool y6, .int .i64 y7, .int .i64 y8, .int .i64 y9, .int .i64 y10] 50)))
      have hS5 := Lib.hid (Src.ofEdu wr ⟨y0, y1, y2, y3, y4, y5, y6, y7, y8, y9, y10⟩ wr.heap.size rfl)
      go_wp2_with (first | (at_builtin; refine wpList_putE rfl (.tmp 25) (.tmp 27) rfl rfl HM5.out (heap_lt (HK5.out.st 0 rfl)) _ ⟨y0, y1, y2, y3, y4, y5, y6, y7, y8, y9, y10⟩ hnw.out rfl hS5.out (by rw [List.length_replicate]; omega) ?_; intro g6 cc6 w6 hg6 ho6 hb6 hk6; have HK6 := Lib.hid (HK5.out.put (B := b3 + 1) (by omega) (by simp; omega) hb6); have HM6 := Lib.hid (MadeE.own (B := b3 + 1) (n := (List.replicate j (⟨y0, y1, y2, y3, y4, y5, y6, y7, y8, y9, y10⟩ : Edu)).length + 1) (by simp) hg6 ho6); rw [rep_snoc] at HM6; clear hg6 ho6 hb6 hk6; generalize hnn : (List.replicate j (⟨y0, y1, y2, y3, y4, y5, y6, y7, y8, y9, y10⟩ : Edu)).length + 1 = nn at HM6 ⊢; obtain ⟨e0, e1, e2, e3, e4⟩ := cells5p (HK6.out.st 0 rfl); have fr6 := free_at (HK6.out.st 0 rfl) 4) | (refine wpList_buildE rfl (.tmp 26) rfl ⟨y0, y1, y2, y3, y4, y5, y6, y7, y8, y9, y10⟩ rfl ?_))
      have HK7 := Lib.hid (show KeepP w [(b3, #[.bool false, .string ⟨#[97]⟩, .string ⟨#[98]⟩, .int .i64 1, .slice (some ⟨g6, 0, none⟩) nn cc6], 33), (b2, #[.int .i64 y0, .string y1, .string y2, .string y3, .string y4, .bool y5, .bool y6, .int .i64 y7, .int .i64 y8, .int .i64 y9, .int .i64 y10], 50), (w.heap.size, #[.int .i64 x0, .string x1, .string x2, .string x3, .string x4, .bool x5, .bool x6, .int .i64 x7, .int .i64 x8, .int .i64 x9, .int .i64 x10], 50)] [] [] _ from KeepP.store (pre := []) (i := 4) (u := .slice (some ⟨g6, 0, none⟩) nn cc6) HK6.out (by simp; omega) (by omega) (by decide) (by decide))
      have HM7 := Lib.hid (made_keep (t := 33) HM6.out (HK6.out.st 0 rfl) (by decide) (grown_set w6 b3 4 (.slice (some ⟨g6, 0, none⟩) nn cc6)))
      first | exact ⟨⟨j + 1, _, by omega, by go_num, HK7, HM7⟩, by simp [intOf]; omega⟩ | exact ⟨⟨j + 1, by omega, by go_num, _, HK7, HM7⟩, by simp [intOf]; omega⟩
    · obtain rfl : j = k := by omega
      have q2 : decide ((j : Int) < (j : Int)) = false := by simp
      rw [hL.out] at HM
      replace HK := Lib.hid (HK.out.consS (HM.out.mono (by omega)))
      obtain ⟨A9, c9, rfl⟩ := HM.out.shape
      clear HM HP HA hnw hL hk hka ba
      have hll : L.length ≤ 1000 := by rw [HLk.out]; omega
      have hlm : L.length ≤ maxLen := by rw [maxLen_eq]; omega
      by_cases hmany : j ≤ 100
      · have q3 : decide ((100 : Int) < (j : Int)) = false := by simp; omega
        have hmb := HMay.out hmany
        have hrd := HRd.out hmb
        have hbl := HLen.out (by omega)
        obtain ⟨c0_0, c0_1, c0_2, c0_3, c0_4⟩ := cells5p (HK.out.st 0 rfl)
        go_wp2_with fail
        clear c0_0 c0_1 c0_2 c0_3 c0_4
        refine (HWy.out _ _ _ (made_at (HK.out.sl 0 rfl)).1 hmb).mono ?_
        rintro e w21 ⟨⟨g21, cap21, rfl, hg, ho⟩, hb⟩
        replace HK := Lib.hid (show KeepP w [(b3, #[.bool false, .string ⟨#[97]⟩, .string ⟨#[98]⟩, .int .i64 1, .slice A9 L.length c9], 33), (b2, #[.int .i64 y0, .string y1, .string y2, .string y3, .string y4, .bool y5, .bool y6, .int .i64 y7, .int .i64 y8, .int .i64 y9, .int .i64 y10], 50), (w.heap.size, #[.int .i64 x0, .string x1, .string x2, .string x3, .string x4, .bool x5, .bool x6, .int .i64 x7, .int .i64 x8, .int .i64 x9, .int .i64 x10], 50)] [(.slice (some ⟨g21, 0, none⟩) BP.length cap21, BP)] [(.slice A9 L.length c9, L)] w21 from (HK.out.later hb).consR (ho.row (Nat.zero_le _)))
        clear hb ho hg
        go_upto_region 9 with (fail)
        obtain ⟨c0_0, c0_1, c0_2, c0_3, c0_4⟩ := cells5p (HK.out.st 0 rfl)
        go_wp2_with fail
        clear c0_0 c0_1 c0_2 c0_3 c0_4
        refine (as_par _ _ _ _ _ _ _ _).mono ?_
        rintro e w22 ⟨rfl, hb⟩
        replace HK := Lib.hid (HK.out.later hb)
        clear hb
        go_wp2_with fail
        refine (HBy.out _ _ _ (made_at (HK.out.sl 0 rfl)).1 hll).mono ?_
        rintro e w23 ⟨⟨g23, cap23, rfl, hg, ho⟩, hb⟩
        replace HK := Lib.hid (show KeepP w [(b3, #[.bool false, .string ⟨#[97]⟩, .string ⟨#[98]⟩, .int .i64 1, .slice A9 L.length c9], 33), (b2, #[.int .i64 y0, .string y1, .string y2, .string y3, .string y4, .bool y5, .bool y6, .int .i64 y7, .int .i64 y8, .int .i64 y9, .int .i64 y10], 50), (w.heap.size, #[.int .i64 x0, .string x1, .string x2, .string x3, .string x4, .bool x5, .bool x6, .int .i64 x7, .int .i64 x8, .int .i64 x9, .int .i64 x10], 50)] [(.slice (some ⟨g23, 0, none⟩) BP.length cap23, BP), (.slice (some ⟨g21, 0, none⟩) BP.length cap21, BP)] [(.slice A9 L.length c9, L)] w23 from (HK.out.later hb).consR (ho.row (Nat.zero_le _)))
        clear hb ho hg
        go_wp2_with fail
        refine (readPar_yes (HK.out.row 0 rfl).argQ hbl hrd).mono ?_
        rintro e w24 ⟨S, rfl, hm, hb⟩
        obtain ⟨A24, cp24, rfl⟩ := hm.shape
        replace HK := Lib.hid (show KeepP w [(b3, #[.bool false, .string ⟨#[97]⟩, .string ⟨#[98]⟩, .int .i64 1, .slice A9 L.length c9], 33), (b2, #[.int .i64 y0, .string y1, .string y2, .string y3, .string y4, .bool y5, .bool y6, .int .i64 y7, .int .i64 y8, .int .i64 y9, .int .i64 y10], 50), (w.heap.size, #[.int .i64 x0, .string x1, .string x2, .string x3, .string x4, .bool x5, .bool x6, .int .i64 x7, .int .i64 x8, .int .i64 x9, .int .i64 x10], 50)] [(.slice (some ⟨g23, 0, none⟩) BP.length cap23, BP), (.slice (some ⟨g21, 0, none⟩) BP.length cap21, BP)] [(.slice A24 L.length cp24, (L : List Edu)), (.slice A9 L.length c9, L)] w24 from (HK.out.later hb).consS (hm.mono (HK.out.below).size))
        clear hb hm
        try simp only [parV]
        go_upto_region 10 with (fail)
        replace HK := Lib.hid (HK.out.new #[.bool false, .string ⟨#[97]⟩, .string ⟨#[98]⟩, .int .i64 1, .slice A24 L.length cp24] 33)
        generalize hW : (w24.alloc (.cells #[.bool false, .string ⟨#[97]⟩, .string ⟨#[98]⟩, .int .i64 1, .slice A24 L.length cp24] 33)) = w25 at HK ⊢
        generalize hg : w24.heap.size = b25 at HK  ⊢
        clear hW hg
        obtain ⟨c0_0, c0_1, c0_2, c0_3, c0_4⟩ := cells5p (HK.out.st 0 rfl)
        obtain ⟨c1_0, c1_1, c1_2, c1_3, c1_4⟩ := cells5p (HK.out.st 1 rfl)
        go_wp2_with fail
        clear c0_0 c0_1 c0_2 c0_3 c0_4 c1_0 c1_1 c1_2 c1_3 c1_4
        refine (HMa.out _ _ _ (made_at (HK.out.sl 1 rfl)).1 hlm).mono ?_
        rintro e w26 ⟨rfl, hb⟩
        replace HK := Lib.hid (HK.out.later hb)
        clear hb
        rw [hmb]
        obtain ⟨c0_0, c0_1, c0_2, c0_3, c0_4⟩ := cells5p (HK.out.st 0 rfl)
        obtain ⟨c1_0, c1_1, c1_2, c1_3, c1_4⟩ := cells5p (HK.out.st 1 rfl)
        go_wp2_with fail
        clear c0_0 c0_1 c0_2 c0_3 c0_4 c1_0 c1_1 c1_2 c1_3 c1_4
        refine (HSm.out _ _ _ _ _ (made_at (HK.out.sl 1 rfl)).1 (made_at (HK.out.sl 0 rfl)).1 hlm hlm).mono ?_
        rintro e w27 ⟨rfl, hb⟩
        replace HK := Lib.hid (HK.out.later hb)
        clear hb
        go_wp2_with fail
        refine (lives4_any _).mono ?_
        rintro e w28 ⟨rfl, hb⟩
        replace HK := Lib.hid (HK.out.later hb)
        clear hb
        go_wp2_with fail
        go_ret
        exact ⟨rfl, HK.out.below⟩
      · have q3 : decide ((100 : Int) < (j : Int)) = true := by simp; omega
        have hmb := HNot.out hmany
        have hrd := HNone.out hmany (by omega)
        have hbl := HLen.out (by omega)
        obtain ⟨c0_0, c0_1, c0_2, c0_3, c0_4⟩ := cells5p (HK.out.st 0 rfl)
        go_wp2_with fail
        clear c0_0 c0_1 c0_2 c0_3 c0_4
        refine (HWn.out _ _ _ (made_at (HK.out.sl 0 rfl)).1 hlm hmb).mono ?_
        rintro e w21 ⟨rfl, hb⟩
        replace HK := Lib.hid (HK.out.later hb)
        clear hb
        go_upto_region 9 with (fail)
        obtain ⟨c0_0, c0_1, c0_2, c0_3, c0_4⟩ := cells5p (HK.out.st 0 rfl)
        go_wp2_with fail
        clear c0_0 c0_1 c0_2 c0_3 c0_4
        refine (as_par _ _ _ _ _ _ _ _).mono ?_
        rintro e w22 ⟨rfl, hb⟩
        replace HK := Lib.hid (HK.out.later hb)
        clear hb
        go_wp2_with fail
        refine (HBy.out _ _ _ (made_at (HK.out.sl 0 rfl)).1 hll).mono ?_
        rintro e w23 ⟨⟨g23, cap23, rfl, hg, ho⟩, hb⟩
        replace HK := Lib.hid (show KeepP w [(b3, #[.bool false, .string ⟨#[97]⟩, .string ⟨#[98]⟩, .int .i64 1, .slice A9 L.length c9], 33), (b2, #[.int .i64 y0, .string y1, .string y2, .string y3, .string y4, .bool y5, .bool y6, .int .i64 y7, .int .i64 y8, .int .i64 y9, .int .i64 y10], 50), (w.heap.size, #[.int .i64 x0, .string x1, .string x2, .string x3, .string x4, .bool x5, .bool x6, .int .i64 x7, .int .i64 x8, .int .i64 x9, .int .i64 x10], 50)] [(.slice (some ⟨g23, 0, none⟩) BP.length cap23, BP)] [(.slice A9 L.length c9, L)] w23 from (HK.out.later hb).consR (ho.row (Nat.zero_le _)))
        clear hb ho hg
        go_wp2_with fail
        refine (readPar_none (HK.out.row 0 rfl).argQ hbl hrd).mono ?_
        rintro e w24 ⟨rfl, hb⟩
        replace HK := Lib.hid (HK.out.later hb)
        clear hb
        simp only [zeroPV]
        go_upto_region 10 with (fail)
        replace HK := Lib.hid (HK.out.new #[.bool false, .string ⟨#[]⟩, .string ⟨#[]⟩, .int .i64 0, .slice none 0 0] 33)
        generalize hW : (w24.alloc (.cells #[.bool false, .string ⟨#[]⟩, .string ⟨#[]⟩, .int .i64 0, .slice none 0 0] 33)) = w25 at HK ⊢
        generalize hg : w24.heap.size = b25 at HK  ⊢
        clear hW hg
        obtain ⟨c0_0, c0_1, c0_2, c0_3, c0_4⟩ := cells5p (HK.out.st 0 rfl)
        obtain ⟨c1_0, c1_1, c1_2, c1_3, c1_4⟩ := cells5p (HK.out.st 1 rfl)
        go_wp2_with fail
        clear c0_0 c0_1 c0_2 c0_3 c0_4 c1_0 c1_1 c1_2 c1_3 c1_4
        refine (HMa.out _ _ _ (made_at (HK.out.sl 0 rfl)).1 hlm).mono ?_
        rintro e w26 ⟨rfl, hb⟩
        replace HK := Lib.hid (HK.out.later hb)
        clear hb
        rw [hmb]
        obtain ⟨c0_0, c0_1, c0_2, c0_3, c0_4⟩ := cells5p (HK.out.st 0 rfl)
        obtain ⟨c1_0, c1_1, c1_2, c1_3, c1_4⟩ := cells5p (HK.out.st 1 rfl)
        go_wp2_with fail
        clear c0_0 c0_1 c0_2 c0_3 c0_4 c1_0 c1_1 c1_2 c1_3 c1_4
        refine (lives4_any _).mono ?_
        rintro e w27 ⟨rfl, hb⟩
        replace HK := Lib.hid (HK.out.later hb)
        clear hb
        go_wp2_with fail
        go_ret
        exact ⟨rfl, HK.out.below⟩
end Go.Proofs.Ytnabbebkmafakaa
