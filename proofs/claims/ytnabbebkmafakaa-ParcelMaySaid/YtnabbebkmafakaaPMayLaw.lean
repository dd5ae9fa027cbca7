/-
  Which parcels may be, and the bytes of those, is told as the document says: the statement ParcelMay, walked.
-/
import Derived.Test.YtnabbebkmafakaaPAll
import Derived.Test.YtnabbebkmafakaaPRound
import Derived.Deep.CutBlock
namespace Go.Proofs.Ytnabbebkmafakaa
set_option maxRecDepth 20000
open Go.RowKit
set_option linter.unusedVariables false
set_option linter.unusedSimpArgs false

theorem fewParE_any (p : Par) (A : Option Addr) (cap : Nat) (w : World) (hE : EdusAt w A p.edus.length p.edus) (hl : p.edus.length ≤ maxLen) (hf : p.frm.size ≤ maxLen) (hd : p.dest.size ≤ maxLen) (w' : World) (hb : Below w.heap.size w w') :
    Calls Try.prog 8 #[.agg #[.bool p.ack, .string p.frm, .string p.dest, .int .i64 p.id, .slice A p.edus.length cap]] w' fun e w'' => ∃ S, e = .returned (parV (fewP p) S) ∧ MadeE w'' w'.heap.size S (fewP p).edus ∧ Below w'.heap.size w' w'' := fewPar_any p A cap w' (hE.below hb) hl hf hd
theorem bytes_may {q : Par} (h : mayP q = true) (w : World) (A : Option Addr) (c : Nat) (hE : EdusAt w A q.edus.length q.edus) : Calls Try.prog 15 #[.agg #[.bool q.ack, .string q.frm, .string q.dest, .int .i64 q.id, .slice A q.edus.length c]] w (PutPost w (bytesP q)) := by
  obtain ⟨pf, pd, _, pi', pn, _, pall⟩ := mayP_parts h
  replace pf := server_size pf
  replace pd := server_size pd
  exact refBytesPar_any q A c w hE pall (by omega) (by omega) (by omega) (by omega)
theorem AllP.weak {w w' : World} {b n : Nat} {F : Nat → Par} {Av : Nat → Option Addr} {Cv : Nat → Nat} {X : Prop} (h : AllP w b n F Av Cv w' ∧ X) : AllP w b n F Av Cv w' := h.1

set_option maxHeartbeats 12800000 in
theorem parcelMay_walk (p : Par) (A : Option Addr) (cap : Nat) (n : Int) (w : World) (hE : EdusAt w A p.edus.length p.edus) (hl : p.edus.length ≤ maxLen) (hf : p.frm.size ≤ maxLen) (hd : p.dest.size ≤ maxLen) (hi : -9223372036854775808 ≤ p.id ∧ p.id ≤ 9223372036854775807) (n0 : -9223372036854775808 ≤ n) (n1 : n ≤ 9223372036854775807) :
    Calls Try.prog 3 #[.agg #[.bool p.ack, .string p.frm, .string p.dest, .int .i64 p.id, .slice A p.edus.length cap], .int .i64 n] w fun e w' => e = .returned (.bool true) ∧ Below w.heap.size w w' := by
  have HF := Lib.hid (fun w' hb => fewParE_any p A cap w hE hl hf hd w' hb)
  have HG := Lib.hid (fun w' hb => goodParE_any p A cap w hE hl hf hd hi w' hb)
  have HA := Lib.hid (fun w => around_any n 5 w n0 n1 (by omega) (by omega))
  obtain ⟨k, hk, hbd⟩ : ∃ k : Nat, aroundI n 5 = (k : Int) ∧ k < 5 := by
    have := aroundI_bd n 5 (by decide)
    exact ⟨(aroundI n 5).toNat, by omega, by omega⟩
  rw [hk] at HA
  clear hk n0 n1
  have mq := good_mayP p
  have sr1 : (fewP p).frm.size ≤ 1000 := Nat.le_trans (fewS_size _ _) (by decide)
  have sr2 : (fewP p).dest.size ≤ 1000 := Nat.le_trans (fewS_size _ _) (by decide)
  obtain ⟨sg1, sg2, _⟩ := mayP_parts mq
  replace sg1 : (goodP p).frm.size ≤ 1000 := Nat.le_trans (server_size sg1) (by decide)
  replace sg2 : (goodP p).dest.size ≤ 1000 := Nat.le_trans (server_size sg2) (by decide)
  generalize fewP p = r at *
  generalize goodP p = g at *
  clear hE hl hf hd hi mq
  obtain ⟨ra, rf, rd, ri, re⟩ := r
  obtain ⟨ga, gf, gd, gi, ge⟩ := g
  obtain ⟨pa, pf, pd, pi', pe⟩ := p
  simp only [parV] at *
  go_enter Try.func3, Try.ntmps3
  go_upto_region 1 with (fail)
  have HK : KeepP w _ _ _ (w.alloc (.cells #[.bool pa, .string pf, .string pd, .int .i64 pi', .slice A pe.length cap] 24)) := ((KeepP.refl w).new #[.bool pa, .string pf, .string pd, .int .i64 pi', .slice A pe.length cap] 24)
  try simp only [size_alloc1] at HK
  replace HK := Lib.hid (show KeepP w [(w.heap.size, #[.bool pa, .string pf, .string pd, .int .i64 pi', .slice A pe.length cap], 24)] [] [] (w.alloc (.cells #[.bool pa, .string pf, .string pd, .int .i64 pi', .slice A pe.length cap] 24)) from HK)
  generalize hW : (w.alloc (.cells #[.bool pa, .string pf, .string pd, .int .i64 pi', .slice A pe.length cap] 24)) = W0 at HK ⊢
  clear hW
  obtain ⟨c0_0, c0_1, c0_2, c0_3, c0_4⟩ := cells5p (HK.out.st 0 rfl)
  go_wp2_with fail
  clear c0_0 c0_1 c0_2 c0_3 c0_4
  refine (HF.out _ HK.out.below).mono ?_
  rintro e w1 ⟨S, rfl, hm, hb⟩
  obtain ⟨A1, cp1, rfl⟩ := hm.shape
  replace HK := Lib.hid (show KeepP w [(w.heap.size, #[.bool pa, .string pf, .string pd, .int .i64 pi', .slice A pe.length cap], 24)] [] [(.slice A1 re.length cp1, (re : List Edu))] w1 from (HK.out.later hb).consS (hm.mono (HK.out.below).size))
  clear hb hm
  try simp only [parV]
  go_upto_region 2 with (fail)
  have lt2_0 : w.heap.size < w1.heap.size := heap_lt (HK.out.st 0 rfl)
  replace HK := Lib.hid (HK.out.new #[.bool ra, .string rf, .string rd, .int .i64 ri, .slice A1 re.length cp1] 24)
  generalize hW : (w1.alloc (.cells #[.bool ra, .string rf, .string rd, .int .i64 ri, .slice A1 re.length cp1] 24)) = w2 at HK ⊢
  generalize hg : w1.heap.size = b2 at HK lt2_0 ⊢
  clear hW hg
  obtain ⟨c1_0, c1_1, c1_2, c1_3, c1_4⟩ := cells5p (HK.out.st 1 rfl)
  go_wp2_with fail
  clear c1_0 c1_1 c1_2 c1_3 c1_4
  refine (HG.out _ HK.out.below).mono ?_
  rintro e w3 ⟨S, rfl, hm, hb⟩
  obtain ⟨A3, cp3, rfl⟩ := hm.shape
  replace HK := Lib.hid (show KeepP w [(b2, #[.bool ra, .string rf, .string rd, .int .i64 ri, .slice A1 re.length cp1], 24), (w.heap.size, #[.bool pa, .string pf, .string pd, .int .i64 pi', .slice A pe.length cap], 24)] [] [(.slice A3 ge.length cp3, (ge : List Edu)), (.slice A1 re.length cp1, (re : List Edu))] w3 from (HK.out.later hb).consS (hm.mono (HK.out.below).size))
  clear hb hm
  try simp only [parV]
  go_upto_region 3 with (fail)
  have lt4_0 : b2 < w3.heap.size := heap_lt (HK.out.st 0 rfl)
  have lt4_1 : w.heap.size < w3.heap.size := heap_lt (HK.out.st 1 rfl)
  replace HK := Lib.hid (HK.out.new #[.bool ga, .string gf, .string gd, .int .i64 gi, .slice A3 ge.length cp3] 24)
  generalize hW : (w3.alloc (.cells #[.bool ga, .string gf, .string gd, .int .i64 gi, .slice A3 ge.length cp3] 24)) = w4 at HK ⊢
  generalize hg : w3.heap.size = b4 at HK lt4_0 lt4_1 ⊢
  clear hW hg
  obtain ⟨c0_0, c0_1, c0_2, c0_3, c0_4⟩ := cells5p (HK.out.st 0 rfl)
  go_upto_region 4 with (fail)
  clear c0_0 c0_1 c0_2 c0_3 c0_4
  have lt5_0 : b4 < w4.heap.size := heap_lt (HK.out.st 0 rfl)
  have lt5_1 : b2 < w4.heap.size := heap_lt (HK.out.st 1 rfl)
  have lt5_2 : w.heap.size < w4.heap.size := heap_lt (HK.out.st 2 rfl)
  replace HK := Lib.hid (HK.out.new #[.bool ga, .string gf, .string gd, .int .i64 gi, .slice A3 ge.length cp3] 24)
  generalize hW : (w4.alloc (.cells #[.bool ga, .string gf, .string gd, .int .i64 gi, .slice A3 ge.length cp3] 24)) = w5 at HK ⊢
  generalize hg : w4.heap.size = b5 at HK lt5_0 lt5_1 lt5_2 ⊢
  clear hW hg
  go_wp2_with fail
  refine (HA.out _).mono ?_
  rintro e wz ⟨rfl, rfl⟩
  go_upto_block 0 with (fail)
  go_cut [23] from 20 to 43 (fun s23 wx => ∃ (q : Par) (AQ : Option Addr) (cQ : Nat), q.frm.size ≤ 1000 ∧ q.dest.size ≤ 1000 ∧ Hid (MadeE wx w.heap.size (.slice AQ q.edus.length cQ) q.edus) ∧ Hid (KeepP w ((b5, #[.bool q.ack, .string q.frm, .string q.dest, .int .i64 q.id, .slice AQ q.edus.length cQ], 24) :: [(b4, #[.bool ga, .string gf, .string gd, .int .i64 gi, .slice A3 ge.length cp3], 24), (b2, #[.bool ra, .string rf, .string rd, .int .i64 ri, .slice A1 re.length cp1], 24), (w.heap.size, #[.bool pa, .string pf, .string pd, .int .i64 pi', .slice A pe.length cap], 24)]) [] [(.slice A3 ge.length cp3, (ge : List Edu)), (.slice A1 re.length cp1, (re : List Edu))] wx))
  case first =>
    rcases (show k = 0 ∨ k = 1 ∨ k = 2 ∨ k = 3 ∨ k = 4 by omega) with rfl | rfl | rfl | rfl | rfl
    · obtain ⟨c0_0, c0_1, c0_2, c0_3, c0_4⟩ := cells5p (HK.out.st 0 rfl)
      obtain ⟨c1_0, c1_1, c1_2, c1_3, c1_4⟩ := cells5p (HK.out.st 1 rfl)
      obtain ⟨c2_0, c2_1, c2_2, c2_3, c2_4⟩ := cells5p (HK.out.st 2 rfl)
      have fr := free_at (HK.out.st 0 rfl) 0
      go_wp2_with fail
      clear c0_0 c0_1 c0_2 c0_3 c0_4 c1_0 c1_1 c1_2 c1_3 c1_4 c2_0 c2_1 c2_2 c2_3 c2_4
      go_meet
      have HK2 := Lib.hid (KeepP.store (pre := []) (post := [(b4, #[.bool ga, .string gf, .string gd, .int .i64 gi, .slice A3 ge.length cp3], 24), (b2, #[.bool ra, .string rf, .string rd, .int .i64 ri, .slice A1 re.length cp1], 24), (w.heap.size, #[.bool pa, .string pf, .string pd, .int .i64 pi', .slice A pe.length cap], 24)]) (i := 0) (u := .bool (!ga)) HK.out (by simp; omega) (by omega) (by decide) (by decide))
      exact ⟨⟨!ga, gf, gd, gi, ge⟩, A3, cp3, sg1, sg2, Lib.hid (HK2.out.sl 0 rfl), HK2⟩
    · obtain ⟨c0_0, c0_1, c0_2, c0_3, c0_4⟩ := cells5p (HK.out.st 0 rfl)
      obtain ⟨c1_0, c1_1, c1_2, c1_3, c1_4⟩ := cells5p (HK.out.st 1 rfl)
      obtain ⟨c2_0, c2_1, c2_2, c2_3, c2_4⟩ := cells5p (HK.out.st 2 rfl)
      have fr := free_at (HK.out.st 0 rfl) 1
      go_wp2_with fail
      clear c0_0 c0_1 c0_2 c0_3 c0_4 c1_0 c1_1 c1_2 c1_3 c1_4 c2_0 c2_1 c2_2 c2_3 c2_4
      go_meet
      have HK2 := Lib.hid (KeepP.store (pre := []) (post := [(b4, #[.bool ga, .string gf, .string gd, .int .i64 gi, .slice A3 ge.length cp3], 24), (b2, #[.bool ra, .string rf, .string rd, .int .i64 ri, .slice A1 re.length cp1], 24), (w.heap.size, #[.bool pa, .string pf, .string pd, .int .i64 pi', .slice A pe.length cap], 24)]) (i := 1) (u := .string rf) HK.out (by simp; omega) (by omega) (by decide) (by decide))
      exact ⟨⟨ga, rf, gd, gi, ge⟩, A3, cp3, sr1, sg2, Lib.hid (HK2.out.sl 0 rfl), HK2⟩
    · obtain ⟨c0_0, c0_1, c0_2, c0_3, c0_4⟩ := cells5p (HK.out.st 0 rfl)
      obtain ⟨c1_0, c1_1, c1_2, c1_3, c1_4⟩ := cells5p (HK.out.st 1 rfl)
      obtain ⟨c2_0, c2_1, c2_2, c2_3, c2_4⟩ := cells5p (HK.out.st 2 rfl)
      have fr := free_at (HK.out.st 0 rfl) 2
      go_wp2_with fail
      clear c0_0 c0_1 c0_2 c0_3 c0_4 c1_0 c1_1 c1_2 c1_3 c1_4 c2_0 c2_1 c2_2 c2_3 c2_4
      go_meet
      have HK2 := Lib.hid (KeepP.store (pre := []) (post := [(b4, #[.bool ga, .string gf, .string gd, .int .i64 gi, .slice A3 ge.length cp3], 24), (b2, #[.bool ra, .string rf, .string rd, .int .i64 ri, .slice A1 re.length cp1], 24), (w.heap.size, #[.bool pa, .string pf, .string pd, .int .i64 pi', .slice A pe.length cap], 24)]) (i := 2) (u := .string gf) HK.out (by simp; omega) (by omega) (by decide) (by decide))
      exact ⟨⟨ga, gf, gf, gi, ge⟩, A3, cp3, sg1, sg1, Lib.hid (HK2.out.sl 0 rfl), HK2⟩
    · obtain ⟨c0_0, c0_1, c0_2, c0_3, c0_4⟩ := cells5p (HK.out.st 0 rfl)
      obtain ⟨c1_0, c1_1, c1_2, c1_3, c1_4⟩ := cells5p (HK.out.st 1 rfl)
      obtain ⟨c2_0, c2_1, c2_2, c2_3, c2_4⟩ := cells5p (HK.out.st 2 rfl)
      have fr := free_at (HK.out.st 0 rfl) 3
      go_wp2_with fail
      clear c0_0 c0_1 c0_2 c0_3 c0_4 c1_0 c1_1 c1_2 c1_3 c1_4 c2_0 c2_1 c2_2 c2_3 c2_4
      go_meet
      have HK2 := Lib.hid (KeepP.store (pre := []) (post := [(b4, #[.bool ga, .string gf, .string gd, .int .i64 gi, .slice A3 ge.length cp3], 24), (b2, #[.bool ra, .string rf, .string rd, .int .i64 ri, .slice A1 re.length cp1], 24), (w.heap.size, #[.bool pa, .string pf, .string pd, .int .i64 pi', .slice A pe.length cap], 24)]) (i := 3) (u := .int .i64 ri) HK.out (by simp; omega) (by omega) (by decide) (by decide))
      exact ⟨⟨ga, gf, gd, ri, ge⟩, A3, cp3, sg1, sg2, Lib.hid (HK2.out.sl 0 rfl), HK2⟩
    · obtain ⟨c0_0, c0_1, c0_2, c0_3, c0_4⟩ := cells5p (HK.out.st 0 rfl)
      obtain ⟨c1_0, c1_1, c1_2, c1_3, c1_4⟩ := cells5p (HK.out.st 1 rfl)
      obtain ⟨c2_0, c2_1, c2_2, c2_3, c2_4⟩ := cells5p (HK.out.st 2 rfl)
      have fr := free_at (HK.out.st 0 rfl) 4
      go_wp2_with fail
      clear c0_0 c0_1 c0_2 c0_3 c0_4 c1_0 c1_1 c1_2 c1_3 c1_4 c2_0 c2_1 c2_2 c2_3 c2_4
      go_meet
      have HK2 := Lib.hid (KeepP.store (pre := []) (post := [(b4, #[.bool ga, .string gf, .string gd, .int .i64 gi, .slice A3 ge.length cp3], 24), (b2, #[.bool ra, .string rf, .string rd, .int .i64 ri, .slice A1 re.length cp1], 24), (w.heap.size, #[.bool pa, .string pf, .string pd, .int .i64 pi', .slice A pe.length cap], 24)]) (i := 4) (u := .slice A1 re.length cp1) HK.out (by simp; omega) (by omega) (by decide) (by decide))
      exact ⟨⟨ga, gf, gd, gi, re⟩, A1, cp1, sg1, sg2, Lib.hid (HK2.out.sl 1 rfl), HK2⟩
  case rest =>
    obtain ⟨q, AQ, cQ, sq1, sq2, HMq, HK⟩ := hcut
    replace HK := Lib.hid (show KeepP w [(b5, #[.bool q.ack, .string q.frm, .string q.dest, .int .i64 q.id, .slice AQ q.edus.length cQ], 24), (b4, #[.bool ga, .string gf, .string gd, .int .i64 gi, .slice A3 ge.length cp3], 24), (b2, #[.bool ra, .string rf, .string rd, .int .i64 ri, .slice A1 re.length cp1], 24), (w.heap.size, #[.bool pa, .string pf, .string pd, .int .i64 pi', .slice A pe.length cap], 24)] [] [(.slice AQ q.edus.length cQ, q.edus), (.slice A3 ge.length cp3, (ge : List Edu)), (.slice A1 re.length cp1, (re : List Edu))] wc from HK.out.consS HMq.out)
    obtain ⟨c0_0, c0_1, c0_2, c0_3, c0_4⟩ := cells5p (HK.out.st 0 rfl)
    obtain ⟨c1_0, c1_1, c1_2, c1_3, c1_4⟩ := cells5p (HK.out.st 1 rfl)
    obtain ⟨c2_0, c2_1, c2_2, c2_3, c2_4⟩ := cells5p (HK.out.st 2 rfl)
    go_upto_region 15 with (fail)
    clear c0_0 c0_1 c0_2 c0_3 c0_4 c1_0 c1_1 c1_2 c1_3 c1_4 c2_0 c2_1 c2_2 c2_3 c2_4
    replace HK := Lib.hid (HK.out.new #[.bool ra, .string rf, .string rd, .int .i64 ri, .slice A1 re.length cp1, .bool ga, .string gf, .string gd, .int .i64 gi, .slice A3 ge.length cp3, .bool q.ack, .string q.frm, .string q.dest, .int .i64 q.id, .slice AQ q.edus.length cQ] 24)
    generalize hW : (wc.alloc (.cells #[.bool ra, .string rf, .string rd, .int .i64 ri, .slice A1 re.length cp1, .bool ga, .string gf, .string gd, .int .i64 gi, .slice A3 ge.length cp3, .bool q.ack, .string q.frm, .string q.dest, .int .i64 q.id, .slice AQ q.edus.length cQ] 24)) = w1 at HK ⊢
    generalize hg : wc.heap.size = b1 at HK  ⊢
    clear hW hg
    have HAll := Lib.hid (all3 ⟨ra, rf, rd, ri, re⟩ ⟨ga, gf, gd, gi, ge⟩ q A1 A3 AQ cp1 cp3 cQ HK.out.below (HK.out.st 0 rfl) (HK.out.sl 2 rfl) (HK.out.sl 1 rfl) (HK.out.sl 0 rfl))
    have HSz : Hid (∀ j, j < 3 → (sel4 (⟨ra, rf, rd, ri, re⟩ : Par) ⟨ga, gf, gd, gi, ge⟩ q q j).frm.size ≤ 1000 ∧ (sel4 (⟨ra, rf, rd, ri, re⟩ : Par) ⟨ga, gf, gd, gi, ge⟩ q q j).dest.size ≤ 1000) := Lib.hid (fun j hj => by
      rcases (show j = 0 ∨ j = 1 ∨ j = 2 by omega) with rfl | rfl | rfl
      · exact ⟨sr1, sr2⟩
      · exact ⟨sg1, sg2⟩
      · exact ⟨sq1, sq2⟩)
    clear HK HMq HF HG HA sr1 sr2 sg1 sg2 sq1 sq2
    generalize sel4 (⟨ra, rf, rd, ri, re⟩ : Par) ⟨ga, gf, gd, gi, ge⟩ q q = F at HAll HSz
    generalize sel4 A1 A3 AQ AQ = Av at HAll
    generalize sel4 cp1 cp3 cQ cQ = Cv at HAll
    go_wp2_with fail
    go_loopw [9] (fun i wr => ∃ j : Nat, j ≤ 3 ∧ i = .int .i64 (j : Int) ∧ Hid (AllP w b1 3 F Av Cv wr)) (fun i _ => 3 - (intOf i).toNat)
    case atStart => exact ⟨0, by omega, rfl, HAll⟩
    case round =>
      obtain ⟨j, hj, rfl, HR⟩ := hrel
      clear HAll
      by_cases hj3 : j < 3
      rotate_left
      · have q1 : decide ((j : Int) < 3) = false := by simp; omega
        go_wp2_with fail
        refine (lives4_any _).mono ?_
        rintro e w9 ⟨rfl, hb⟩
        go_wp2_with fail
        go_ret
        exact ⟨rfl, (HR.out.later hb).below⟩
      have q1 : decide ((j : Int) < 3) = true := by simp; omega
      have hix := fun w => index_par (b := b1) (len := 3) (cap := 3) hj3 w
      have HAt := Lib.hid (fun wx (h : AllP w b1 3 F Av Cv wx) => h.at hj3)
      obtain ⟨z1, z2⟩ := HSz.out j hj3
      have HRM := Lib.hid (fun wx (h : AllP w b1 3 F Av Cv wx) => refMayPar_any (F j) (Av j) (Cv j) wx (h.edus hj3).1 (h.edus hj3).2 (by rw [maxLen_eq]; omega) (by rw [maxLen_eq]; omega))
      have HCM := Lib.hid (fun wx (h : AllP w b1 3 F Av Cv wx) => mayPar_any (F j) (Av j) (Cv j) wx (h.edus hj3).1 (h.edus hj3).2 (by rw [maxLen_eq]; omega) (by rw [maxLen_eq]; omega))
      have HWy := Lib.hid (fun wx (h : AllP w b1 3 F Av Cv wx) hm => writePar_yes (F j) (Av j) (Cv j) wx (h.edus hj3).1 hm)
      have HWn := Lib.hid (fun wx (h : AllP w b1 3 F Av Cv wx) hm => writePar_no (F j) (Av j) (Cv j) wx (h.edus hj3).1 (h.edus hj3).2 (by rw [maxLen_eq]; omega) (by rw [maxLen_eq]; omega) hm)
      have HBy := Lib.hid (fun wx (h : AllP w b1 3 F Av Cv wx) hm => bytes_may (q := F j) hm wx (Av j) (Cv j) (h.edus hj3).1)
      clear z1 z2
      generalize mayP (F j) = M at *
      generalize bytesP (F j) = BY at *
      generalize F j = fj at HAt HRM HCM HWy HWn HBy
      generalize Av j = aj at HAt HRM HCM HWy HWn HBy
      generalize Cv j = cj at HAt HRM HCM HWy HWn HBy
      obtain ⟨fa, ff, fd, fi, fe⟩ := fj
      simp only at HAt HRM HCM HWy HWn HBy
      obtain ⟨c0, c1, c2, c3, c4⟩ := HAt.out _ HR.out
      go_wp2_with fail
      clear c0 c1 c2 c3 c4
      refine (HRM.out _ HR.out).mono ?_
      rintro e w61 ⟨rfl, hb⟩
      replace HR := Lib.hid (HR.out.later hb)
      clear hb
      cases M
      · obtain ⟨c0, c1, c2, c3, c4⟩ := HAt.out _ HR.out
        go_wp2_with fail
        clear c0 c1 c2 c3 c4
        refine (of_par _ _ _ _ _ _ _ _).mono ?_
        rintro e w61 ⟨rfl, hb⟩
        replace HR := Lib.hid (HR.out.later hb)
        clear hb
        go_wp2_with fail
        refine (HWn.out _ HR.out (by first | trivial | rfl)).mono ?_
        rintro e wy ⟨rfl, hb⟩
        replace HR := Lib.hid (HR.out.later hb)
        clear hb
        go_upto_region 20 with (fail)
        obtain ⟨c0, c1, c2, c3, c4⟩ := HAt.out _ HR.out
        go_wp2_with fail
        clear c0 c1 c2 c3 c4
        refine (of_par _ _ _ _ _ _ _ _).mono ?_
        rintro e w62 ⟨rfl, hb⟩
        replace HR := Lib.hid (HR.out.later hb)
        clear hb
        go_wp2_with fail
        refine (HCM.out _ HR.out).mono ?_
        rintro e w63 ⟨rfl, hb⟩
        replace HR := Lib.hid (HR.out.later hb)
        clear hb
        go_upto_region 22 with (fail)
        refine wp_region_held_drew (S := fun w' => AllP w b1 3 F Av Cv w' ∧ True) (by kernel_rfl) ⟨HR.out.drew, trivial⟩ (fun hHeld => ?_)
        generalize hwd : w63.drew = wd at hHeld ⊢
        clear HR hwd
        refine wpAnyH_take (i := 0) (oi := ⟨some 80, _, _, _, _, _⟩) (v := ?vf0) rfl (by kernel_rfl) (by kernel_rfl) (by kernel_rfl) (fun _ _ _ h => h) (Or.inl ⟨by rfl, ?yf0⟩) hHeld ?rf0
        case yf0 =>
          intro wx hSx
          go_simp
          try with_reducible rfl
        try simp only [Act.put, List.setIfInBounds_toArray, List.set_cons_zero, List.set_cons_succ]
        refine wpAnyH_take (i := 1) (oi := ⟨some 81, _, _, _, _, _⟩) (v := ?vf1) rfl (by kernel_rfl) (by kernel_rfl) (by kernel_rfl) (fun _ _ _ h => h) (Or.inl ⟨by rfl, ?yf1⟩) hHeld ?rf1
        case yf1 =>
          intro wx hSx
          go_simp
          try with_reducible rfl
        try simp only [Act.put, List.setIfInBounds_toArray, List.set_cons_zero, List.set_cons_succ]
        refine wpAnyH_take (i := 2) (oi := ⟨some 82, _, _, _, _, _⟩) (v := undef) rfl (by kernel_rfl) (by kernel_rfl) (by kernel_rfl) (fun _ _ _ h => h) (Or.inr ⟨by rfl, rfl⟩) hHeld ?rf2
        try simp only [Act.put, List.setIfInBounds_toArray, List.set_cons_zero, List.set_cons_succ]
        refine wpAnyH_take (i := 3) (oi := ⟨some 83, _, _, _, _, _⟩) (v := undef) rfl (by kernel_rfl) (by kernel_rfl) (by kernel_rfl) (fun _ _ _ h => h) (Or.inr ⟨by rfl, rfl⟩) hHeld ?rf3
        try simp only [Act.put, List.setIfInBounds_toArray, List.set_cons_zero, List.set_cons_succ]
        refine wpAnyH_take (i := 4) (oi := ⟨some 84, _, _, _, _, _⟩) (v := undef) rfl (by kernel_rfl) (by kernel_rfl) (by kernel_rfl) (fun _ _ _ h => h) (Or.inr ⟨by rfl, rfl⟩) hHeld ?rf4
        try simp only [Act.put, List.setIfInBounds_toArray, List.set_cons_zero, List.set_cons_succ]
        refine wpAnyH_take (i := 5) (oi := ⟨some 85, _, _, _, _, _⟩) (v := undef) rfl (by kernel_rfl) (by kernel_rfl) (by kernel_rfl) (fun _ _ _ h => h) (Or.inr ⟨by rfl, rfl⟩) hHeld ?rf5
        try simp only [Act.put, List.setIfInBounds_toArray, List.set_cons_zero, List.set_cons_succ]
        refine wpAnyH_take (i := 6) (oi := ⟨some 86, _, _, _, _, _⟩) (v := undef) rfl (by kernel_rfl) (by kernel_rfl) (by kernel_rfl) (fun _ _ _ h => h) (Or.inr ⟨by rfl, rfl⟩) hHeld ?rf6
        try simp only [Act.put, List.setIfInBounds_toArray, List.set_cons_zero, List.set_cons_succ]
        refine wpAnyH_take (i := 7) (oi := ⟨some 87, _, _, _, _, _⟩) (v := undef) rfl (by kernel_rfl) (by kernel_rfl) (by kernel_rfl) (fun _ _ _ h => h) (Or.inr ⟨by rfl, rfl⟩) hHeld ?rf7
        try simp only [Act.put, List.setIfInBounds_toArray, List.set_cons_zero, List.set_cons_succ]
        refine wpAnyH_take (i := 8) (oi := ⟨some 88, _, _, _, _, _⟩) (v := undef) rfl (by kernel_rfl) (by kernel_rfl) (by kernel_rfl) (fun _ _ _ h => h) (Or.inr ⟨by rfl, rfl⟩) hHeld ?rf8
        try simp only [Act.put, List.setIfInBounds_toArray, List.set_cons_zero, List.set_cons_succ]
        refine wpAnyH_take (i := 9) (oi := ⟨some 89, _, _, _, _, _⟩) (v := undef) rfl (by kernel_rfl) (by kernel_rfl) (by kernel_rfl) (fun _ _ _ h => h) (Or.inr ⟨by rfl, rfl⟩) hHeld ?rf9
        try simp only [Act.put, List.setIfInBounds_toArray, List.set_cons_zero, List.set_cons_succ]
        refine wpAnyH_take (i := 10) (oi := ⟨some 90, _, _, _, _, _⟩) (v := undef) rfl (by kernel_rfl) (by kernel_rfl) (by kernel_rfl) (fun _ _ _ h => h) (Or.inr ⟨by rfl, rfl⟩) hHeld ?rf10
        try simp only [Act.put, List.setIfInBounds_toArray, List.set_cons_zero, List.set_cons_succ]
        refine wpAnyH_take (i := 11) (oi := ⟨some 91, _, _, _, _, _⟩) (v := ?vf11) rfl (by kernel_rfl) (by kernel_rfl) (by kernel_rfl) (fun _ _ _ h => h) (Or.inl ⟨by rfl, ?yf11⟩) hHeld ?rf11
        case yf11 =>
          intro wx hSx
          go_simp
          try with_reducible rfl
        try simp only [Act.put, List.setIfInBounds_toArray, List.set_cons_zero, List.set_cons_succ]
        refine wpAnyH_done (by kernel_rfl) ?_ _
        have HR := Lib.hid hHeld.1
        clear hHeld
        go_wp2_with fail
        exact ⟨⟨j + 1, by omega, by go_num, HR⟩, by simp [intOf]; omega⟩
      · obtain ⟨c0, c1, c2, c3, c4⟩ := HAt.out _ HR.out
        go_wp2_with fail
        clear c0 c1 c2 c3 c4
        refine (of_par _ _ _ _ _ _ _ _).mono ?_
        rintro e w71 ⟨rfl, hb⟩
        replace HR := Lib.hid (HR.out.later hb)
        clear hb
        go_wp2_with fail
        refine (HWy.out _ HR.out (by first | trivial | rfl)).mono ?_
        rintro e wy ⟨⟨gy, cy, rfl, hgy, hoy⟩, hb⟩
        replace HR := Lib.hid (HR.out.later hb)
        have HRow := Lib.hid (hoy.row (lo := 0) (Nat.zero_le _))
        clear hb hoy hgy
        go_upto_region 20 with (fail)
        obtain ⟨c0, c1, c2, c3, c4⟩ := HAt.out _ HR.out
        go_wp2_with fail
        clear c0 c1 c2 c3 c4
        refine (of_par _ _ _ _ _ _ _ _).mono ?_
        rintro e w72 ⟨rfl, hb⟩
        replace HR := Lib.hid (HR.out.later hb)
        replace HRow := Lib.hid (HRow.out.below hb)
        clear hb
        go_wp2_with fail
        refine (HCM.out _ HR.out).mono ?_
        rintro e w73 ⟨rfl, hb⟩
        replace HR := Lib.hid (HR.out.later hb)
        replace HRow := Lib.hid (HRow.out.below hb)
        clear hb
        go_upto_region 22 with (fail)
        refine wp_region_held_drew (S := fun w' => AllP w b1 3 F Av Cv w' ∧ Row w' 0 (.slice (some ⟨gy, 0, none⟩) BY.length cy) BY) (by kernel_rfl) ⟨HR.out.drew, HRow.out.drew⟩ (fun hHeld => ?_)
        generalize hwd : w73.drew = wd at hHeld ⊢
        clear HR hwd HRow
        refine wpAnyH_take (i := 0) (oi := ⟨some 80, _, _, _, _, _⟩) (v := ?vt0) rfl (by kernel_rfl) (by kernel_rfl) (by kernel_rfl) (fun _ _ _ h => h) (Or.inl ⟨by rfl, ?yt0⟩) hHeld ?rt0
        case yt0 =>
          intro wx hSx
          go_simp
          try with_reducible rfl
        try simp only [Act.put, List.setIfInBounds_toArray, List.set_cons_zero, List.set_cons_succ]
        refine wpAnyH_take (i := 1) (oi := ⟨some 81, _, _, _, _, _⟩) (v := ?vt1) rfl (by kernel_rfl) (by kernel_rfl) (by kernel_rfl) (fun _ _ _ h => h) (Or.inl ⟨by rfl, ?yt1⟩) hHeld ?rt1
        case yt1 =>
          intro wx hSx
          go_simp
          try with_reducible rfl
        try simp only [Act.put, List.setIfInBounds_toArray, List.set_cons_zero, List.set_cons_succ]
        refine wpAnyH_take (i := 2) (oi := ⟨some 82, _, _, _, _, _⟩) (v := ?vt2) rfl (by kernel_rfl) (by kernel_rfl) (by kernel_rfl) (fun _ _ _ h => h) (Or.inl ⟨by rfl, ?yt2⟩) hHeld ?rt2
        case yt2 =>
          intro wx hSx
          go_simp
          try with_reducible rfl
        try simp only [Act.put, List.setIfInBounds_toArray, List.set_cons_zero, List.set_cons_succ]
        refine wpAnyH_take (i := 3) (oi := ⟨some 83, _, _, _, _, _⟩) (v := ?vt3) rfl (by kernel_rfl) (by kernel_rfl) (by kernel_rfl) (fun _ _ _ h => h) (Or.inl ⟨by rfl, ?yt3⟩) hHeld ?rt3
        case yt3 =>
          intro wx hSx
          have cc := conv_row hSx.2
          go_simp
          first | done | rfl | (rw [cc]; rfl)
        try simp only [Act.put, List.setIfInBounds_toArray, List.set_cons_zero, List.set_cons_succ]
        refine wpAnyH_take (i := 4) (oi := ⟨some 84, _, _, _, _, _⟩) (v := ?vt4) rfl (by kernel_rfl) (by kernel_rfl) (by kernel_rfl) (fun _ _ _ h => h) (Or.inl ⟨by rfl, ?yt4⟩) hHeld ?rt4
        case yt4 =>
          intro wx hSx
          go_simp
          try with_reducible rfl
        try simp only [Act.put, List.setIfInBounds_toArray, List.set_cons_zero, List.set_cons_succ]
        refine wpAnyH_take (i := 5) (oi := ⟨some 85, _, _, _, _, _⟩) (v := ?vt5) rfl (by kernel_rfl) (by kernel_rfl) (by kernel_rfl) (fun _ _ _ h => h) (Or.inl ⟨by rfl, ?yt5⟩) hHeld ?rt5
        case yt5 =>
          intro wx hSx
          go_simp
          try with_reducible rfl
        try simp only [Act.put, List.setIfInBounds_toArray, List.set_cons_zero, List.set_cons_succ]
        refine wpAnyH_take (i := 6) (oi := ⟨some 86, _, _, _, _, _⟩) (v := ?vt6) rfl (by kernel_rfl) (by kernel_rfl) (by kernel_rfl) (fun _ _ _ h => h) (Or.inl ⟨by rfl, ?yt6⟩) hHeld ?rt6
        case yt6 =>
          intro wx hSx
          go_simp
          try with_reducible rfl
        try simp only [Act.put, List.setIfInBounds_toArray, List.set_cons_zero, List.set_cons_succ]
        refine wpAnyH_take (i := 7) (oi := ⟨some 87, _, _, _, _, _⟩) (v := ?vt7) rfl (by kernel_rfl) (by kernel_rfl) (by kernel_rfl) (fun _ _ _ h => h) (Or.inl ⟨by rfl, ?yt7⟩) hHeld ?rt7
        case yt7 =>
          intro wx hSx
          obtain ⟨c0, c1, c2, c3, c4⟩ := HAt.out _ hSx.1
          go_simp
          try with_reducible rfl
        try simp only [Act.put, List.setIfInBounds_toArray, List.set_cons_zero, List.set_cons_succ]
        refine wpAnyH_ready (rs := [8]) (by kernel_rfl) (by simp) ?_
        refine AllReadyH.cons (o := ⟨some 88, _, _, _, _, _⟩) rfl (fun K hK => ?_) AllReadyH.nil
        go_simp
        refine (HBy.out _ hHeld.1 (by first | trivial | rfl)).mono ?_
        rintro e wq ⟨⟨gq, capq, rfl, hgq, hoq⟩, hbq⟩
        replace hHeld := And.intro (hHeld.1.later hbq) (hHeld.2.below hbq)
        refine hK.out _ _ hHeld (fun _ => ?_)
        clear hK K hbq hgq
        try simp only [Act.put, List.setIfInBounds_toArray, List.set_cons_zero, List.set_cons_succ]
        refine anyH_narrow (S' := fun w' => (AllP w b1 3 F Av Cv w' ∧ Row w' 0 (.slice (some ⟨gy, 0, none⟩) BY.length cy) BY) ∧ Row w' 0 (.slice (some ⟨gq, 0, none⟩) BY.length capq) BY) (fun _ h => h.1) _ _ _ _ ?_
        have hH2 := And.intro hHeld (hoq.row (lo := 0) (Nat.zero_le _))
        clear hHeld hoq
        have hHeld := hH2
        clear hH2
        refine wpAnyH_take (i := 9) (oi := ⟨some 89, _, _, _, _, _⟩) (v := ?vt9) rfl (by kernel_rfl) (by kernel_rfl) (by kernel_rfl) (fun _ _ _ h => h) (Or.inl ⟨by rfl, ?yt9⟩) hHeld ?rt9
        case yt9 =>
          intro wx hSx
          have cc := conv_row hSx.2
          go_simp
          first | done | rfl | (rw [cc]; rfl)
        try simp only [Act.put, List.setIfInBounds_toArray, List.set_cons_zero, List.set_cons_succ]
        refine wpAnyH_take (i := 10) (oi := ⟨some 90, _, _, _, _, _⟩) (v := ?vt10) rfl (by kernel_rfl) (by kernel_rfl) (by kernel_rfl) (fun _ _ _ h => h) (Or.inl ⟨by rfl, ?yt10⟩) hHeld ?rt10
        case yt10 =>
          intro wx hSx
          go_simp
          try with_reducible rfl
        try simp only [Act.put, List.setIfInBounds_toArray, List.set_cons_zero, List.set_cons_succ]
        refine wpAnyH_take (i := 11) (oi := ⟨some 91, _, _, _, _, _⟩) (v := ?vt11) rfl (by kernel_rfl) (by kernel_rfl) (by kernel_rfl) (fun _ _ _ h => h) (Or.inl ⟨by rfl, ?yt11⟩) hHeld ?rt11
        case yt11 =>
          intro wx hSx
          go_simp
          try with_reducible rfl
        try simp only [Act.put, List.setIfInBounds_toArray, List.set_cons_zero, List.set_cons_succ]
        refine wpAnyH_done (by kernel_rfl) ?_ _
        have HR := Lib.hid hHeld.1.1
        clear hHeld
        go_wp2_with fail
        exact ⟨⟨j + 1, by omega, by go_num, HR⟩, by simp [intOf]; omega⟩
end Go.Proofs.Ytnabbebkmafakaa
