/-
  IndexAhead: which event is ahead of which.
-/
import Derived.Test.YtflgpdkdflhhgaaGreatDoorRfB
import Derived.Test.YtflgpdkdflhhgaaGreatDoorI8D
namespace Go.Proofs.YtflgpdkdflhhgaaGreatDoor
set_option maxRecDepth 20000
open Go.RowKit
set_option linter.unusedVariables false
set_option linter.unusedSimpArgs false

/-- While an index is asked: all below B stays. -/
structure AkS (w3 wr : World) (B gx : Nat) (l : List Ev) : Prop where
  is : ∃ P, CX wr gx l P ∧ ∀ k, P k → B ≤ k
  below : Below B w3 wr
  le : B ≤ w3.heap.size
theorem AkS.ask {w3 wr w' : World} {B gx : Nat} {l : List Ev} {P : Nat → Prop} (h : AkS w3 wr B gx l) (hp : ∀ k, P k → B ≤ k) (ha : AskX wr w' gx l P) : AkS w3 w' B gx l := by
  obtain ⟨P', h1, h2, h3⟩ := ha
  have hs := Nat.le_trans h.le h.below.size
  refine ⟨⟨P', h1, fun k hk => ?_⟩, h.below.trans (h2.below hp hs), h.le⟩
  rcases h3 k hk with hh | hh
  · exact hp k hh
  · exact Nat.le_trans hs hh
theorem AkS.evs {w3 wr : World} {B gx : Nat} {l : List Ev} {v : Value} {xs : List EvV} (h : AkS w3 wr B gx l) (he : EvsS w3 v xs) (hf : ∀ k, footE v xs k → k < B) : EvsS wr v xs := he.stay h.below.size (fun k hk hk2 => h.below.block k (hf k hk2))
theorem AkS.later {w3 wr w' : World} {B gx : Nat} {l : List Ev} (h : AkS w3 wr B gx l) (hb : Below wr.heap.size wr w') : AkS w3 w' B gx l := by
  obtain ⟨P, h1, h2⟩ := h.is
  exact ⟨⟨P, h1.below hb, h2⟩, h.below.trans (hb.mono (Nat.le_trans h.le h.below.size)), h.le⟩
theorem eventS_len8 (n : Int) : (eventS n).size ≤ maxLen := by
  have : ∀ k : Fin 9, (eventK k.val).size ≤ 3 := by decide +kernel
  have h := this ⟨aroundN n 9, aroundN_lt n (m := 9) (by decide)⟩
  show (eventK (aroundN n 9)).size ≤ maxLen
  unfold maxLen
  exact Nat.le_trans h (by decide)

set_option maxHeartbeats 6400000 in
theorem indexAhead_walk (C : Dags) (CA : DagAlls C) (v : Value) (gs : List GV) (s : ByteArray) (w : World) (h : GsS w v gs) (hs : s.size ≤ maxLen) (ht : TabW w) :
    Calls Tryz.prog 3 #[v, .string s] w fun e w' => e = .returned (.bool true) ∧ Below w.heap.size w w' := by
  have HTB := Lib.hid ht
  have hw0 := ht.1
  have HBU := Lib.hid (build8_any C v gs w h hw0)
  have HZ := Lib.hid (fun W (hh : TabW W) => lives8_any C CA W hh)
  obtain ⟨A0, c0, rfl, -⟩ := id h.1
  clear h ht
  go_enter Tryz.func3, Tryz.ntmps3
  go_wp2_with fail
  go_at_call 8
  refine HBU.out.mono ?_
  rintro e w1 ⟨gd, v', xs, rfl, hbt⟩
  obtain ⟨Av, cv, rfl, -, hv2, -⟩ := id hbt.evs.1
  have hv3 : cv ≤ 9223372036854775807 := by unfold maxLen at hv2; omega
  have hxl := hbt.len
  have HVL : Hid (Valid roomR (evs xs)) := Lib.hid (C.valid hbt.bd.code)
  have hb2 := below_new w1 (.cells #[.string roomR, .slice Av xs.length cv] 26)
  have HX2 := Lib.hid (heap_alloc_new w1 (.cells #[.string roomR, .slice Av xs.length cv] 26))
  have HD2 := Lib.hid (hbt.bd.later hb2)
  have HE2 := Lib.hid (hbt.evs.below hb2)
  have HOF2 : Hid (∀ k, footE (.slice Av xs.length cv) xs k → ¬ C.own (w1.alloc (.cells #[.string roomR, .slice Av xs.length cv] 26)) gd k) := Lib.hid (fun k hk ho => hbt.off k hk ((C.keep hbt.bd.code hb2.size (fun k hk => hb2.block k (C.old hbt.bd.code hk))).2 k ho))
  have HOB2 : Hid (¬ C.own (w1.alloc (.cells #[.string roomR, .slice Av xs.length cv] 26)) gd w1.heap.size) := Lib.hid (fun ho => by
    have := C.old hbt.bd.code ((C.keep hbt.bd.code hb2.size (fun k hk => hb2.block k (C.old hbt.bd.code hk))).2 _ ho)
    omega)
  clear hbt hb2 HBU hv2
  go_upto_region 2 with (fail)
  generalize w1.alloc _ = w2 at HX2 HD2 HE2 HOF2 HOB2 ⊢
  generalize w1.heap.size = B4 at HX2 HOB2 ⊢
  have HOF := Lib.hid (of_any C CA w2 HD2.out.code (by rw [evs_len]; exact hxl))
  go_wp2_with fail
  go_at_call 9
  refine HOF.out.mono ?_
  rintro e w3 ⟨gx, P, rfl, hx, hp, hc3, ht3⟩
  have HD3 := Lib.hid (HD2.out.turn hc3 ht3)
  have HE3 := Lib.hid (Dags.stays HE2.out HOF2.out ht3).1
  have HX3 := Lib.hid ((ht3.block B4 (smem_lt HX2.out) HOB2.out).trans HX2.out)
  have HFB : Hid (∀ k, footE (.slice Av xs.length cv) xs k → k < w2.heap.size) := Lib.hid (fun k hk => HE2.out.foot hk)
  have hB4 := smem_lt HX2.out
  have hle := ht3.size
  have hws := HD2.out.below.size
  have HA3 : Hid (AkS w3 w3 w2.heap.size gx (evs xs)) := Lib.hid ⟨⟨P, hx, fun k hk => (hp k hk).1⟩, Below.refl _ _, ht3.size⟩
  have HT3 := Lib.hid (HTB.out.below HD3.out.below hw0)
  clear hx hp hc3 ht3 HOF HX2 HD2 HE2 HOF2 HOB2
  generalize w2.heap.size = B2 at HFB hB4 hle hws HA3
  have HEW : Hid (∀ W, AkS w3 W B2 gx (evs xs) → EvsS W (.slice Av xs.length cv) xs) := Lib.hid (fun W h => h.evs HE3.out HFB.out)
  have HXW : Hid (∀ W, AkS w3 W B2 gx (evs xs) → W.heap[B4]? = some (.cells #[.string roomR, .slice Av xs.length cv] 26 (0, 0))) := Lib.hid (fun W h => (h.below.block B4 hB4).trans HX3.out)
  have HAH : Hid (∀ W a b, AkS w3 W B2 gx (evs xs) → a.size ≤ maxLen → b.size ≤ maxLen → Calls Tryz.prog 12 #[.pointer (some ⟨gx, 0, none⟩), .string a, .string b] W fun e w' => e = .returned (.bool (aheadB (evs xs) a b)) ∧ AkS w3 w' B2 gx (evs xs)) := Lib.hid (fun W a b h ha hb => by
    obtain ⟨P, h1, h2⟩ := h.is
    refine (ahead_any W h1 a b ha hb).mono ?_
    rintro e w' ⟨rfl, hk⟩
    exact ⟨rfl, h.ask h2 hk⟩)
  have HAP : Hid (∀ W a b, AkS w3 W B2 gx (evs xs) → a.size ≤ maxLen → b.size ≤ maxLen → Calls Tryz.prog 14 #[.pointer (some ⟨gx, 0, none⟩), .string a, .string b] W fun e w' => e = .returned (.bool (apartB (evs xs) a b)) ∧ AkS w3 w' B2 gx (evs xs)) := Lib.hid (fun W a b h ha hb => by
    obtain ⟨P, h1, h2⟩ := h.is
    refine (apart_any W h1 a b ha hb).mono ?_
    rintro e w' ⟨rfl, hk⟩
    exact ⟨rfl, h.ask h2 hk⟩)
  have HRA : Hid (∀ W a b, AkS w3 W B2 gx (evs xs) → a.size ≤ maxLen → Calls Tryz.prog 13 #[.agg #[.string roomR, .slice Av xs.length cv], .string a, .string b] W fun e w' => e = .returned (.bool (aheadB (evs xs) a b)) ∧ AkS w3 w' B2 gx (evs xs)) := Lib.hid (fun W a b h ha => by
    refine (refAhead_any roomR _ xs a HVL.out (by omega) ha _ b W (Nat.le_refl _) (HEW.out _ h)).mono ?_
    rintro e w' ⟨rfl, hb⟩
    exact ⟨rfl, h.later hb⟩)
  have HRP : Hid (∀ W a b, AkS w3 W B2 gx (evs xs) → a.size ≤ maxLen → b.size ≤ maxLen → Calls Tryz.prog 15 #[.agg #[.string roomR, .slice Av xs.length cv], .string a, .string b] W fun e w' => e = .returned (.bool (apartB (evs xs) a b)) ∧ AkS w3 w' B2 gx (evs xs)) := Lib.hid (fun W a b h ha hb => by
    refine (refApart_any roomR _ xs a b W HVL.out (by omega) ha hb (HEW.out _ h)).mono ?_
    rintro e w' ⟨rfl, hbb⟩
    exact ⟨rfl, h.later hbb⟩)
  have HEV : Hid (∀ W (n : Int), AkS w3 W B2 gx (evs xs) → 0 ≤ n → n < 100 → Calls Tryz.prog 11 #[.int .i64 n] W fun e w' => e = .returned (.string (eventS n)) ∧ AkS w3 w' B2 gx (evs xs)) := Lib.hid (fun W n h h0 h1 => by
    refine (eventOf_any n W (by omega) (by omega)).mono ?_
    rintro e w' ⟨rfl, hbb⟩
    exact ⟨rfl, h.later hbb⟩)
  have HFW := Lib.hid (fun W => few_any s 4 (by omega) W hs)
  rw [show ((4 : Nat) : Int) = 4 from rfl] at HFW
  have hfs : (fewS s 4).size ≤ maxLen := Nat.le_trans (fewS_size s 4) (by decide)
  generalize fewS s 4 = s4 at HFW hfs
  go_wp2_with fail
  go_at_call 10
  refine (HFW.out _).mono ?_
  rintro e w4 ⟨rfl, rfl⟩
  go_wp2_with fail
  go_loopw [8] (fun i wr => ∃ a : Nat, i = .int .i64 (a : Int) ∧ a ≤ 10 ∧ Hid (AkS w3 wr B2 gx (evs xs))) (fun i _ => 10 - (intOf i).toNat)
  case atStart => exact ⟨0, rfl, Nat.zero_le _, HA3⟩
  case round =>
    obtain ⟨wi, hwi⟩ : ∃ wi, wi = wr := ⟨_, rfl⟩
    subst hwi
    obtain ⟨i, rfl, hi, HI⟩ := hrel
    by_cases hix : i < 10
    · have q1 : decide ((i : Int) < 10) = true := decide_eq_true (by omega)
      go_wp2_with fail
      go_loopw [9] (fun i wr => ∃ c : Nat, i = .int .i64 (c : Int) ∧ c ≤ 10 ∧ Hid (AkS w3 wr B2 gx (evs xs))) (fun i _ => 10 - (intOf i).toNat)
      case atStart => exact ⟨0, rfl, Nat.zero_le _, HI⟩
      case round =>
        obtain ⟨wk, hwk⟩ : ∃ wk, wk = wr := ⟨_, rfl⟩
        subst hwk
        clear HI
        obtain ⟨c, rfl, hc, HK⟩ := hrel
        by_cases hcx : c < 10
        · have q2 : decide ((c : Int) < 10) = true := decide_eq_true (by omega)
          obtain ⟨ri, hri, hri1⟩ : ∃ ri : Int, (i : Int).tmod 9 = ri ∧ 0 ≤ ri ∧ ri < 9 := ⟨_, rfl, by rw [Int.tmod_eq_emod_of_nonneg (by omega)]; omega⟩
          obtain ⟨rc, hrc, hrc1⟩ : ∃ rc : Int, (c : Int).tmod 9 = rc ∧ 0 ≤ rc ∧ rc < 9 := ⟨_, rfl, by rw [Int.tmod_eq_emod_of_nonneg (by omega)]; omega⟩
          have HS1 := Lib.hid (eventS_len8 ri)
          have HS2 := Lib.hid (eventS_len8 rc)
          go_wp2_with fail
          go_at_call 11
          refine (HEV.out _ _ HK.out hri1.1 (by omega)).mono ?_
          rintro e we ⟨rfl, hae⟩
          have HK2 := Lib.hid hae
          clear hae HK
          go_wp2_with fail
          go_at_call 11
          refine (HEV.out _ _ HK2.out hrc1.1 (by omega)).mono ?_
          rintro e wf ⟨rfl, haf⟩
          have HK3 := Lib.hid haf
          clear haf HK2
          generalize eventS ri = ei at HS1 ⊢
          generalize eventS rc = ec at HS2 ⊢
          have hs1 := HS1.out
          have hs2 := HS2.out
          by_cases h9 : i = 9
          · have q3 : ((i : Int) == 9) = true := by rw [beq_iff_eq]; omega
            clear h9
            by_cases k9 : c = 9
            · have q4 : ((c : Int) == 9) = true := by rw [beq_iff_eq]; omega
              clear k9
              go_upto_region 20 with (fail)
              refine wp_region_held_drew (S := fun W => AkS w3 W B2 gx (evs xs)) (by kernel_rfl) (HK3.out.later (Below.refl _ _).drew) (fun hHeld => ?_)
              have HC1 := Lib.hid (fun W h => HAH.out W s4 s4 h hfs hfs)
              have HC2 := Lib.hid (fun W h => HRA.out W s4 s4 h hfs)
              have HC3 := Lib.hid (fun W h => HAP.out W s4 s4 h hfs hfs)
              have HC4 := Lib.hid (fun W h => HRP.out W s4 s4 h hfs hfs)
              generalize aheadB (evs xs) s4 s4 = ab at HC1 HC2
              generalize apartB (evs xs) s4 s4 = pb at HC3 HC4
              have n1 : (ab != ab) = false := bne_self_eq_false _
              have n2 : (pb != pb) = false := bne_self_eq_false _
              generalize World.drew _ = wd at hHeld ⊢
              refine wpAnyH_take (i := 0) (oi := ⟨some 45, _, _, _, _, _⟩) (v := ?va0) rfl (by kernel_rfl) (by kernel_rfl) (by kernel_rfl) (fun _ _ _ h => h) (Or.inl ⟨by rfl, ?ya0⟩) hHeld ?ra0
              case ya0 =>
                intro wx hSx
                go_simp
                try with_reducible rfl
              try simp only [Act.put, List.setIfInBounds_toArray, List.set_cons_zero, List.set_cons_succ]
              refine wpAnyH_take (i := 1) (oi := ⟨some 46, _, _, _, _, _⟩) (v := ?va1) rfl (by kernel_rfl) (by kernel_rfl) (by kernel_rfl) (fun _ _ _ h => h) (Or.inl ⟨by rfl, ?ya1⟩) hHeld ?ra1
              case ya1 =>
                intro wx hSx
                go_simp
                try with_reducible rfl
              try simp only [Act.put, List.setIfInBounds_toArray, List.set_cons_zero, List.set_cons_succ]
              refine wpAnyH_take (i := 2) (oi := ⟨some 47, _, _, _, _, _⟩) (v := ?va2) rfl (by kernel_rfl) (by kernel_rfl) (by kernel_rfl) (fun _ _ _ h => h) (Or.inl ⟨by rfl, ?ya2⟩) hHeld ?ra2
              case ya2 =>
                intro wx hSx
                go_simp
                try with_reducible rfl
              try simp only [Act.put, List.setIfInBounds_toArray, List.set_cons_zero, List.set_cons_succ]
              refine wpAnyH_take (i := 4) (oi := ⟨some 49, _, _, _, _, _⟩) (v := ?va4) rfl (by kernel_rfl) (by kernel_rfl) (by kernel_rfl) (fun _ _ _ h => h) (Or.inl ⟨by rfl, ?ya4⟩) hHeld ?ra4
              case ya4 =>
                intro wx hSx
                have p0 := cell_at (HXW.out _ hSx) 0
                have p1 := cell_at (HXW.out _ hSx) 1
                simp only [List.getElem?_toArray, List.getElem?_cons_succ, List.getElem?_cons_zero] at p0 p1
                go_simp
                try with_reducible rfl
              try simp only [Act.put, List.setIfInBounds_toArray, List.set_cons_zero, List.set_cons_succ]
              refine wpAnyH_take (i := 5) (oi := ⟨some 50, _, _, _, _, _⟩) (v := ?va5) rfl (by kernel_rfl) (by kernel_rfl) (by kernel_rfl) (fun _ _ _ h => h) (Or.inl ⟨by rfl, ?ya5⟩) hHeld ?ra5
              case ya5 =>
                intro wx hSx
                go_simp
                try with_reducible rfl
              try simp only [Act.put, List.setIfInBounds_toArray, List.set_cons_zero, List.set_cons_succ]
              refine wpAnyH_take (i := 6) (oi := ⟨some 51, _, _, _, _, _⟩) (v := ?va6) rfl (by kernel_rfl) (by kernel_rfl) (by kernel_rfl) (fun _ _ _ h => h) (Or.inl ⟨by rfl, ?ya6⟩) hHeld ?ra6
              case ya6 =>
                intro wx hSx
                go_simp
                try with_reducible rfl
              try simp only [Act.put, List.setIfInBounds_toArray, List.set_cons_zero, List.set_cons_succ]
              refine wpAnyH_ready (rs := [3]) (by kernel_rfl) (by simp) ?_
              refine AllReadyH.cons (o := ⟨some 48, _, _, _, _, _⟩) rfl (fun K hK => ?_) AllReadyH.nil
              go_simp
              refine (HC1.out _ hHeld).mono ?_
              rintro e wn ⟨rfl, hkn⟩
              refine hK.out _ _ hkn (fun hHeld => ?_)
              clear hK K hkn
              try simp only [Act.put, List.setIfInBounds_toArray, List.set_cons_zero, List.set_cons_succ]
              generalize wn = wd at hHeld ⊢
              refine wpAnyH_ready (rs := [7]) (by kernel_rfl) (by simp) ?_
              refine AllReadyH.cons (o := ⟨some 52, _, _, _, _, _⟩) rfl (fun K hK => ?_) AllReadyH.nil
              go_simp
              refine (HC2.out _ hHeld).mono ?_
              rintro e wn ⟨rfl, hkn⟩
              refine hK.out _ _ hkn (fun hHeld => ?_)
              clear hK K hkn
              try simp only [Act.put, List.setIfInBounds_toArray, List.set_cons_zero, List.set_cons_succ]
              generalize wn = wd at hHeld ⊢
              refine wpAnyH_take (i := 8) (oi := ⟨some 53, _, _, _, _, _⟩) (v := .bool false) rfl (by kernel_rfl) (by kernel_rfl) (by kernel_rfl) (fun _ _ _ h => h) (Or.inl ⟨by rfl, ?ya8⟩) hHeld ?ra8
              case ya8 =>
                intro wx hSx
                skip
                go_simp
                try with_reducible rfl
              try simp only [Act.put, List.setIfInBounds_toArray, List.set_cons_zero, List.set_cons_succ]
              refine wpAnyH_take (i := 9) (oi := ⟨some 54, _, _, _, _, _⟩) (v := ?va9) rfl (by kernel_rfl) (by kernel_rfl) (by kernel_rfl) (fun _ _ _ h => h) (Or.inl ⟨by rfl, ?ya9⟩) hHeld ?ra9
              case ya9 =>
                intro wx hSx
                go_simp
                try with_reducible rfl
              try simp only [Act.put, List.setIfInBounds_toArray, List.set_cons_zero, List.set_cons_succ]
              refine wpAnyH_take (i := 10) (oi := ⟨some 55, _, _, _, _, _⟩) (v := ?va10) rfl (by kernel_rfl) (by kernel_rfl) (by kernel_rfl) (fun _ _ _ h => h) (Or.inl ⟨by rfl, ?ya10⟩) hHeld ?ra10
              case ya10 =>
                intro wx hSx
                go_simp
                try with_reducible rfl
              try simp only [Act.put, List.setIfInBounds_toArray, List.set_cons_zero, List.set_cons_succ]
              refine wpAnyH_take (i := 11) (oi := ⟨some 56, _, _, _, _, _⟩) (v := ?va11) rfl (by kernel_rfl) (by kernel_rfl) (by kernel_rfl) (fun _ _ _ h => h) (Or.inl ⟨by rfl, ?ya11⟩) hHeld ?ra11
              case ya11 =>
                intro wx hSx
                go_simp
                try with_reducible rfl
              try simp only [Act.put, List.setIfInBounds_toArray, List.set_cons_zero, List.set_cons_succ]
              refine wpAnyH_take (i := 12) (oi := ⟨some 57, _, _, _, _, _⟩) (v := ?va12) rfl (by kernel_rfl) (by kernel_rfl) (by kernel_rfl) (fun _ _ _ h => h) (Or.inl ⟨by rfl, ?ya12⟩) hHeld ?ra12
              case ya12 =>
                intro wx hSx
                go_simp
                try with_reducible rfl
              try simp only [Act.put, List.setIfInBounds_toArray, List.set_cons_zero, List.set_cons_succ]
              refine wpAnyH_take (i := 14) (oi := ⟨some 59, _, _, _, _, _⟩) (v := ?va14) rfl (by kernel_rfl) (by kernel_rfl) (by kernel_rfl) (fun _ _ _ h => h) (Or.inl ⟨by rfl, ?ya14⟩) hHeld ?ra14
              case ya14 =>
                intro wx hSx
                have p0 := cell_at (HXW.out _ hSx) 0
                have p1 := cell_at (HXW.out _ hSx) 1
                simp only [List.getElem?_toArray, List.getElem?_cons_succ, List.getElem?_cons_zero] at p0 p1
                go_simp
                try with_reducible rfl
              try simp only [Act.put, List.setIfInBounds_toArray, List.set_cons_zero, List.set_cons_succ]
              refine wpAnyH_take (i := 15) (oi := ⟨some 60, _, _, _, _, _⟩) (v := ?va15) rfl (by kernel_rfl) (by kernel_rfl) (by kernel_rfl) (fun _ _ _ h => h) (Or.inl ⟨by rfl, ?ya15⟩) hHeld ?ra15
              case ya15 =>
                intro wx hSx
                go_simp
                try with_reducible rfl
              try simp only [Act.put, List.setIfInBounds_toArray, List.set_cons_zero, List.set_cons_succ]
              refine wpAnyH_take (i := 16) (oi := ⟨some 61, _, _, _, _, _⟩) (v := ?va16) rfl (by kernel_rfl) (by kernel_rfl) (by kernel_rfl) (fun _ _ _ h => h) (Or.inl ⟨by rfl, ?ya16⟩) hHeld ?ra16
              case ya16 =>
                intro wx hSx
                go_simp
                try with_reducible rfl
              try simp only [Act.put, List.setIfInBounds_toArray, List.set_cons_zero, List.set_cons_succ]
              refine wpAnyH_ready (rs := [13]) (by kernel_rfl) (by simp) ?_
              refine AllReadyH.cons (o := ⟨some 58, _, _, _, _, _⟩) rfl (fun K hK => ?_) AllReadyH.nil
              go_simp
              refine (HC3.out _ hHeld).mono ?_
              rintro e wn ⟨rfl, hkn⟩
              refine hK.out _ _ hkn (fun hHeld => ?_)
              clear hK K hkn
              try simp only [Act.put, List.setIfInBounds_toArray, List.set_cons_zero, List.set_cons_succ]
              generalize wn = wd at hHeld ⊢
              refine wpAnyH_ready (rs := [17]) (by kernel_rfl) (by simp) ?_
              refine AllReadyH.cons (o := ⟨some 62, _, _, _, _, _⟩) rfl (fun K hK => ?_) AllReadyH.nil
              go_simp
              refine (HC4.out _ hHeld).mono ?_
              rintro e wn ⟨rfl, hkn⟩
              refine hK.out _ _ hkn (fun hHeld => ?_)
              clear hK K hkn
              try simp only [Act.put, List.setIfInBounds_toArray, List.set_cons_zero, List.set_cons_succ]
              generalize wn = wd at hHeld ⊢
              refine wpAnyH_take (i := 18) (oi := ⟨some 63, _, _, _, _, _⟩) (v := .bool false) rfl (by kernel_rfl) (by kernel_rfl) (by kernel_rfl) (fun _ _ _ h => h) (Or.inl ⟨by rfl, ?ya18⟩) hHeld ?ra18
              case ya18 =>
                intro wx hSx
                skip
                go_simp
                try with_reducible rfl
              try simp only [Act.put, List.setIfInBounds_toArray, List.set_cons_zero, List.set_cons_succ]
              refine wpAnyH_take (i := 19) (oi := ⟨some 64, _, _, _, _, _⟩) (v := ?va19) rfl (by kernel_rfl) (by kernel_rfl) (by kernel_rfl) (fun _ _ _ h => h) (Or.inl ⟨by rfl, ?ya19⟩) hHeld ?ra19
              case ya19 =>
                intro wx hSx
                go_simp
                try with_reducible rfl
              try simp only [Act.put, List.setIfInBounds_toArray, List.set_cons_zero, List.set_cons_succ]
              refine wpAnyH_done (by kernel_rfl) ?_ _
              go_wp2_with fail
              refine ⟨⟨c + 1, by go_num, by omega, Lib.hid hHeld⟩, ?_⟩
              simp [intOf]; omega
            · have q4 : ((c : Int) == 9) = false := by rw [beq_eq_false_iff_ne]; omega
              clear k9
              go_upto_region 20 with (fail)
              refine wp_region_held_drew (S := fun W => AkS w3 W B2 gx (evs xs)) (by kernel_rfl) (HK3.out.later (Below.refl _ _).drew) (fun hHeld => ?_)
              have HC1 := Lib.hid (fun W h => HAH.out W s4 ec h hfs hs2)
              have HC2 := Lib.hid (fun W h => HRA.out W s4 ec h hfs)
              have HC3 := Lib.hid (fun W h => HAP.out W s4 ec h hfs hs2)
              have HC4 := Lib.hid (fun W h => HRP.out W s4 ec h hfs hs2)
              generalize aheadB (evs xs) s4 ec = ab at HC1 HC2
              generalize apartB (evs xs) s4 ec = pb at HC3 HC4
              have n1 : (ab != ab) = false := bne_self_eq_false _
              have n2 : (pb != pb) = false := bne_self_eq_false _
              generalize World.drew _ = wd at hHeld ⊢
              refine wpAnyH_take (i := 0) (oi := ⟨some 45, _, _, _, _, _⟩) (v := ?vb0) rfl (by kernel_rfl) (by kernel_rfl) (by kernel_rfl) (fun _ _ _ h => h) (Or.inl ⟨by rfl, ?yb0⟩) hHeld ?rb0
              case yb0 =>
                intro wx hSx
                go_simp
                try with_reducible rfl
              try simp only [Act.put, List.setIfInBounds_toArray, List.set_cons_zero, List.set_cons_succ]
              refine wpAnyH_take (i := 1) (oi := ⟨some 46, _, _, _, _, _⟩) (v := ?vb1) rfl (by kernel_rfl) (by kernel_rfl) (by kernel_rfl) (fun _ _ _ h => h) (Or.inl ⟨by rfl, ?yb1⟩) hHeld ?rb1
              case yb1 =>
                intro wx hSx
                go_simp
                try with_reducible rfl
              try simp only [Act.put, List.setIfInBounds_toArray, List.set_cons_zero, List.set_cons_succ]
              refine wpAnyH_take (i := 2) (oi := ⟨some 47, _, _, _, _, _⟩) (v := ?vb2) rfl (by kernel_rfl) (by kernel_rfl) (by kernel_rfl) (fun _ _ _ h => h) (Or.inl ⟨by rfl, ?yb2⟩) hHeld ?rb2
              case yb2 =>
                intro wx hSx
                go_simp
                try with_reducible rfl
              try simp only [Act.put, List.setIfInBounds_toArray, List.set_cons_zero, List.set_cons_succ]
              refine wpAnyH_take (i := 4) (oi := ⟨some 49, _, _, _, _, _⟩) (v := ?vb4) rfl (by kernel_rfl) (by kernel_rfl) (by kernel_rfl) (fun _ _ _ h => h) (Or.inl ⟨by rfl, ?yb4⟩) hHeld ?rb4
              case yb4 =>
                intro wx hSx
                have p0 := cell_at (HXW.out _ hSx) 0
                have p1 := cell_at (HXW.out _ hSx) 1
                simp only [List.getElem?_toArray, List.getElem?_cons_succ, List.getElem?_cons_zero] at p0 p1
                go_simp
                try with_reducible rfl
              try simp only [Act.put, List.setIfInBounds_toArray, List.set_cons_zero, List.set_cons_succ]
              refine wpAnyH_take (i := 5) (oi := ⟨some 50, _, _, _, _, _⟩) (v := ?vb5) rfl (by kernel_rfl) (by kernel_rfl) (by kernel_rfl) (fun _ _ _ h => h) (Or.inl ⟨by rfl, ?yb5⟩) hHeld ?rb5
              case yb5 =>
                intro wx hSx
                go_simp
                try with_reducible rfl
              try simp only [Act.put, List.setIfInBounds_toArray, List.set_cons_zero, List.set_cons_succ]
              refine wpAnyH_take (i := 6) (oi := ⟨some 51, _, _, _, _, _⟩) (v := ?vb6) rfl (by kernel_rfl) (by kernel_rfl) (by kernel_rfl) (fun _ _ _ h => h) (Or.inl ⟨by rfl, ?yb6⟩) hHeld ?rb6
              case yb6 =>
                intro wx hSx
                go_simp
                try with_reducible rfl
              try simp only [Act.put, List.setIfInBounds_toArray, List.set_cons_zero, List.set_cons_succ]
              refine wpAnyH_ready (rs := [3]) (by kernel_rfl) (by simp) ?_
              refine AllReadyH.cons (o := ⟨some 48, _, _, _, _, _⟩) rfl (fun K hK => ?_) AllReadyH.nil
              go_simp
              refine (HC1.out _ hHeld).mono ?_
              rintro e wn ⟨rfl, hkn⟩
              refine hK.out _ _ hkn (fun hHeld => ?_)
              clear hK K hkn
              try simp only [Act.put, List.setIfInBounds_toArray, List.set_cons_zero, List.set_cons_succ]
              generalize wn = wd at hHeld ⊢
              refine wpAnyH_ready (rs := [7]) (by kernel_rfl) (by simp) ?_
              refine AllReadyH.cons (o := ⟨some 52, _, _, _, _, _⟩) rfl (fun K hK => ?_) AllReadyH.nil
              go_simp
              refine (HC2.out _ hHeld).mono ?_
              rintro e wn ⟨rfl, hkn⟩
              refine hK.out _ _ hkn (fun hHeld => ?_)
              clear hK K hkn
              try simp only [Act.put, List.setIfInBounds_toArray, List.set_cons_zero, List.set_cons_succ]
              generalize wn = wd at hHeld ⊢
              refine wpAnyH_take (i := 8) (oi := ⟨some 53, _, _, _, _, _⟩) (v := .bool false) rfl (by kernel_rfl) (by kernel_rfl) (by kernel_rfl) (fun _ _ _ h => h) (Or.inl ⟨by rfl, ?yb8⟩) hHeld ?rb8
              case yb8 =>
                intro wx hSx
                skip
                go_simp
                try with_reducible rfl
              try simp only [Act.put, List.setIfInBounds_toArray, List.set_cons_zero, List.set_cons_succ]
              refine wpAnyH_take (i := 9) (oi := ⟨some 54, _, _, _, _, _⟩) (v := ?vb9) rfl (by kernel_rfl) (by kernel_rfl) (by kernel_rfl) (fun _ _ _ h => h) (Or.inl ⟨by rfl, ?yb9⟩) hHeld ?rb9
              case yb9 =>
                intro wx hSx
                go_simp
                try with_reducible rfl
              try simp only [Act.put, List.setIfInBounds_toArray, List.set_cons_zero, List.set_cons_succ]
              refine wpAnyH_take (i := 10) (oi := ⟨some 55, _, _, _, _, _⟩) (v := ?vb10) rfl (by kernel_rfl) (by kernel_rfl) (by kernel_rfl) (fun _ _ _ h => h) (Or.inl ⟨by rfl, ?yb10⟩) hHeld ?rb10
              case yb10 =>
                intro wx hSx
                go_simp
                try with_reducible rfl
              try simp only [Act.put, List.setIfInBounds_toArray, List.set_cons_zero, List.set_cons_succ]
              refine wpAnyH_take (i := 11) (oi := ⟨some 56, _, _, _, _, _⟩) (v := ?vb11) rfl (by kernel_rfl) (by kernel_rfl) (by kernel_rfl) (fun _ _ _ h => h) (Or.inl ⟨by rfl, ?yb11⟩) hHeld ?rb11
              case yb11 =>
                intro wx hSx
                go_simp
                try with_reducible rfl
              try simp only [Act.put, List.setIfInBounds_toArray, List.set_cons_zero, List.set_cons_succ]
              refine wpAnyH_take (i := 12) (oi := ⟨some 57, _, _, _, _, _⟩) (v := ?vb12) rfl (by kernel_rfl) (by kernel_rfl) (by kernel_rfl) (fun _ _ _ h => h) (Or.inl ⟨by rfl, ?yb12⟩) hHeld ?rb12
              case yb12 =>
                intro wx hSx
                go_simp
                try with_reducible rfl
              try simp only [Act.put, List.setIfInBounds_toArray, List.set_cons_zero, List.set_cons_succ]
              refine wpAnyH_take (i := 14) (oi := ⟨some 59, _, _, _, _, _⟩) (v := ?vb14) rfl (by kernel_rfl) (by kernel_rfl) (by kernel_rfl) (fun _ _ _ h => h) (Or.inl ⟨by rfl, ?yb14⟩) hHeld ?rb14
              case yb14 =>
                intro wx hSx
                have p0 := cell_at (HXW.out _ hSx) 0
                have p1 := cell_at (HXW.out _ hSx) 1
                simp only [List.getElem?_toArray, List.getElem?_cons_succ, List.getElem?_cons_zero] at p0 p1
                go_simp
                try with_reducible rfl
              try simp only [Act.put, List.setIfInBounds_toArray, List.set_cons_zero, List.set_cons_succ]
              refine wpAnyH_take (i := 15) (oi := ⟨some 60, _, _, _, _, _⟩) (v := ?vb15) rfl (by kernel_rfl) (by kernel_rfl) (by kernel_rfl) (fun _ _ _ h => h) (Or.inl ⟨by rfl, ?yb15⟩) hHeld ?rb15
              case yb15 =>
                intro wx hSx
                go_simp
                try with_reducible rfl
              try simp only [Act.put, List.setIfInBounds_toArray, List.set_cons_zero, List.set_cons_succ]
              refine wpAnyH_take (i := 16) (oi := ⟨some 61, _, _, _, _, _⟩) (v := ?vb16) rfl (by kernel_rfl) (by kernel_rfl) (by kernel_rfl) (fun _ _ _ h => h) (Or.inl ⟨by rfl, ?yb16⟩) hHeld ?rb16
              case yb16 =>
                intro wx hSx
                go_simp
                try with_reducible rfl
              try simp only [Act.put, List.setIfInBounds_toArray, List.set_cons_zero, List.set_cons_succ]
              refine wpAnyH_ready (rs := [13]) (by kernel_rfl) (by simp) ?_
              refine AllReadyH.cons (o := ⟨some 58, _, _, _, _, _⟩) rfl (fun K hK => ?_) AllReadyH.nil
              go_simp
              refine (HC3.out _ hHeld).mono ?_
              rintro e wn ⟨rfl, hkn⟩
              refine hK.out _ _ hkn (fun hHeld => ?_)
              clear hK K hkn
              try simp only [Act.put, List.setIfInBounds_toArray, List.set_cons_zero, List.set_cons_succ]
              generalize wn = wd at hHeld ⊢
              refine wpAnyH_ready (rs := [17]) (by kernel_rfl) (by simp) ?_
              refine AllReadyH.cons (o := ⟨some 62, _, _, _, _, _⟩) rfl (fun K hK => ?_) AllReadyH.nil
              go_simp
              refine (HC4.out _ hHeld).mono ?_
              rintro e wn ⟨rfl, hkn⟩
              refine hK.out _ _ hkn (fun hHeld => ?_)
              clear hK K hkn
              try simp only [Act.put, List.setIfInBounds_toArray, List.set_cons_zero, List.set_cons_succ]
              generalize wn = wd at hHeld ⊢
              refine wpAnyH_take (i := 18) (oi := ⟨some 63, _, _, _, _, _⟩) (v := .bool false) rfl (by kernel_rfl) (by kernel_rfl) (by kernel_rfl) (fun _ _ _ h => h) (Or.inl ⟨by rfl, ?yb18⟩) hHeld ?rb18
              case yb18 =>
                intro wx hSx
                skip
                go_simp
                try with_reducible rfl
              try simp only [Act.put, List.setIfInBounds_toArray, List.set_cons_zero, List.set_cons_succ]
              refine wpAnyH_take (i := 19) (oi := ⟨some 64, _, _, _, _, _⟩) (v := ?vb19) rfl (by kernel_rfl) (by kernel_rfl) (by kernel_rfl) (fun _ _ _ h => h) (Or.inl ⟨by rfl, ?yb19⟩) hHeld ?rb19
              case yb19 =>
                intro wx hSx
                go_simp
                try with_reducible rfl
              try simp only [Act.put, List.setIfInBounds_toArray, List.set_cons_zero, List.set_cons_succ]
              refine wpAnyH_done (by kernel_rfl) ?_ _
              go_wp2_with fail
              refine ⟨⟨c + 1, by go_num, by omega, Lib.hid hHeld⟩, ?_⟩
              simp [intOf]; omega
          · have q3 : ((i : Int) == 9) = false := by rw [beq_eq_false_iff_ne]; omega
            clear h9
            by_cases k9 : c = 9
            · have q4 : ((c : Int) == 9) = true := by rw [beq_iff_eq]; omega
              clear k9
              go_upto_region 20 with (fail)
              refine wp_region_held_drew (S := fun W => AkS w3 W B2 gx (evs xs)) (by kernel_rfl) (HK3.out.later (Below.refl _ _).drew) (fun hHeld => ?_)
              have HC1 := Lib.hid (fun W h => HAH.out W ei s4 h hs1 hfs)
              have HC2 := Lib.hid (fun W h => HRA.out W ei s4 h hs1)
              have HC3 := Lib.hid (fun W h => HAP.out W ei s4 h hs1 hfs)
              have HC4 := Lib.hid (fun W h => HRP.out W ei s4 h hs1 hfs)
              generalize aheadB (evs xs) ei s4 = ab at HC1 HC2
              generalize apartB (evs xs) ei s4 = pb at HC3 HC4
              have n1 : (ab != ab) = false := bne_self_eq_false _
              have n2 : (pb != pb) = false := bne_self_eq_false _
              generalize World.drew _ = wd at hHeld ⊢
              refine wpAnyH_take (i := 0) (oi := ⟨some 45, _, _, _, _, _⟩) (v := ?vc0) rfl (by kernel_rfl) (by kernel_rfl) (by kernel_rfl) (fun _ _ _ h => h) (Or.inl ⟨by rfl, ?yc0⟩) hHeld ?rc0
              case yc0 =>
                intro wx hSx
                go_simp
                try with_reducible rfl
              try simp only [Act.put, List.setIfInBounds_toArray, List.set_cons_zero, List.set_cons_succ]
              refine wpAnyH_take (i := 1) (oi := ⟨some 46, _, _, _, _, _⟩) (v := ?vc1) rfl (by kernel_rfl) (by kernel_rfl) (by kernel_rfl) (fun _ _ _ h => h) (Or.inl ⟨by rfl, ?yc1⟩) hHeld ?rc1
              case yc1 =>
                intro wx hSx
                go_simp
                try with_reducible rfl
              try simp only [Act.put, List.setIfInBounds_toArray, List.set_cons_zero, List.set_cons_succ]
              refine wpAnyH_take (i := 2) (oi := ⟨some 47, _, _, _, _, _⟩) (v := ?vc2) rfl (by kernel_rfl) (by kernel_rfl) (by kernel_rfl) (fun _ _ _ h => h) (Or.inl ⟨by rfl, ?yc2⟩) hHeld ?rc2
              case yc2 =>
                intro wx hSx
                go_simp
                try with_reducible rfl
              try simp only [Act.put, List.setIfInBounds_toArray, List.set_cons_zero, List.set_cons_succ]
              refine wpAnyH_take (i := 4) (oi := ⟨some 49, _, _, _, _, _⟩) (v := ?vc4) rfl (by kernel_rfl) (by kernel_rfl) (by kernel_rfl) (fun _ _ _ h => h) (Or.inl ⟨by rfl, ?yc4⟩) hHeld ?rc4
              case yc4 =>
                intro wx hSx
                have p0 := cell_at (HXW.out _ hSx) 0
                have p1 := cell_at (HXW.out _ hSx) 1
                simp only [List.getElem?_toArray, List.getElem?_cons_succ, List.getElem?_cons_zero] at p0 p1
                go_simp
                try with_reducible rfl
              try simp only [Act.put, List.setIfInBounds_toArray, List.set_cons_zero, List.set_cons_succ]
              refine wpAnyH_take (i := 5) (oi := ⟨some 50, _, _, _, _, _⟩) (v := ?vc5) rfl (by kernel_rfl) (by kernel_rfl) (by kernel_rfl) (fun _ _ _ h => h) (Or.inl ⟨by rfl, ?yc5⟩) hHeld ?rc5
              case yc5 =>
                intro wx hSx
                go_simp
                try with_reducible rfl
              try simp only [Act.put, List.setIfInBounds_toArray, List.set_cons_zero, List.set_cons_succ]
              refine wpAnyH_take (i := 6) (oi := ⟨some 51, _, _, _, _, _⟩) (v := ?vc6) rfl (by kernel_rfl) (by kernel_rfl) (by kernel_rfl) (fun _ _ _ h => h) (Or.inl ⟨by rfl, ?yc6⟩) hHeld ?rc6
              case yc6 =>
                intro wx hSx
                go_simp
                try with_reducible rfl
              try simp only [Act.put, List.setIfInBounds_toArray, List.set_cons_zero, List.set_cons_succ]
              refine wpAnyH_ready (rs := [3]) (by kernel_rfl) (by simp) ?_
              refine AllReadyH.cons (o := ⟨some 48, _, _, _, _, _⟩) rfl (fun K hK => ?_) AllReadyH.nil
              go_simp
              refine (HC1.out _ hHeld).mono ?_
              rintro e wn ⟨rfl, hkn⟩
              refine hK.out _ _ hkn (fun hHeld => ?_)
              clear hK K hkn
              try simp only [Act.put, List.setIfInBounds_toArray, List.set_cons_zero, List.set_cons_succ]
              generalize wn = wd at hHeld ⊢
              refine wpAnyH_ready (rs := [7]) (by kernel_rfl) (by simp) ?_
              refine AllReadyH.cons (o := ⟨some 52, _, _, _, _, _⟩) rfl (fun K hK => ?_) AllReadyH.nil
              go_simp
              refine (HC2.out _ hHeld).mono ?_
              rintro e wn ⟨rfl, hkn⟩
              refine hK.out _ _ hkn (fun hHeld => ?_)
              clear hK K hkn
              try simp only [Act.put, List.setIfInBounds_toArray, List.set_cons_zero, List.set_cons_succ]
              generalize wn = wd at hHeld ⊢
              refine wpAnyH_take (i := 8) (oi := ⟨some 53, _, _, _, _, _⟩) (v := .bool false) rfl (by kernel_rfl) (by kernel_rfl) (by kernel_rfl) (fun _ _ _ h => h) (Or.inl ⟨by rfl, ?yc8⟩) hHeld ?rc8
              case yc8 =>
                intro wx hSx
                skip
                go_simp
                try with_reducible rfl
              try simp only [Act.put, List.setIfInBounds_toArray, List.set_cons_zero, List.set_cons_succ]
              refine wpAnyH_take (i := 9) (oi := ⟨some 54, _, _, _, _, _⟩) (v := ?vc9) rfl (by kernel_rfl) (by kernel_rfl) (by kernel_rfl) (fun _ _ _ h => h) (Or.inl ⟨by rfl, ?yc9⟩) hHeld ?rc9
              case yc9 =>
                intro wx hSx
                go_simp
                try with_reducible rfl
              try simp only [Act.put, List.setIfInBounds_toArray, List.set_cons_zero, List.set_cons_succ]
              refine wpAnyH_take (i := 10) (oi := ⟨some 55, _, _, _, _, _⟩) (v := ?vc10) rfl (by kernel_rfl) (by kernel_rfl) (by kernel_rfl) (fun _ _ _ h => h) (Or.inl ⟨by rfl, ?yc10⟩) hHeld ?rc10
              case yc10 =>
                intro wx hSx
                go_simp
                try with_reducible rfl
              try simp only [Act.put, List.setIfInBounds_toArray, List.set_cons_zero, List.set_cons_succ]
              refine wpAnyH_take (i := 11) (oi := ⟨some 56, _, _, _, _, _⟩) (v := ?vc11) rfl (by kernel_rfl) (by kernel_rfl) (by kernel_rfl) (fun _ _ _ h => h) (Or.inl ⟨by rfl, ?yc11⟩) hHeld ?rc11
              case yc11 =>
                intro wx hSx
                go_simp
                try with_reducible rfl
              try simp only [Act.put, List.setIfInBounds_toArray, List.set_cons_zero, List.set_cons_succ]
              refine wpAnyH_take (i := 12) (oi := ⟨some 57, _, _, _, _, _⟩) (v := ?vc12) rfl (by kernel_rfl) (by kernel_rfl) (by kernel_rfl) (fun _ _ _ h => h) (Or.inl ⟨by rfl, ?yc12⟩) hHeld ?rc12
              case yc12 =>
                intro wx hSx
                go_simp
                try with_reducible rfl
              try simp only [Act.put, List.setIfInBounds_toArray, List.set_cons_zero, List.set_cons_succ]
              refine wpAnyH_take (i := 14) (oi := ⟨some 59, _, _, _, _, _⟩) (v := ?vc14) rfl (by kernel_rfl) (by kernel_rfl) (by kernel_rfl) (fun _ _ _ h => h) (Or.inl ⟨by rfl, ?yc14⟩) hHeld ?rc14
              case yc14 =>
                intro wx hSx
                have p0 := cell_at (HXW.out _ hSx) 0
                have p1 := cell_at (HXW.out _ hSx) 1
                simp only [List.getElem?_toArray, List.getElem?_cons_succ, List.getElem?_cons_zero] at p0 p1
                go_simp
                try with_reducible rfl
              try simp only [Act.put, List.setIfInBounds_toArray, List.set_cons_zero, List.set_cons_succ]
              refine wpAnyH_take (i := 15) (oi := ⟨some 60, _, _, _, _, _⟩) (v := ?vc15) rfl (by kernel_rfl) (by kernel_rfl) (by kernel_rfl) (fun _ _ _ h => h) (Or.inl ⟨by rfl, ?yc15⟩) hHeld ?rc15
              case yc15 =>
                intro wx hSx
                go_simp
                try with_reducible rfl
              try simp only [Act.put, List.setIfInBounds_toArray, List.set_cons_zero, List.set_cons_succ]
              refine wpAnyH_take (i := 16) (oi := ⟨some 61, _, _, _, _, _⟩) (v := ?vc16) rfl (by kernel_rfl) (by kernel_rfl) (by kernel_rfl) (fun _ _ _ h => h) (Or.inl ⟨by rfl, ?yc16⟩) hHeld ?rc16
              case yc16 =>
                intro wx hSx
                go_simp
                try with_reducible rfl
              try simp only [Act.put, List.setIfInBounds_toArray, List.set_cons_zero, List.set_cons_succ]
              refine wpAnyH_ready (rs := [13]) (by kernel_rfl) (by simp) ?_
              refine AllReadyH.cons (o := ⟨some 58, _, _, _, _, _⟩) rfl (fun K hK => ?_) AllReadyH.nil
              go_simp
              refine (HC3.out _ hHeld).mono ?_
              rintro e wn ⟨rfl, hkn⟩
              refine hK.out _ _ hkn (fun hHeld => ?_)
              clear hK K hkn
              try simp only [Act.put, List.setIfInBounds_toArray, List.set_cons_zero, List.set_cons_succ]
              generalize wn = wd at hHeld ⊢
              refine wpAnyH_ready (rs := [17]) (by kernel_rfl) (by simp) ?_
              refine AllReadyH.cons (o := ⟨some 62, _, _, _, _, _⟩) rfl (fun K hK => ?_) AllReadyH.nil
              go_simp
              refine (HC4.out _ hHeld).mono ?_
              rintro e wn ⟨rfl, hkn⟩
              refine hK.out _ _ hkn (fun hHeld => ?_)
              clear hK K hkn
              try simp only [Act.put, List.setIfInBounds_toArray, List.set_cons_zero, List.set_cons_succ]
              generalize wn = wd at hHeld ⊢
              refine wpAnyH_take (i := 18) (oi := ⟨some 63, _, _, _, _, _⟩) (v := .bool false) rfl (by kernel_rfl) (by kernel_rfl) (by kernel_rfl) (fun _ _ _ h => h) (Or.inl ⟨by rfl, ?yc18⟩) hHeld ?rc18
              case yc18 =>
                intro wx hSx
                skip
                go_simp
                try with_reducible rfl
              try simp only [Act.put, List.setIfInBounds_toArray, List.set_cons_zero, List.set_cons_succ]
              refine wpAnyH_take (i := 19) (oi := ⟨some 64, _, _, _, _, _⟩) (v := ?vc19) rfl (by kernel_rfl) (by kernel_rfl) (by kernel_rfl) (fun _ _ _ h => h) (Or.inl ⟨by rfl, ?yc19⟩) hHeld ?rc19
              case yc19 =>
                intro wx hSx
                go_simp
                try with_reducible rfl
              try simp only [Act.put, List.setIfInBounds_toArray, List.set_cons_zero, List.set_cons_succ]
              refine wpAnyH_done (by kernel_rfl) ?_ _
              go_wp2_with fail
              refine ⟨⟨c + 1, by go_num, by omega, Lib.hid hHeld⟩, ?_⟩
              simp [intOf]; omega
            · have q4 : ((c : Int) == 9) = false := by rw [beq_eq_false_iff_ne]; omega
              clear k9
              go_upto_region 20 with (fail)
              refine wp_region_held_drew (S := fun W => AkS w3 W B2 gx (evs xs)) (by kernel_rfl) (HK3.out.later (Below.refl _ _).drew) (fun hHeld => ?_)
              have HC1 := Lib.hid (fun W h => HAH.out W ei ec h hs1 hs2)
              have HC2 := Lib.hid (fun W h => HRA.out W ei ec h hs1)
              have HC3 := Lib.hid (fun W h => HAP.out W ei ec h hs1 hs2)
              have HC4 := Lib.hid (fun W h => HRP.out W ei ec h hs1 hs2)
              generalize aheadB (evs xs) ei ec = ab at HC1 HC2
              generalize apartB (evs xs) ei ec = pb at HC3 HC4
              have n1 : (ab != ab) = false := bne_self_eq_false _
              have n2 : (pb != pb) = false := bne_self_eq_false _
              generalize World.drew _ = wd at hHeld ⊢
              refine wpAnyH_take (i := 0) (oi := ⟨some 45, _, _, _, _, _⟩) (v := ?vd0) rfl (by kernel_rfl) (by kernel_rfl) (by kernel_rfl) (fun _ _ _ h => h) (Or.inl ⟨by rfl, ?yd0⟩) hHeld ?rd0
              case yd0 =>
                intro wx hSx
                go_simp
                try with_reducible rfl
              try simp only [Act.put, List.setIfInBounds_toArray, List.set_cons_zero, List.set_cons_succ]
              refine wpAnyH_take (i := 1) (oi := ⟨some 46, _, _, _, _, _⟩) (v := ?vd1) rfl (by kernel_rfl) (by kernel_rfl) (by kernel_rfl) (fun _ _ _ h => h) (Or.inl ⟨by rfl, ?yd1⟩) hHeld ?rd1
              case yd1 =>
                intro wx hSx
                go_simp
                try with_reducible rfl
              try simp only [Act.put, List.setIfInBounds_toArray, List.set_cons_zero, List.set_cons_succ]
              refine wpAnyH_take (i := 2) (oi := ⟨some 47, _, _, _, _, _⟩) (v := ?vd2) rfl (by kernel_rfl) (by kernel_rfl) (by kernel_rfl) (fun _ _ _ h => h) (Or.inl ⟨by rfl, ?yd2⟩) hHeld ?rd2
              case yd2 =>
                intro wx hSx
                go_simp
                try with_reducible rfl
              try simp only [Act.put, List.setIfInBounds_toArray, List.set_cons_zero, List.set_cons_succ]
              refine wpAnyH_take (i := 4) (oi := ⟨some 49, _, _, _, _, _⟩) (v := ?vd4) rfl (by kernel_rfl) (by kernel_rfl) (by kernel_rfl) (fun _ _ _ h => h) (Or.inl ⟨by rfl, ?yd4⟩) hHeld ?rd4
              case yd4 =>
                intro wx hSx
                have p0 := cell_at (HXW.out _ hSx) 0
                have p1 := cell_at (HXW.out _ hSx) 1
                simp only [List.getElem?_toArray, List.getElem?_cons_succ, List.getElem?_cons_zero] at p0 p1
                go_simp
                try with_reducible rfl
              try simp only [Act.put, List.setIfInBounds_toArray, List.set_cons_zero, List.set_cons_succ]
              refine wpAnyH_take (i := 5) (oi := ⟨some 50, _, _, _, _, _⟩) (v := ?vd5) rfl (by kernel_rfl) (by kernel_rfl) (by kernel_rfl) (fun _ _ _ h => h) (Or.inl ⟨by rfl, ?yd5⟩) hHeld ?rd5
              case yd5 =>
                intro wx hSx
                go_simp
                try with_reducible rfl
              try simp only [Act.put, List.setIfInBounds_toArray, List.set_cons_zero, List.set_cons_succ]
              refine wpAnyH_take (i := 6) (oi := ⟨some 51, _, _, _, _, _⟩) (v := ?vd6) rfl (by kernel_rfl) (by kernel_rfl) (by kernel_rfl) (fun _ _ _ h => h) (Or.inl ⟨by rfl, ?yd6⟩) hHeld ?rd6
              case yd6 =>
                intro wx hSx
                go_simp
                try with_reducible rfl
              try simp only [Act.put, List.setIfInBounds_toArray, List.set_cons_zero, List.set_cons_succ]
              refine wpAnyH_ready (rs := [3]) (by kernel_rfl) (by simp) ?_
              refine AllReadyH.cons (o := ⟨some 48, _, _, _, _, _⟩) rfl (fun K hK => ?_) AllReadyH.nil
              go_simp
              refine (HC1.out _ hHeld).mono ?_
              rintro e wn ⟨rfl, hkn⟩
              refine hK.out _ _ hkn (fun hHeld => ?_)
              clear hK K hkn
              try simp only [Act.put, List.setIfInBounds_toArray, List.set_cons_zero, List.set_cons_succ]
              generalize wn = wd at hHeld ⊢
              refine wpAnyH_ready (rs := [7]) (by kernel_rfl) (by simp) ?_
              refine AllReadyH.cons (o := ⟨some 52, _, _, _, _, _⟩) rfl (fun K hK => ?_) AllReadyH.nil
              go_simp
              refine (HC2.out _ hHeld).mono ?_
              rintro e wn ⟨rfl, hkn⟩
              refine hK.out _ _ hkn (fun hHeld => ?_)
              clear hK K hkn
              try simp only [Act.put, List.setIfInBounds_toArray, List.set_cons_zero, List.set_cons_succ]
              generalize wn = wd at hHeld ⊢
              refine wpAnyH_take (i := 8) (oi := ⟨some 53, _, _, _, _, _⟩) (v := .bool false) rfl (by kernel_rfl) (by kernel_rfl) (by kernel_rfl) (fun _ _ _ h => h) (Or.inl ⟨by rfl, ?yd8⟩) hHeld ?rd8
              case yd8 =>
                intro wx hSx
                skip
                go_simp
                try with_reducible rfl
              try simp only [Act.put, List.setIfInBounds_toArray, List.set_cons_zero, List.set_cons_succ]
              refine wpAnyH_take (i := 9) (oi := ⟨some 54, _, _, _, _, _⟩) (v := ?vd9) rfl (by kernel_rfl) (by kernel_rfl) (by kernel_rfl) (fun _ _ _ h => h) (Or.inl ⟨by rfl, ?yd9⟩) hHeld ?rd9
              case yd9 =>
                intro wx hSx
                go_simp
                try with_reducible rfl
              try simp only [Act.put, List.setIfInBounds_toArray, List.set_cons_zero, List.set_cons_succ]
              refine wpAnyH_take (i := 10) (oi := ⟨some 55, _, _, _, _, _⟩) (v := ?vd10) rfl (by kernel_rfl) (by kernel_rfl) (by kernel_rfl) (fun _ _ _ h => h) (Or.inl ⟨by rfl, ?yd10⟩) hHeld ?rd10
              case yd10 =>
                intro wx hSx
                go_simp
                try with_reducible rfl
              try simp only [Act.put, List.setIfInBounds_toArray, List.set_cons_zero, List.set_cons_succ]
              refine wpAnyH_take (i := 11) (oi := ⟨some 56, _, _, _, _, _⟩) (v := ?vd11) rfl (by kernel_rfl) (by kernel_rfl) (by kernel_rfl) (fun _ _ _ h => h) (Or.inl ⟨by rfl, ?yd11⟩) hHeld ?rd11
              case yd11 =>
                intro wx hSx
                go_simp
                try with_reducible rfl
              try simp only [Act.put, List.setIfInBounds_toArray, List.set_cons_zero, List.set_cons_succ]
              refine wpAnyH_take (i := 12) (oi := ⟨some 57, _, _, _, _, _⟩) (v := ?vd12) rfl (by kernel_rfl) (by kernel_rfl) (by kernel_rfl) (fun _ _ _ h => h) (Or.inl ⟨by rfl, ?yd12⟩) hHeld ?rd12
              case yd12 =>
                intro wx hSx
                go_simp
                try with_reducible rfl
              try simp only [Act.put, List.setIfInBounds_toArray, List.set_cons_zero, List.set_cons_succ]
              refine wpAnyH_take (i := 14) (oi := ⟨some 59, _, _, _, _, _⟩) (v := ?vd14) rfl (by kernel_rfl) (by kernel_rfl) (by kernel_rfl) (fun _ _ _ h => h) (Or.inl ⟨by rfl, ?yd14⟩) hHeld ?rd14
              case yd14 =>
                intro wx hSx
                have p0 := cell_at (HXW.out _ hSx) 0
                have p1 := cell_at (HXW.out _ hSx) 1
                simp only [List.getElem?_toArray, List.getElem?_cons_succ, List.getElem?_cons_zero] at p0 p1
                go_simp
                try with_reducible rfl
              try simp only [Act.put, List.setIfInBounds_toArray, List.set_cons_zero, List.set_cons_succ]
              refine wpAnyH_take (i := 15) (oi := ⟨some 60, _, _, _, _, _⟩) (v := ?vd15) rfl (by kernel_rfl) (by kernel_rfl) (by kernel_rfl) (fun _ _ _ h => h) (Or.inl ⟨by rfl, ?yd15⟩) hHeld ?rd15
              case yd15 =>
                intro wx hSx
                go_simp
                try with_reducible rfl
              try simp only [Act.put, List.setIfInBounds_toArray, List.set_cons_zero, List.set_cons_succ]
              refine wpAnyH_take (i := 16) (oi := ⟨some 61, _, _, _, _, _⟩) (v := ?vd16) rfl (by kernel_rfl) (by kernel_rfl) (by kernel_rfl) (fun _ _ _ h => h) (Or.inl ⟨by rfl, ?yd16⟩) hHeld ?rd16
              case yd16 =>
                intro wx hSx
                go_simp
                try with_reducible rfl
              try simp only [Act.put, List.setIfInBounds_toArray, List.set_cons_zero, List.set_cons_succ]
              refine wpAnyH_ready (rs := [13]) (by kernel_rfl) (by simp) ?_
              refine AllReadyH.cons (o := ⟨some 58, _, _, _, _, _⟩) rfl (fun K hK => ?_) AllReadyH.nil
              go_simp
              refine (HC3.out _ hHeld).mono ?_
              rintro e wn ⟨rfl, hkn⟩
              refine hK.out _ _ hkn (fun hHeld => ?_)
              clear hK K hkn
              try simp only [Act.put, List.setIfInBounds_toArray, List.set_cons_zero, List.set_cons_succ]
              generalize wn = wd at hHeld ⊢
              refine wpAnyH_ready (rs := [17]) (by kernel_rfl) (by simp) ?_
              refine AllReadyH.cons (o := ⟨some 62, _, _, _, _, _⟩) rfl (fun K hK => ?_) AllReadyH.nil
              go_simp
              refine (HC4.out _ hHeld).mono ?_
              rintro e wn ⟨rfl, hkn⟩
              refine hK.out _ _ hkn (fun hHeld => ?_)
              clear hK K hkn
              try simp only [Act.put, List.setIfInBounds_toArray, List.set_cons_zero, List.set_cons_succ]
              generalize wn = wd at hHeld ⊢
              refine wpAnyH_take (i := 18) (oi := ⟨some 63, _, _, _, _, _⟩) (v := .bool false) rfl (by kernel_rfl) (by kernel_rfl) (by kernel_rfl) (fun _ _ _ h => h) (Or.inl ⟨by rfl, ?yd18⟩) hHeld ?rd18
              case yd18 =>
                intro wx hSx
                skip
                go_simp
                try with_reducible rfl
              try simp only [Act.put, List.setIfInBounds_toArray, List.set_cons_zero, List.set_cons_succ]
              refine wpAnyH_take (i := 19) (oi := ⟨some 64, _, _, _, _, _⟩) (v := ?vd19) rfl (by kernel_rfl) (by kernel_rfl) (by kernel_rfl) (fun _ _ _ h => h) (Or.inl ⟨by rfl, ?yd19⟩) hHeld ?rd19
              case yd19 =>
                intro wx hSx
                go_simp
                try with_reducible rfl
              try simp only [Act.put, List.setIfInBounds_toArray, List.set_cons_zero, List.set_cons_succ]
              refine wpAnyH_done (by kernel_rfl) ?_ _
              go_wp2_with fail
              refine ⟨⟨c + 1, by go_num, by omega, Lib.hid hHeld⟩, ?_⟩
              simp [intOf]; omega
        · have q2 : decide ((c : Int) < 10) = false := decide_eq_false (by omega)
          go_wp2_with fail
          refine ⟨⟨i + 1, by go_num, by omega, HK⟩, ?_⟩
          simp [intOf]; omega
    · have q1 : decide ((i : Int) < 10) = false := decide_eq_false (by omega)
      go_upto_region 22 with (fail)
      refine wp_region_held_drew (S := fun W => AkS w3 W B2 gx (evs xs)) (by kernel_rfl) (HI.out.later (Below.refl _ _).drew) (fun hHeld => ?_)
      have HLN : Hid (∀ W, AkS w3 W B2 gx (evs xs) → Calls Tryz.prog 16 #[.pointer (some ⟨gx, 0, none⟩)] W fun e w' => e = .returned (.int .i64 (xs.length : Int)) ∧ w' = W) := Lib.hid (fun W h => by
        obtain ⟨P, h1, h2⟩ := h.is
        have := lenX_any W h1
        rw [evs_len] at this
        exact this)
      have q5 : ((xs.length : Int) == (xs.length : Int)) = true := beq_self_eq_true _
      generalize wi.drew = wd at hHeld ⊢
      refine wpAnyH_take (i := 0) (oi := ⟨some 65, _, _, _, _, _⟩) (v := ?vz0) rfl (by kernel_rfl) (by kernel_rfl) (by kernel_rfl) (fun _ _ _ h => h) (Or.inl ⟨by rfl, ?yz0⟩) hHeld ?rz0
      case yz0 =>
        intro wx hSx
        go_simp
        try with_reducible rfl
      try simp only [Act.put, List.setIfInBounds_toArray, List.set_cons_zero, List.set_cons_succ]
      refine wpAnyH_take (i := 2) (oi := ⟨some 67, _, _, _, _, _⟩) (v := ?vz2) rfl (by kernel_rfl) (by kernel_rfl) (by kernel_rfl) (fun _ _ _ h => h) (Or.inl ⟨by rfl, ?yz2⟩) hHeld ?rz2
      case yz2 =>
        intro wx hSx
        go_simp
        try with_reducible rfl
      try simp only [Act.put, List.setIfInBounds_toArray, List.set_cons_zero, List.set_cons_succ]
      refine wpAnyH_take (i := 3) (oi := ⟨some 68, _, _, _, _, _⟩) (v := ?vz3) rfl (by kernel_rfl) (by kernel_rfl) (by kernel_rfl) (fun _ _ _ h => h) (Or.inl ⟨by rfl, ?yz3⟩) hHeld ?rz3
      case yz3 =>
        intro wx hSx
        have p0 := cell_at (HXW.out _ hSx) 0
        have p1 := cell_at (HXW.out _ hSx) 1
        simp only [List.getElem?_toArray, List.getElem?_cons_succ, List.getElem?_cons_zero] at p0 p1
        go_simp
        try with_reducible rfl
      try simp only [Act.put, List.setIfInBounds_toArray, List.set_cons_zero, List.set_cons_succ]
      refine wpAnyH_take (i := 4) (oi := ⟨some 69, _, _, _, _, _⟩) (v := ?vz4) rfl (by kernel_rfl) (by kernel_rfl) (by kernel_rfl) (fun _ _ _ h => h) (Or.inl ⟨by rfl, ?yz4⟩) hHeld ?rz4
      case yz4 =>
        intro wx hSx
        go_simp
        try with_reducible rfl
      try simp only [Act.put, List.setIfInBounds_toArray, List.set_cons_zero, List.set_cons_succ]
      refine wpAnyH_ready (rs := [1]) (by kernel_rfl) (by simp) ?_
      refine AllReadyH.cons (o := ⟨some 66, _, _, _, _, _⟩) rfl (fun K hK => ?_) AllReadyH.nil
      go_simp
      refine (HLN.out _ hHeld).mono ?_
      rintro e wn ⟨rfl, rfl⟩
      refine hK.out _ _ hHeld (fun hHeld => ?_)
      clear hK K
      try simp only [Act.put, List.setIfInBounds_toArray, List.set_cons_zero, List.set_cons_succ]
      refine wpAnyH_take (i := 5) (oi := ⟨some 70, _, _, _, _, _⟩) (v := .bool true) rfl (by kernel_rfl) (by kernel_rfl) (by kernel_rfl) (fun _ _ _ h => h) (Or.inl ⟨by rfl, ?yz5⟩) hHeld ?rz5
      case yz5 =>
        intro wx hSx
        skip
        go_simp
        try with_reducible rfl
      try simp only [Act.put, List.setIfInBounds_toArray, List.set_cons_zero, List.set_cons_succ]
      refine wpAnyH_take (i := 6) (oi := ⟨some 71, _, _, _, _, _⟩) (v := ?vz6) rfl (by kernel_rfl) (by kernel_rfl) (by kernel_rfl) (fun _ _ _ h => h) (Or.inl ⟨by rfl, ?yz6⟩) hHeld ?rz6
      case yz6 =>
        intro wx hSx
        go_simp
        try with_reducible rfl
      try simp only [Act.put, List.setIfInBounds_toArray, List.set_cons_zero, List.set_cons_succ]
      refine wpAnyH_ready (rs := [7]) (by kernel_rfl) (by simp) ?_
      refine AllReadyH.cons (o := ⟨some 72, _, _, _, _, _⟩) rfl (fun K hK => ?_) AllReadyH.nil
      have hTW := HT3.out.below hHeld.below (by omega)
      go_simp
      refine (HZ.out _ hTW).mono ?_
      rintro e wn2 ⟨rfl, hbl⟩
      refine hK.out _ _ (hHeld.later hbl) (fun hHeld => ?_)
      clear hK K hbl hTW
      try simp only [Act.put, List.setIfInBounds_toArray, List.set_cons_zero, List.set_cons_succ]
      refine wpAnyH_take (i := 8) (oi := ⟨some 73, _, _, _, _, _⟩) (v := ?vz8) rfl (by kernel_rfl) (by kernel_rfl) (by kernel_rfl) (fun _ _ _ h => h) (Or.inl ⟨by rfl, ?yz8⟩) hHeld ?rz8
      case yz8 =>
        intro wx hSx
        go_simp
        try with_reducible rfl
      try simp only [Act.put, List.setIfInBounds_toArray, List.set_cons_zero, List.set_cons_succ]
      refine wpAnyH_take (i := 9) (oi := ⟨some 4, _, _, _, _, _⟩) (v := ?vz9) rfl (by kernel_rfl) (by kernel_rfl) (by kernel_rfl) (fun _ _ _ h => h) (Or.inl ⟨by rfl, ?yz9⟩) hHeld ?rz9
      case yz9 =>
        intro wx hSx
        go_simp
        try with_reducible rfl
      try simp only [Act.put, List.setIfInBounds_toArray, List.set_cons_zero, List.set_cons_succ]
      refine wpAnyH_done (by kernel_rfl) ?_ _
      go_wp2_with fail
      go_ret
      exact ⟨rfl, HD3.out.below.trans (hHeld.below.mono hws)⟩
end Go.Proofs.YtflgpdkdflhhgaaGreatDoor
