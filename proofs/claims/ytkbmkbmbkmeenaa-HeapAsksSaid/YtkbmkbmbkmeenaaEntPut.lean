/-
  The document's heap: At, Put.
-/
import Derived.Test.YtkbmkbmbkmeenaaEntRef
namespace Go.Proofs.Ytkbmkbmbkmeenaa
set_option maxRecDepth 20000
open Go.RowKit
set_option linter.unusedVariables false
set_option linter.unusedSimpArgs false

theorem refAt_any (g : Nat) (l : List Ent) (k : ByteArray) (w : World) (h : RefH w g l) (hl : l.length ≤ 1000) :
    Calls Try.prog 20 #[.pointer (some ⟨g, 0, none⟩), .string k] w fun e w' => e = .returned (.tuple #[.int .i64 (tickL k l), .bool (hasL k l)]) ∧ w = w' := by
  have H := Lib.hid h
  obtain ⟨⟨v, hh, hm⟩, hok⟩ := h
  have c0 : w.cell? ⟨g, 0, none⟩ = some v := cell_at hh 0
  have HM := Lib.hid hm
  obtain ⟨A, cap, rfl, h1, h2, h3⟩ := hm.shape
  unfold maxLen at h2
  clear hh hm hok h3
  go_enter Try.func20, Try.ntmps20
  go_wp2_with fail
  go_loop [6] (fun i => ∃ j : Nat, j ≤ l.length ∧ i = .int .i64 (j : Int) ∧ Hid (∀ (a : Nat) y, a < j → l[a]? = some y → y.key ≠ k)) (fun i => l.length - (intOf i).toNat)
  case atStart => exact ⟨0, by omega, rfl, Lib.hid (fun a y ha _ => by omega)⟩
  case round =>
    obtain ⟨j, hj, rfl, HJ⟩ := hrel
    by_cases hlt : j < l.length
    · have q1 : decide ((j : Int) < (l.length : Int)) = true := decide_eq_true (by omega)
      have hx : l[j]? = some l[j] := List.getElem?_eq_getElem hlt
      generalize l[j] = x at hx
      obtain ⟨b, off, rfl, hb, hr⟩ := HM.out.slice.at hx
      obtain ⟨d0, d1⟩ := range2 hr
      have hi := index_any (P := Try.prog) knE (by decide) (b := b) (off := off) (cap := cap) hlt
      have Hx := Lib.hid hx
      clear hx hr
      simp only [LE] at d0 d1 hi
      by_cases hk : x.key = k
      · have q2 : (x.key.toList == k.toList) = true := by rw [keyB]; exact decide_eq_true hk
        obtain ⟨e1, e2, e3⟩ := drop_hit HJ.out Hx.out hk
        replace hk := Lib.hid hk
        have HE := Lib.hid e3
        have HB := Lib.hid e2
        clear e1 e2 e3
        go_wp2_with fail
        go_ret2
        rw [HB.out, HE.out]
        exact ⟨rfl, rfl⟩
      · have q2 : (x.key.toList == k.toList) = false := by rw [keyB]; exact decide_eq_false hk
        have HJ2 : Hid (∀ (a : Nat) y, a < j + 1 → l[a]? = some y → y.key ≠ k) := Lib.hid (fun a y ha hy => by
          by_cases haj : a < j
          · exact HJ.out a y haj hy
          · obtain rfl : a = j := by omega
            rw [Hx.out] at hy
            injection hy with hy
            rw [← hy]
            exact hk)
        replace hk := Lib.hid hk
        go_wp2_with fail
        refine ⟨⟨j + 1, by omega, by go_num, HJ2⟩, ?_⟩
        simp [intOf]; omega
    · have q1 : decide ((j : Int) < (l.length : Int)) = false := decide_eq_false (by omega)
      obtain ⟨e1, e2, e3⟩ := drop_miss (l := l) (k := k) (fun a y hy => HJ.out a y (by have := (List.getElem?_eq_some_iff.1 hy).1; omega) hy)
      have HE := Lib.hid e3
      have HB := Lib.hid e2
      clear e1 e2 e3
      go_wp2_with fail
      go_ret2
      rw [HB.out, HE.out]
      exact ⟨rfl, rfl⟩

theorem fill_ent (x : Ent) : Instr.fill (fun i => some (i * 2, 2)) ((Array.range (1 * 2)).map ((Value.agg #[.int .i64 0, .string ⟨#[]⟩]).cells[· % (Value.agg #[.int .i64 0, .string ⟨#[]⟩]).cells.size]!)) [(0, .agg #[.int .i64 x.tick, .string x.key])] = some #[.int .i64 x.tick, .string x.key] := by
  cases x
  kernel_rfl
theorem build_ent (x : Ent) (w : World) : (Instr.buildSlice 26 1 #[(0, .agg #[.int .i64 x.tick, .string x.key])]).run Try.prog w = .ok (.slice (some ⟨w.heap.size, 0, none⟩) 1 1) (w.alloc (.cells #[.int .i64 x.tick, .string x.key] 44)) := by
  obtain ⟨i0, hi0, hz0, hz1, hz2⟩ := info_parts knE.info
  refine run_buildSlice w 26 44 1 _ _ i0 _ Try.underlying26 hi0 hz0 (by rw [hz1]; decide) (by rw [hz1]; decide) ?_
  rw [hz1]
  exact fill_ent x
/-- The slice of one that append is handed. -/
theorem lit_slice {α : Type} {L : Lies α} (w : World) (x : α) (B : Nat) (hB : B = w.heap.size) (cs : Array Value) (hc : cs.toList = L.cl x) : L.Slice (w.alloc (.cells cs L.e)) (.slice (some ⟨B, 0, none⟩) 1 1) [x] := by
  subst hB
  refine ⟨_, 1, rfl, Nat.le_refl _, by unfold maxLen; omega, (fun e => by cases e), fun _ => ⟨_, 0, rfl, by simp, fun j u hu => ?_⟩⟩
  rw [Nat.zero_add, cell_of_row _ _ _ _ _ _ (heap_alloc_new w _), ← Array.getElem?_toList, hc]
  rw [L.vs_sing] at hu
  exact hu

set_option maxHeartbeats 1600000 in
theorem refPut_any (g : Nat) (l : List Ent) (x : Ent) (w : World) (h : RefH w g l) (hl : l.length ≤ 900) (hx : x.ok) :
    Calls Try.prog 24 #[.pointer (some ⟨g, 0, none⟩), .int .i64 x.tick, .string x.key] w fun e w' => e = .returned (.tuple #[]) ∧ RefH w' g (putL x l) ∧ w.grownBy w' (some g) := by
  have H := Lib.hid h
  have HK := Lib.hid hx
  have HP := Lib.hid (show putL x l = insL x (dropL x.key l) from rfl)
  have hlen := drop_len x.key l
  clear h hx
  go_enter Try.func24, Try.ntmps24
  go_wp2_with fail
  go_at_call 22
  refine (refDrop_any g l x.key w H.out (by omega)).mono ?_
  rintro e wd ⟨rfl, hd, gd⟩
  replace gd := Lib.hid gd
  generalize dropL x.key l = d at hd HP hlen
  replace H := Lib.hid hd
  obtain ⟨⟨v, hh, hm⟩, hok⟩ := hd
  have c0 : wd.cell? ⟨g, 0, none⟩ = some v := cell_at hh 0
  have HM := Lib.hid hm
  have HH := Lib.hid hh
  obtain ⟨A, cap, rfl, h1, h2, h3⟩ := hm.shape
  unfold maxLen at h2
  clear hh hm hok h3
  go_wp2_with fail
  go_loop [6] (fun i => ∃ j : Nat, j ≤ d.length ∧ i = .int .i64 (j : Int) ∧ Hid (∀ (a : Nat) y, a < j → d[a]? = some y → beforeB y x = true)) (fun i => d.length - (intOf i).toNat)
  case atStart => exact ⟨0, by omega, rfl, Lib.hid (fun a y ha _ => by omega)⟩
  case round =>
    obtain ⟨j, hj, rfl, HJ⟩ := hrel
    by_cases hlt : j < d.length
    · have q1 : decide ((j : Int) < (d.length : Int)) = true := decide_eq_true (by omega)
      have hy : d[j]? = some d[j] := List.getElem?_eq_getElem hlt
      generalize d[j] = y at hy
      obtain ⟨b, off, rfl, hb, hr⟩ := HM.out.slice.at hy
      obtain ⟨d0, d1⟩ := range2 hr
      have hi := index_any (P := Try.prog) knE (by decide) (b := b) (off := off) (cap := cap) hlt
      have Hy := Lib.hid hy
      clear hy hr
      simp only [LE] at d0 d1 hi
      have HJ2 : beforeB y x = true → Hid (∀ (a : Nat) z, a < j + 1 → d[a]? = some z → beforeB z x = true) := fun hb => Lib.hid (fun a z ha hz => by
        by_cases haj : a < j
        · exact HJ.out a z haj hz
        · obtain rfl : a = j := by omega
          rw [Hy.out] at hz
          injection hz with hz
          rw [← hz]
          exact hb)
      have HS : beforeB y x = false → Hid (∀ z, d[j]? = some z → beforeB z x = false) := fun hb => Lib.hid (fun z hz => by
        rw [Hy.out] at hz
        injection hz with hz
        rw [← hz]
        exact hb)
      rcases Int.lt_trichotomy y.tick x.tick with ht | ht | ht
      · have q2 : decide (y.tick < x.tick) = true := decide_eq_true ht
        replace HJ2 := HJ2 (by simp [beforeB, ht])
        clear HS
        go_wp2_with fail
        refine ⟨⟨j + 1, by omega, by go_num, HJ2⟩, ?_⟩
        simp [intOf]; omega
      · have q2 : decide (y.tick < x.tick) = false := decide_eq_false (by omega)
        have q3 : (y.tick == x.tick) = true := by rw [beq_iff_eq]; exact ht
        cases hbl : Op.bytesLess y.key.toList x.key.toList
        · replace HS := HS (by simp [beforeB, ht, hbl])
          clear HJ2
          replace ht := Lib.hid ht
          have HI := Lib.hid (ins_at HJ.out hj HS.out)
          have hgB := H.out.lt
          have hl1 : (d.take j).length = j := by rw [List.length_take]; omega
          have hl2 : (d.drop j).length = d.length - j := by rw [List.length_drop]
          have hs1 := slice_high (P := Try.prog) knE (some ⟨b, off, none⟩) d.length cap j (by omega)
          have hs2 := slice_low (P := Try.prog) knE (some ⟨b, off, none⟩) d.length cap j (by omega)
          have M1 := Lib.hid (HM.out.sub 0 j (Nat.zero_le _) (by omega)).slice
          have M2 := Lib.hid (HM.out.sub j d.length (by omega) (Nat.le_refl _)).slice
          rw [List.drop_zero] at M1
          rw [List.take_length] at M2
          have OV := Lib.hid (fun q hq => ((HM.out.sub j d.length (by omega) (Nat.le_refl _)).lt q hq).2)
          generalize sliced (some ⟨b, off, none⟩) 0 j cap LE.c = V1 at hs1 M1
          generalize sliced (some ⟨b, off, none⟩) j d.length cap LE.c = V2 at hs2 M2 OV
          have HL1 := Lib.hid hl1
          have HL2 := Lib.hid hl2
          clear hl1 hl2
          go_upto_region 6 with (at_builtin; refine wpList_putsB rfl knE (.tmp 56) (.tmp 62) 26 rfl (.slice none 0 0) rfl [] (Lies.Mine.nil wd wd.heap.size) (Nat.le_refl _) V1 (d.take j) j HL1.out rfl (M1.out.srcN knE HL1.out) j (by simp) (by omega) (d.take j) rfl ?_; intro A3 cap3 w1 m1 b1)
          have hsz := b1.size
          have c1 : w1.cell? ⟨g, 0, none⟩ = some (.slice (some ⟨b, off, none⟩) d.length cap) := (b1.cell (p := ⟨g, 0, none⟩) hgB).trans c0
          replace M2 := Lib.hid (M2.out.below b1)
          replace m1 := Lib.hid m1
          replace b1 := Lib.hid b1
          clear M1 hs1 c0
          have hbd := build_ent x
          have ha1 : Hid (Below w1.heap.size w1 (w1.alloc (.cells #[.int .i64 x.tick, .string x.key] 44))) := Lib.hid ((Below.refl _ _).alloc (Nat.le_refl _) _)
          have ha2 : Hid (w1.heap.size + 1 = (w1.alloc (.cells #[.int .i64 x.tick, .string x.key] 44)).heap.size) := Lib.hid (by simp)
          have hlit := Lib.hid (lit_slice (L := LE) w1 x w1.heap.size rfl #[.int .i64 x.tick, .string x.key] rfl)
          simp only [LE] at hlit
          go_upto_region 7 with (at_builtin; refine wpList_putsB rfl knE (.tmp 64) (.tmp 68) 26 rfl (.slice A3 j cap3) rfl (d.take j) (m1.out.below ha1.out) (Nat.le_trans hsz ha1.out.size) (.slice (some ⟨w1.heap.size, 0, none⟩) 1 1) [x] 1 rfl rfl (hlit.out.srcN knE rfl) (j + 1) (by rw [HL1.out]) (by omega) (d.take j ++ [x]) rfl ?_; intro A4 cap4 w2 m2 b2; have hh2 := (b2.block g hgB).trans ((ha1.out.block g (by omega)).trans ((b1.out.block g hgB).trans HH.out)); have c2 : w2.cell? ⟨g, 0, none⟩ = some (.slice (some ⟨b, off, none⟩) d.length cap) := cell_at hh2 0; replace hh2 := Lib.hid hh2)
          have hsz2 : wd.heap.size ≤ w2.heap.size := Nat.le_trans hsz (Nat.le_trans ha1.out.size b2.size)
          replace M2 := Lib.hid ((M2.out.below ha1.out).under b2 OV.out)
          replace b2 := Lib.hid ((b1.out.trans (ha1.out.mono hsz)).trans b2)
          replace m2 := Lib.hid m2
          clear b1 m1 ha1 ha2 hlit hbd c1 hsz
          go_upto_region 8 with (at_builtin; refine wpList_putsB rfl knE (.tmp 71) (.tmp 77) 26 rfl (.slice A4 (j + 1) cap4) rfl (d.take j ++ [x]) m2.out hsz2 V2 (d.drop j) (d.length - j) HL2.out rfl (M2.out.srcN knE HL2.out) (d.length + 1) (by rw [List.length_append, HL1.out, List.length_singleton]; omega) (by omega) (d.take j ++ x :: d.drop j) (by simp) ?_; intro A5 cap5 w3 m3 b3; have hh3 := (b3.block g hgB).trans hh2.out; have c3 : w3.cell? ⟨g, 0, none⟩ = some (.slice (some ⟨b, off, none⟩) d.length cap) := cell_at hh3 0; have f3 := free_at hh3 0; replace hh3 := Lib.hid hh3; replace m3 := Lib.hid m3; replace b3 := Lib.hid b3)
          go_wp2_with fail
          go_end0
          rw [HP.out, HI.out]
          refine ⟨rfl, ⟨⟨_, heap_set hh3.out 0 _, ?_⟩, fun y hy => ?_⟩, grown_trans gd.out (grown_trans (grown_below (b2.out.trans b3.out) g) (grown_set _ _ _ _))⟩
          · exact (m3.out.grown (grown_set w3 g 0 _) (fun q hq e => by injection e with e; have := (m3.out.lt q hq).1; omega)).mono (Nat.zero_le _)
          · rw [← HI.out] at hy
            rcases ins_mem hy with rfl | hy
            · exact HK.out
            · exact H.out.2 y hy
        · replace HJ2 := HJ2 (by simp [beforeB, ht, hbl])
          clear HS
          replace ht := Lib.hid ht
          go_wp2_with fail
          refine ⟨⟨j + 1, by omega, by go_num, HJ2⟩, ?_⟩
          simp [intOf]; omega
      · have q2 : decide (y.tick < x.tick) = false := decide_eq_false (by omega)
        have q3 : (y.tick == x.tick) = false := by rw [beq_eq_false_iff_ne]; omega
        replace HS := HS (by have h4 : ¬ y.tick = x.tick := (by omega); have h5 : ¬ y.tick < x.tick := (by omega); simp [beforeB, h4, h5])
        clear HJ2
        have HI := Lib.hid (ins_at HJ.out hj HS.out)
        have hgB := H.out.lt
        have hl1 : (d.take j).length = j := by rw [List.length_take]; omega
        have hl2 : (d.drop j).length = d.length - j := by rw [List.length_drop]
        have hs1 := slice_high (P := Try.prog) knE (some ⟨b, off, none⟩) d.length cap j (by omega)
        have hs2 := slice_low (P := Try.prog) knE (some ⟨b, off, none⟩) d.length cap j (by omega)
        have M1 := Lib.hid (HM.out.sub 0 j (Nat.zero_le _) (by omega)).slice
        have M2 := Lib.hid (HM.out.sub j d.length (by omega) (Nat.le_refl _)).slice
        rw [List.drop_zero] at M1
        rw [List.take_length] at M2
        have OV := Lib.hid (fun q hq => ((HM.out.sub j d.length (by omega) (Nat.le_refl _)).lt q hq).2)
        generalize sliced (some ⟨b, off, none⟩) 0 j cap LE.c = V1 at hs1 M1
        generalize sliced (some ⟨b, off, none⟩) j d.length cap LE.c = V2 at hs2 M2 OV
        have HL1 := Lib.hid hl1
        have HL2 := Lib.hid hl2
        clear hl1 hl2
        go_upto_region 6 with (at_builtin; refine wpList_putsB rfl knE (.tmp 56) (.tmp 62) 26 rfl (.slice none 0 0) rfl [] (Lies.Mine.nil wd wd.heap.size) (Nat.le_refl _) V1 (d.take j) j HL1.out rfl (M1.out.srcN knE HL1.out) j (by simp) (by omega) (d.take j) rfl ?_; intro A3 cap3 w1 m1 b1)
        have hsz := b1.size
        have c1 : w1.cell? ⟨g, 0, none⟩ = some (.slice (some ⟨b, off, none⟩) d.length cap) := (b1.cell (p := ⟨g, 0, none⟩) hgB).trans c0
        replace M2 := Lib.hid (M2.out.below b1)
        replace m1 := Lib.hid m1
        replace b1 := Lib.hid b1
        clear M1 hs1 c0
        have hbd := build_ent x
        have ha1 : Hid (Below w1.heap.size w1 (w1.alloc (.cells #[.int .i64 x.tick, .string x.key] 44))) := Lib.hid ((Below.refl _ _).alloc (Nat.le_refl _) _)
        have ha2 : Hid (w1.heap.size + 1 = (w1.alloc (.cells #[.int .i64 x.tick, .string x.key] 44)).heap.size) := Lib.hid (by simp)
        have hlit := Lib.hid (lit_slice (L := LE) w1 x w1.heap.size rfl #[.int .i64 x.tick, .string x.key] rfl)
        simp only [LE] at hlit
        go_upto_region 7 with (at_builtin; refine wpList_putsB rfl knE (.tmp 64) (.tmp 68) 26 rfl (.slice A3 j cap3) rfl (d.take j) (m1.out.below ha1.out) (Nat.le_trans hsz ha1.out.size) (.slice (some ⟨w1.heap.size, 0, none⟩) 1 1) [x] 1 rfl rfl (hlit.out.srcN knE rfl) (j + 1) (by rw [HL1.out]) (by omega) (d.take j ++ [x]) rfl ?_; intro A4 cap4 w2 m2 b2; have hh2 := (b2.block g hgB).trans ((ha1.out.block g (by omega)).trans ((b1.out.block g hgB).trans HH.out)); have c2 : w2.cell? ⟨g, 0, none⟩ = some (.slice (some ⟨b, off, none⟩) d.length cap) := cell_at hh2 0; replace hh2 := Lib.hid hh2)
        have hsz2 : wd.heap.size ≤ w2.heap.size := Nat.le_trans hsz (Nat.le_trans ha1.out.size b2.size)
        replace M2 := Lib.hid ((M2.out.below ha1.out).under b2 OV.out)
        replace b2 := Lib.hid ((b1.out.trans (ha1.out.mono hsz)).trans b2)
        replace m2 := Lib.hid m2
        clear b1 m1 ha1 ha2 hlit hbd c1 hsz
        go_upto_region 8 with (at_builtin; refine wpList_putsB rfl knE (.tmp 71) (.tmp 77) 26 rfl (.slice A4 (j + 1) cap4) rfl (d.take j ++ [x]) m2.out hsz2 V2 (d.drop j) (d.length - j) HL2.out rfl (M2.out.srcN knE HL2.out) (d.length + 1) (by rw [List.length_append, HL1.out, List.length_singleton]; omega) (by omega) (d.take j ++ x :: d.drop j) (by simp) ?_; intro A5 cap5 w3 m3 b3; have hh3 := (b3.block g hgB).trans hh2.out; have c3 : w3.cell? ⟨g, 0, none⟩ = some (.slice (some ⟨b, off, none⟩) d.length cap) := cell_at hh3 0; have f3 := free_at hh3 0; replace hh3 := Lib.hid hh3; replace m3 := Lib.hid m3; replace b3 := Lib.hid b3)
        go_wp2_with fail
        go_end0
        rw [HP.out, HI.out]
        refine ⟨rfl, ⟨⟨_, heap_set hh3.out 0 _, ?_⟩, fun y hy => ?_⟩, grown_trans gd.out (grown_trans (grown_below (b2.out.trans b3.out) g) (grown_set _ _ _ _))⟩
        · exact (m3.out.grown (grown_set w3 g 0 _) (fun q hq e => by injection e with e; have := (m3.out.lt q hq).1; omega)).mono (Nat.zero_le _)
        · rw [← HI.out] at hy
          rcases ins_mem hy with rfl | hy
          · exact HK.out
          · exact H.out.2 y hy
    · have q1 : decide ((j : Int) < (d.length : Int)) = false := decide_eq_false (by omega)
      have HI := Lib.hid (ins_at HJ.out hj (fun y hy => by have := (List.getElem?_eq_some_iff.1 hy).1; omega))
      have hgB := H.out.lt
      have hl1 : (d.take j).length = j := by rw [List.length_take]; omega
      have hl2 : (d.drop j).length = d.length - j := by rw [List.length_drop]
      have hs1 := slice_high (P := Try.prog) knE A d.length cap j (by omega)
      have hs2 := slice_low (P := Try.prog) knE A d.length cap j (by omega)
      have M1 := Lib.hid (HM.out.sub 0 j (Nat.zero_le _) (by omega)).slice
      have M2 := Lib.hid (HM.out.sub j d.length (by omega) (Nat.le_refl _)).slice
      rw [List.drop_zero] at M1
      rw [List.take_length] at M2
      have OV := Lib.hid (fun q hq => ((HM.out.sub j d.length (by omega) (Nat.le_refl _)).lt q hq).2)
      generalize sliced A 0 j cap LE.c = V1 at hs1 M1
      generalize sliced A j d.length cap LE.c = V2 at hs2 M2 OV
      have HL1 := Lib.hid hl1
      have HL2 := Lib.hid hl2
      clear hl1 hl2
      go_upto_region 6 with (at_builtin; refine wpList_putsB rfl knE (.tmp 56) (.tmp 62) 26 rfl (.slice none 0 0) rfl [] (Lies.Mine.nil wd wd.heap.size) (Nat.le_refl _) V1 (d.take j) j HL1.out rfl (M1.out.srcN knE HL1.out) j (by simp) (by omega) (d.take j) rfl ?_; intro A3 cap3 w1 m1 b1)
      have hsz := b1.size
      have c1 : w1.cell? ⟨g, 0, none⟩ = some (.slice A d.length cap) := (b1.cell (p := ⟨g, 0, none⟩) hgB).trans c0
      replace M2 := Lib.hid (M2.out.below b1)
      replace m1 := Lib.hid m1
      replace b1 := Lib.hid b1
      clear M1 hs1 c0
      have hbd := build_ent x
      have ha1 : Hid (Below w1.heap.size w1 (w1.alloc (.cells #[.int .i64 x.tick, .string x.key] 44))) := Lib.hid ((Below.refl _ _).alloc (Nat.le_refl _) _)
      have ha2 : Hid (w1.heap.size + 1 = (w1.alloc (.cells #[.int .i64 x.tick, .string x.key] 44)).heap.size) := Lib.hid (by simp)
      have hlit := Lib.hid (lit_slice (L := LE) w1 x w1.heap.size rfl #[.int .i64 x.tick, .string x.key] rfl)
      simp only [LE] at hlit
      go_upto_region 7 with (at_builtin; refine wpList_putsB rfl knE (.tmp 64) (.tmp 68) 26 rfl (.slice A3 j cap3) rfl (d.take j) (m1.out.below ha1.out) (Nat.le_trans hsz ha1.out.size) (.slice (some ⟨w1.heap.size, 0, none⟩) 1 1) [x] 1 rfl rfl (hlit.out.srcN knE rfl) (j + 1) (by rw [HL1.out]) (by omega) (d.take j ++ [x]) rfl ?_; intro A4 cap4 w2 m2 b2; have hh2 := (b2.block g hgB).trans ((ha1.out.block g (by omega)).trans ((b1.out.block g hgB).trans HH.out)); have c2 : w2.cell? ⟨g, 0, none⟩ = some (.slice A d.length cap) := cell_at hh2 0; replace hh2 := Lib.hid hh2)
      have hsz2 : wd.heap.size ≤ w2.heap.size := Nat.le_trans hsz (Nat.le_trans ha1.out.size b2.size)
      replace M2 := Lib.hid ((M2.out.below ha1.out).under b2 OV.out)
      replace b2 := Lib.hid ((b1.out.trans (ha1.out.mono hsz)).trans b2)
      replace m2 := Lib.hid m2
      clear b1 m1 ha1 ha2 hlit hbd c1 hsz
      go_upto_region 8 with (at_builtin; refine wpList_putsB rfl knE (.tmp 71) (.tmp 77) 26 rfl (.slice A4 (j + 1) cap4) rfl (d.take j ++ [x]) m2.out hsz2 V2 (d.drop j) (d.length - j) HL2.out rfl (M2.out.srcN knE HL2.out) (d.length + 1) (by rw [List.length_append, HL1.out, List.length_singleton]; omega) (by omega) (d.take j ++ x :: d.drop j) (by simp) ?_; intro A5 cap5 w3 m3 b3; have hh3 := (b3.block g hgB).trans hh2.out; have c3 : w3.cell? ⟨g, 0, none⟩ = some (.slice A d.length cap) := cell_at hh3 0; have f3 := free_at hh3 0; replace hh3 := Lib.hid hh3; replace m3 := Lib.hid m3; replace b3 := Lib.hid b3)
      go_wp2_with fail
      go_end0
      rw [HP.out, HI.out]
      refine ⟨rfl, ⟨⟨_, heap_set hh3.out 0 _, ?_⟩, fun y hy => ?_⟩, grown_trans gd.out (grown_trans (grown_below (b2.out.trans b3.out) g) (grown_set _ _ _ _))⟩
      · exact (m3.out.grown (grown_set w3 g 0 _) (fun q hq e => by injection e with e; have := (m3.out.lt q hq).1; omega)).mono (Nat.zero_le _)
      · rw [← HI.out] at hy
        rcases ins_mem hy with rfl | hy
        · exact HK.out
        · exact H.out.2 y hy
end Go.Proofs.Ytkbmkbmbkmeenaa
