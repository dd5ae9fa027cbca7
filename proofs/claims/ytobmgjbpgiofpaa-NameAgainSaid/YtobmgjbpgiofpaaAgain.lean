/-
  NameAgain: a name is made of its sign, its part and its home again, and no other text is; whatever text, sign and lists of numbers are handed in, the statement's function answers true, and nothing that was there is turned.
-/
import Derived.Test.YtobmgjbpgiofpaaLives
import Derived.Test.YtobmgjbpgiofpaaBack
import Derived.Test.YtobmgjbpgiofpaaTexts
import Derived.Test.YtobmgjbpgiofpaaOrders
import Derived.Deep.DeepCutAuto
namespace Go.Proofs.Ytobmgjbpgiofpaa
open Go.RowKit
set_option linter.unusedVariables false
set_option linter.unusedSimpArgs false

set_option maxHeartbeats 3200000 in
set_option maxRecDepth 100000 in
theorem again_walk (s : ByteArray) (c : Int) (a : Option Addr) (len cap : Nat) (a' : Option Addr) (len' cap' : Nat) (w : World) (hs : s.size ≤ maxLen) (hc0 : 0 ≤ c) (hc1 : c ≤ 255) (hl : len ≤ maxLen) (hl' : len' ≤ maxLen) (ha : IntsAt w a len) (ha' : IntsAt w a' len') :
    Calls Try.prog 8 #[.string s, .int .u8 c, .slice a len cap, .slice a' len' cap'] w (BoolPost true w) := by
  have hfs := fewS_size s 40
  obtain ⟨z1, hz1⟩ := ha.get
  obtain ⟨z2, hz2⟩ := ha'.get
  have hx := madeS_size ⟨#[]⟩ z1 len 16
  have hy := madeS_size ⟨#[]⟩ z2 len' 16
  have hg := byteS_size c
  have k1 : ∀ wx, Below w.heap.size w wx → Calls Try.prog 10 #[.string s, .int .i64 40] wx fun e w' => e = .returned (.string (fewS s 40)) ∧ wx = w' := fun wx _ => few_any s 40 (by decide) wx hs
  have k2 : ∀ wx, Below w.heap.size w wx → Calls Try.prog 9 #[.slice a len cap, .int .i64 16, .string ⟨#[]⟩] wx fun e w' => e = .returned (.string (madeS ⟨#[]⟩ z1 len 16)) ∧ wx = w' := fun wx hb => made_any a len cap 16 ⟨#[]⟩ z1 wx hl (by decide) (by decide) (hz1.later hb)
  have k3 : ∀ wx, Below w.heap.size w wx → Calls Try.prog 9 #[.slice a' len' cap', .int .i64 16, .string ⟨#[]⟩] wx fun e w' => e = .returned (.string (madeS ⟨#[]⟩ z2 len' 16)) ∧ wx = w' := fun wx hb => made_any a' len' cap' 16 ⟨#[]⟩ z2 wx hl' (by decide) (by decide) (hz2.later hb)
  have K1 := Lib.hid k1
  have K2 := Lib.hid k2
  have K3 := Lib.hid k3
  have hcv := fun (wx : World) (h : wx.cell? ⟨w.heap.size, 0, none⟩ = some (.int .u8 c)) => conv_cell w.heap.size c wx h
  have Hcv := Lib.hid hcv
  clear hz1 hz2 ha ha' k1 k2 k3 hcv
  generalize fewS s 40 = f at *
  generalize madeS ⟨#[]⟩ z1 len 16 = x at *
  generalize madeS ⟨#[]⟩ z2 len' 16 = y at *
  generalize byteS c = g at *
  have z64 : (ByteArray.mk #[64] ++ x).size ≤ 17 := by rw [ByteArray.size_append, size1]; omega
  have zg : (g ++ x).size ≤ 17 := by rw [ByteArray.size_append]; omega
  have z64' : (ByteArray.mk #[64] ++ x ++ ByteArray.mk #[58]).size ≤ 18 := by rw [ByteArray.size_append, size1]; omega
  have zg' : (g ++ x ++ ByteArray.mk #[58]).size ≤ 18 := by rw [ByteArray.size_append, size1]; omega
  have z64'' : (ByteArray.mk #[64] ++ x ++ ByteArray.mk #[58] ++ y).size ≤ 34 := by rw [ByteArray.size_append]; omega
  have zg'' : (g ++ x ++ ByteArray.mk #[58] ++ y).size ≤ 34 := by rw [ByteArray.size_append]; omega
  have q1 := add_any (ByteArray.mk #[64]) x (by rw [size1]; omega) (by omega)
  have q4 := add_any g x (by omega) (by omega)
  have q5 := add_any (ByteArray.mk #[64] ++ x) (ByteArray.mk #[58]) (by omega) (by rw [size1]; omega)
  have q7 := add_any (g ++ x) (ByteArray.mk #[58]) (by omega) (by rw [size1]; omega)
  have q8 := add_any (ByteArray.mk #[64] ++ x ++ ByteArray.mk #[58]) y (by omega) (by omega)
  have q10 := add_any (g ++ x ++ ByteArray.mk #[58]) y (by omega) (by omega)
  go_enter Try.func8, Try.ntmps8
  go_wp2_with fail
  go_cut [9] (fun s9 wx => s9 = .slice (some ⟨w.heap.size + 1, 0, none⟩) 3 3 ∧ TextsAt wx (w.heap.size + 1) 3 ∧ Below w.heap.size w wx)
  case first =>
    refine wp_region_held_drew (S := fun w' => Below w.heap.size w w') (by kernel_rfl) (Below.refl _ _).drew (fun hHeld => ?_)
    refine wpAnyH_take (i := 0) (v := ?v0) rfl (by kernel_rfl) (by kernel_rfl) (by kernel_rfl) (fun _ _ _ h => h) (Or.inl ⟨by rfl, ?y0⟩) (by assumption) ?r0
    case y0 =>
      intro wx hSx
      go_simp
      try with_reducible rfl
    try simp only [Act.put, List.setIfInBounds_toArray, List.set_cons_zero, List.set_cons_succ]
    refine anyH_asks (i := 1) (v := .string f) rfl (by kernel_rfl) (by kernel_rfl) (by kernel_rfl) (fun _ _ _ h => h) ⟨by rfl, fun wx hSx => ⟨_, _, ?e1, K1.out wx hSx⟩⟩ (by assumption) ?r1
    case e1 => go_simp
    try simp only [Act.put, List.setIfInBounds_toArray, List.set_cons_zero, List.set_cons_succ]
    refine wpAnyH_take (i := 2) (v := ?v2) rfl (by kernel_rfl) (by kernel_rfl) (by kernel_rfl) (fun _ _ _ h => h) (Or.inl ⟨by rfl, ?y2⟩) (by assumption) ?r2
    case y2 =>
      intro wx hSx
      go_simp
      try with_reducible rfl
    try simp only [Act.put, List.setIfInBounds_toArray, List.set_cons_zero, List.set_cons_succ]
    refine anyH_asks (i := 3) (v := .string x) rfl (by kernel_rfl) (by kernel_rfl) (by kernel_rfl) (fun _ _ _ h => h) ⟨by rfl, fun wx hSx => ⟨_, _, ?e3, K2.out wx hSx⟩⟩ (by assumption) ?r3
    case e3 => go_simp
    try simp only [Act.put, List.setIfInBounds_toArray, List.set_cons_zero, List.set_cons_succ]
    refine wpAnyH_take (i := 4) (v := ?v4) rfl (by kernel_rfl) (by kernel_rfl) (by kernel_rfl) (fun _ _ _ h => h) (Or.inl ⟨by rfl, ?y4⟩) (by assumption) ?r4
    case y4 =>
      intro wx hSx
      go_simp
      try with_reducible rfl
    try simp only [Act.put, List.setIfInBounds_toArray, List.set_cons_zero, List.set_cons_succ]
    refine wpAnyH_take (i := 5) (v := ?v5) rfl (by kernel_rfl) (by kernel_rfl) (by kernel_rfl) (fun _ _ _ h => h) (Or.inl ⟨by rfl, ?y5⟩) (by assumption) ?r5
    case y5 =>
      intro wx hSx
      go_simp
      try with_reducible rfl
    try simp only [Act.put, List.setIfInBounds_toArray, List.set_cons_zero, List.set_cons_succ]
    refine wpAnyH_take (i := 6) (v := ?v6) rfl (by kernel_rfl) (by kernel_rfl) (by kernel_rfl) (fun _ _ _ h => h) (Or.inl ⟨by rfl, ?y6⟩) (by assumption) ?r6
    case y6 =>
      intro wx hSx
      go_simp
      try with_reducible rfl
    try simp only [Act.put, List.setIfInBounds_toArray, List.set_cons_zero, List.set_cons_succ]
    refine anyH_asks (i := 7) (v := .string y) rfl (by kernel_rfl) (by kernel_rfl) (by kernel_rfl) (fun _ _ _ h => h) ⟨by rfl, fun wx hSx => ⟨_, _, ?e7, K3.out wx hSx⟩⟩ (by assumption) ?r7
    case e7 => go_simp
    try simp only [Act.put, List.setIfInBounds_toArray, List.set_cons_zero, List.set_cons_succ]
    refine wpAnyH_take (i := 8) (v := ?v8) rfl (by kernel_rfl) (by kernel_rfl) (by kernel_rfl) (fun _ _ _ h => h) (Or.inl ⟨by rfl, ?y8⟩) (by assumption) ?r8
    case y8 =>
      intro wx hSx
      go_simp
      try with_reducible rfl
    try simp only [Act.put, List.setIfInBounds_toArray, List.set_cons_zero, List.set_cons_succ]
    refine wpAnyH_take (i := 9) (v := ?v9) rfl (by kernel_rfl) (by kernel_rfl) (by kernel_rfl) (fun _ _ _ h => h) (Or.inl ⟨by rfl, ?y9⟩) (by assumption) ?r9
    case y9 =>
      intro wx hSx
      go_simp
      try with_reducible rfl
    try simp only [Act.put, List.setIfInBounds_toArray, List.set_cons_zero, List.set_cons_succ]
    refine wpAnyH_take (i := 12) (v := ?v12) rfl (by kernel_rfl) (by kernel_rfl) (by kernel_rfl) (fun _ _ _ h => h) (Or.inl ⟨by rfl, ?y12⟩) (by assumption) ?r12
    case y12 =>
      intro wx hSx
      go_simp
      try with_reducible rfl
    try simp only [Act.put, List.setIfInBounds_toArray, List.set_cons_zero, List.set_cons_succ]
    refine anyH_asks (i := 13) (v := .string x) rfl (by kernel_rfl) (by kernel_rfl) (by kernel_rfl) (fun _ _ _ h => h) ⟨by rfl, fun wx hSx => ⟨_, _, ?e13, K2.out wx hSx⟩⟩ (by assumption) ?r13
    case e13 => go_simp
    try simp only [Act.put, List.setIfInBounds_toArray, List.set_cons_zero, List.set_cons_succ]
    refine wpAnyH_take (i := 16) (v := ?v16) rfl (by kernel_rfl) (by kernel_rfl) (by kernel_rfl) (fun _ _ _ h => h) (Or.inl ⟨by rfl, ?y16⟩) (by assumption) ?r16
    case y16 =>
      intro wx hSx
      go_simp
      try with_reducible rfl
    try simp only [Act.put, List.setIfInBounds_toArray, List.set_cons_zero, List.set_cons_succ]
    refine anyH_asks (i := 17) (v := .string y) rfl (by kernel_rfl) (by kernel_rfl) (by kernel_rfl) (fun _ _ _ h => h) ⟨by rfl, fun wx hSx => ⟨_, _, ?e17, K3.out wx hSx⟩⟩ (by assumption) ?r17
    case e17 => go_simp
    try simp only [Act.put, List.setIfInBounds_toArray, List.set_cons_zero, List.set_cons_succ]
    refine wpAnyH_ready (rs := [10]) (by kernel_rfl) (by simp) ?_
    refine AllReadyH.cons rfl (fun K hK => ?_) AllReadyH.nil
    go_simp
    refine hK.out _ _ (Below.drew ((Below.refl _ _).alloc (Nat.le_refl _) _)) (fun hHeld => ?_)
    clear hK K
    try simp only [Act.put, List.setIfInBounds_toArray, List.set_cons_zero, List.set_cons_succ]
    refine anyH_narrow (S' := fun w' => Below w.heap.size w w' ∧ w'.cell? ⟨w.heap.size, 0, none⟩ = some (.int .u8 c)) (fun _ h => h.1) _ _ _ _ ?_
    have hN : Below w.heap.size w (w.alloc (.cells #[.int .u8 c] 5)).drew ∧ (w.alloc (.cells #[.int .u8 c] 5)).drew.cell? ⟨w.heap.size, 0, none⟩ = some (.int .u8 c) := ⟨hHeld, by simp⟩
    clear hHeld
    refine wpAnyH_take (i := 11) (v := ?v11) rfl (by kernel_rfl) (by kernel_rfl) (by kernel_rfl) (fun _ _ _ h => h) (Or.inl ⟨by rfl, ?y11⟩) (by assumption) ?r11
    case y11 =>
      intro wx hSx
      go_simp
      rw [Hcv.out wx hSx.2]; rfl
    try simp only [Act.put, List.setIfInBounds_toArray, List.set_cons_zero, List.set_cons_succ]
    refine wpAnyH_take (i := 14) (v := ?v14) rfl (by kernel_rfl) (by kernel_rfl) (by kernel_rfl) (fun _ _ _ h => h) (Or.inl ⟨by rfl, ?y14⟩) (by assumption) ?r14
    case y14 =>
      intro wx hSx
      go_simp
      try with_reducible rfl
    try simp only [Act.put, List.setIfInBounds_toArray, List.set_cons_zero, List.set_cons_succ]
    refine wpAnyH_take (i := 15) (v := ?v15) rfl (by kernel_rfl) (by kernel_rfl) (by kernel_rfl) (fun _ _ _ h => h) (Or.inl ⟨by rfl, ?y15⟩) (by assumption) ?r15
    case y15 =>
      intro wx hSx
      go_simp
      try with_reducible rfl
    try simp only [Act.put, List.setIfInBounds_toArray, List.set_cons_zero, List.set_cons_succ]
    refine wpAnyH_take (i := 18) (v := ?v18) rfl (by kernel_rfl) (by kernel_rfl) (by kernel_rfl) (fun _ _ _ h => h) (Or.inl ⟨by rfl, ?y18⟩) (by assumption) ?r18
    case y18 =>
      intro wx hSx
      go_simp
      try with_reducible rfl
    try simp only [Act.put, List.setIfInBounds_toArray, List.set_cons_zero, List.set_cons_succ]
    refine wpAnyH_ready (rs := [19]) (by kernel_rfl) (by simp) ?_
    refine AllReadyH.cons rfl (fun K hK => ?_) AllReadyH.nil
    go_simp
    refine hK.out _ _ ⟨Below.drew (((Below.refl _ _).alloc (Nat.le_refl _) _).alloc (by simp) _), by simp [World.cell?_alloc_past]⟩ (fun hHeld => ?_)
    clear hK K
    try simp only [Act.put, List.setIfInBounds_toArray, List.set_cons_zero, List.set_cons_succ]
    refine wpAnyH_take (i := 20) (oi := { dst := some 9, op := Op.assign (Operand.tmp 35), type := 26, pos := _, after := _, guard := _ }) (v := ?v20) rfl (by kernel_rfl) (by kernel_rfl) (by kernel_rfl) (fun _ _ _ h => h) (Or.inl ⟨by rfl, ?y20⟩) (by assumption) ?r20
    case y20 =>
      intro wx hSx
      go_simp
      try with_reducible rfl
    try simp only [Act.put, List.setIfInBounds_toArray, List.set_cons_zero, List.set_cons_succ]
    refine wpAnyH_done (by kernel_rfl) ?_ _
    go_wp2_with fail
    go_meet
    exact ⟨rfl, texts3 _ _ _ _ _ _ (by simp) (by omega) (by omega) (by omega), hHeld.1⟩
  case rest =>
    obtain ⟨rfl, ht0, hb0⟩ := hcut
    clear q1 q4 q5 q7 q8 q10 z64 zg z64' zg' z64'' zg'' K1 K2 K3 Hcv hx hy hg hfs
    go_wp2_with fail
    go_loopw [10] (fun i wr => ∃ k : Nat, k ≤ 3 ∧ i = .int .i64 k ∧ TextsAt wr (w.heap.size + 1) 3 ∧ Below w.heap.size w wr) (fun i _ => 3 - (intOf i).toNat)
    case atStart => exact ⟨0, by omega, rfl, ht0, hb0⟩
    case round =>
      clear ht0 hb0
      obtain ⟨k, hk, rfl, ht, hb⟩ := hrel
      by_cases hlt : k < 3
      · obtain ⟨t, hc, hz⟩ := ht k hlt
        have hzm : t.size ≤ maxLen := by unfold maxLen; omega
        have hz2 : t.size ≤ 281474976710656 := by omega
        have Ht := Lib.hid ht
        clear ht
        cases hn : nameB t
        · have hno : namedB 64 t = false ∧ namedB 33 t = false := by unfold nameB at hn; exact Bool.or_eq_false_iff.1 hn
          have H64 := Lib.hid hno.1
          have H33 := Lib.hid hno.2
          have Hn := Lib.hid hn
          clear hno hn
          by_cases hz0 : 0 < t.size
          · have hb255 : (t[0].toNat : Int) ≤ 255 := byte_le _
            go_wp2_with fail
            refine (part_any t _ hz2).mono ?_
            rintro e w1 ⟨rfl, hb1⟩
            go_wp2_with fail
            refine (home_any t _ hz2).mono ?_
            rintro e w2 ⟨rfl, hb2⟩
            obtain ⟨n, hn12, hmk⟩ := make_other t (t[0].toNat : Int) (by omega) hb255 Hn.out w2
            have Hmk := Lib.hid hmk
            clear hmk
            rcases hn12 with rfl | rfl
            all_goals
              go_wp2_with fail
              refine Hmk.out.mono ?_
              rintro e w3 ⟨rfl, hb3⟩
              go_wp2_with fail
              refine (refNamed_any t _ _ hzm).mono ?_
              rintro e w' ⟨rfl, rfl⟩
              rw [H64.out]
              go_wp2_with fail
              refine (refNamed_any t _ _ hzm).mono ?_
              rintro e w' ⟨rfl, rfl⟩
              rw [H33.out]
              go_wp2
              go_roundw
              case rel => exact ⟨k + 1, by omega, by go_num, Ht.out.later (later (later hb1 hb2) hb3), later (later (later hb hb1) hb2) hb3⟩
              case measure => simp [intOf]; omega
          · go_wp2_with fail
            refine (part_any t _ hz2).mono ?_
            rintro e w1 ⟨rfl, hb1⟩
            go_wp2_with fail
            refine (home_any t _ hz2).mono ?_
            rintro e w2 ⟨rfl, hb2⟩
            obtain ⟨n, hn12, hmk⟩ := make_other t 0 (by omega) (by omega) Hn.out w2
            have Hmk := Lib.hid hmk
            clear hmk
            rcases hn12 with rfl | rfl
            all_goals
              go_wp2_with fail
              refine Hmk.out.mono ?_
              rintro e w3 ⟨rfl, hb3⟩
              go_wp2_with fail
              refine (refNamed_any t _ _ hzm).mono ?_
              rintro e w' ⟨rfl, rfl⟩
              rw [H64.out]
              go_wp2_with fail
              refine (refNamed_any t _ _ hzm).mono ?_
              rintro e w' ⟨rfl, rfl⟩
              rw [H33.out]
              go_wp2
              go_roundw
              case rel => exact ⟨k + 1, by omega, by go_num, Ht.out.later (later (later hb1 hb2) hb3), later (later (later hb hb1) hb2) hb3⟩
              case measure => simp [intOf]; omega
        · have hz0 := nameB_size t hn
          have hmk : ∀ wx, Calls Try.prog 25 #[.int .u8 (t[0].toNat : Int), .string (partS t), .string (homeS t)] wx (MakePost t 0 wx) := fun wx => make_name t hn (by omega) wx
          have Hmk := Lib.hid hmk
          clear hmk
          cases h64 : namedB 64 t
          · have h33 : namedB 33 t = true := by unfold nameB at hn; rw [h64, Bool.false_or] at hn; exact hn
            have H64 := Lib.hid h64
            have H33 := Lib.hid h33
            clear h64 h33 hn
            go_wp2_with fail
            refine (part_any t _ hz2).mono ?_
            rintro e w1 ⟨rfl, hb1⟩
            go_wp2_with fail
            refine (home_any t _ hz2).mono ?_
            rintro e w2 ⟨rfl, hb2⟩
            go_wp2_with fail
            refine (Hmk.out _).mono ?_
            rintro e w3 ⟨rfl, hb3⟩
            go_wp2_with fail
            refine (refNamed_any t _ _ hzm).mono ?_
            rintro e w' ⟨rfl, rfl⟩
            rw [H64.out]
            go_wp2_with fail
            refine (refNamed_any t _ _ hzm).mono ?_
            rintro e w' ⟨rfl, rfl⟩
            rw [H33.out]
            go_wp2
            go_roundw
            case rel => exact ⟨k + 1, by omega, by go_num, Ht.out.later (later (later hb1 hb2) hb3), later (later (later hb hb1) hb2) hb3⟩
            case measure => simp [intOf]; omega
          · have H64 := Lib.hid h64
            clear h64 hn
            go_wp2_with fail
            refine (part_any t _ hz2).mono ?_
            rintro e w1 ⟨rfl, hb1⟩
            go_wp2_with fail
            refine (home_any t _ hz2).mono ?_
            rintro e w2 ⟨rfl, hb2⟩
            go_wp2_with fail
            refine (Hmk.out _).mono ?_
            rintro e w3 ⟨rfl, hb3⟩
            go_wp2_with fail
            refine (refNamed_any t _ _ hzm).mono ?_
            rintro e w' ⟨rfl, rfl⟩
            rw [H64.out]
            go_wp2
            go_roundw
            case rel => exact ⟨k + 1, by omega, by go_num, Ht.out.later (later (later hb1 hb2) hb3), later (later (later hb hb1) hb2) hb3⟩
            case measure => simp [intOf]; omega
      · go_wp2_with fail
        refine (lives_any _).mono ?_
        rintro e w2 ⟨rfl, hb2⟩
        go_wp2
        go_ret
        exact ⟨rfl, later hb hb2⟩
end Go.Proofs.Ytobmgjbpgiofpaa
