/-
  NameKinds: which texts are servers, users, rooms, events, threads is told as the document says; whatever text, sign and lists of numbers are handed in, the statement's function answers true, and nothing that was there is turned.
-/
import Derived.Test.YtobmgjbpgiofpaaLives
import Derived.Test.YtobmgjbpgiofpaaMore
import Derived.Test.YtobmgjbpgiofpaaTexts
import Derived.Test.YtobmgjbpgiofpaaOrders
import Derived.Deep.DeepCutAuto
namespace Go.Proofs.Ytobmgjbpgiofpaa
open Go.RowKit
set_option linter.unusedVariables false
set_option linter.unusedSimpArgs false

theorem texts7 (w : World) (ty : TypeId) (b : Nat) (t0 t1 t2 t3 t4 t5 t6 : ByteArray) (hb : b = w.heap.size) (h0 : t0.size ≤ 60) (h1 : t1.size ≤ 60) (h2 : t2.size ≤ 60) (h3 : t3.size ≤ 60) (h4 : t4.size ≤ 60) (h5 : t5.size ≤ 60) (h6 : t6.size ≤ 60) :
    TextsAt (w.alloc (.cells #[.string t0, .string t1, .string t2, .string t3, .string t4, .string t5, .string t6] ty)).drew b 7 := by
  subst hb
  intro j hj
  rcases (show j = 0 ∨ j = 1 ∨ j = 2 ∨ j = 3 ∨ j = 4 ∨ j = 5 ∨ j = 6 by omega) with rfl | rfl | rfl | rfl | rfl | rfl | rfl
  · exact ⟨t0, by simp, h0⟩
  · exact ⟨t1, by simp, h1⟩
  · exact ⟨t2, by simp, h2⟩
  · exact ⟨t3, by simp, h3⟩
  · exact ⟨t4, by simp, h4⟩
  · exact ⟨t5, by simp, h5⟩
  · exact ⟨t6, by simp, h6⟩

set_option maxHeartbeats 6400000 in
set_option maxRecDepth 100000 in
theorem kinds_walk (s : ByteArray) (c : Int) (a : Option Addr) (len cap : Nat) (a' : Option Addr) (len' cap' : Nat) (w : World) (hs : s.size ≤ maxLen) (hl : len ≤ maxLen) (hl' : len' ≤ maxLen) (ha : IntsAt w a len) (ha' : IntsAt w a' len') :
    Calls Try.prog 3 #[.string s, .int .u8 c, .slice a len cap, .slice a' len' cap'] w (BoolPost true w) := by
  have hfs := fewS_size s 40
  obtain ⟨z1, hz1⟩ := ha.get
  obtain ⟨z2, hz2⟩ := ha'.get
  have hx := madeS_size ⟨#[]⟩ z1 len 18
  have hy := madeS_size ⟨#[]⟩ z2 len' 18
  have hg := byteS_size c
  have k1 : ∀ wx, Below w.heap.size w wx → Calls Try.prog 10 #[.string s, .int .i64 40] wx fun e w' => e = .returned (.string (fewS s 40)) ∧ wx = w' := fun wx _ => few_any s 40 (by decide) wx hs
  have k2 : ∀ wx, Below w.heap.size w wx → Calls Try.prog 9 #[.slice a len cap, .int .i64 18, .string ⟨#[]⟩] wx fun e w' => e = .returned (.string (madeS ⟨#[]⟩ z1 len 18)) ∧ wx = w' := fun wx hb => made_any a len cap 18 ⟨#[]⟩ z1 wx hl (by decide) (by decide) (hz1.later hb)
  have k3 : ∀ wx, Below w.heap.size w wx → Calls Try.prog 9 #[.slice a' len' cap', .int .i64 18, .string ⟨#[]⟩] wx fun e w' => e = .returned (.string (madeS ⟨#[]⟩ z2 len' 18)) ∧ wx = w' := fun wx hb => made_any a' len' cap' 18 ⟨#[]⟩ z2 wx hl' (by decide) (by decide) (hz2.later hb)
  have K1 := Lib.hid k1
  have K2 := Lib.hid k2
  have K3 := Lib.hid k3
  have HcvA := Lib.hid (fun (wx : World) (h : wx.cell? ⟨w.heap.size, 0, none⟩ = some (.int .u8 c)) => conv_cell w.heap.size c wx h)
  have HcvB := Lib.hid (fun (wx : World) (h : wx.cell? ⟨w.heap.size + 1, 0, none⟩ = some (.int .u8 c)) => conv_cell (w.heap.size + 1) c wx h)
  clear hz1 hz2 ha ha' k1 k2 k3
  generalize fewS s 40 = f at *
  generalize madeS ⟨#[]⟩ z1 len 18 = x at *
  generalize madeS ⟨#[]⟩ z2 len' 18 = y at *
  generalize byteS c = g at *
  have z64 : (ByteArray.mk #[64] ++ x).size ≤ 19 := by rw [ByteArray.size_append, size1]; omega
  have z33 : (ByteArray.mk #[33] ++ x).size ≤ 19 := by rw [ByteArray.size_append, size1]; omega
  have z36 : (ByteArray.mk #[36] ++ x).size ≤ 19 := by rw [ByteArray.size_append, size1]; omega
  have zg : (g ++ x).size ≤ 19 := by rw [ByteArray.size_append]; omega
  have z64' : (ByteArray.mk #[64] ++ x ++ ByteArray.mk #[58]).size ≤ 20 := by rw [ByteArray.size_append, size1]; omega
  have z33' : (ByteArray.mk #[33] ++ x ++ ByteArray.mk #[58]).size ≤ 20 := by rw [ByteArray.size_append, size1]; omega
  have zg' : (g ++ x ++ ByteArray.mk #[58]).size ≤ 20 := by rw [ByteArray.size_append, size1]; omega
  have z64'' : (ByteArray.mk #[64] ++ x ++ ByteArray.mk #[58] ++ y).size ≤ 38 := by rw [ByteArray.size_append]; omega
  have z33'' : (ByteArray.mk #[33] ++ x ++ ByteArray.mk #[58] ++ y).size ≤ 38 := by rw [ByteArray.size_append]; omega
  have zg'' : (g ++ x ++ ByteArray.mk #[58] ++ y).size ≤ 38 := by rw [ByteArray.size_append]; omega
  have q1 := add_any (ByteArray.mk #[64]) x (by rw [size1]; omega) (by omega)
  have q2 := add_any (ByteArray.mk #[33]) x (by rw [size1]; omega) (by omega)
  have q3 := add_any (ByteArray.mk #[36]) x (by rw [size1]; omega) (by omega)
  have q4 := add_any g x (by omega) (by omega)
  have q5 := add_any (ByteArray.mk #[64] ++ x) (ByteArray.mk #[58]) (by omega) (by rw [size1]; omega)
  have q6 := add_any (ByteArray.mk #[33] ++ x) (ByteArray.mk #[58]) (by omega) (by rw [size1]; omega)
  have q7 := add_any (g ++ x) (ByteArray.mk #[58]) (by omega) (by rw [size1]; omega)
  have q8 := add_any (ByteArray.mk #[64] ++ x ++ ByteArray.mk #[58]) y (by omega) (by omega)
  have q9 := add_any (ByteArray.mk #[33] ++ x ++ ByteArray.mk #[58]) y (by omega) (by omega)
  have q10 := add_any (g ++ x ++ ByteArray.mk #[58]) y (by omega) (by omega)
  go_enter Try.func3, Try.ntmps3
  go_wp2_with fail
  refine (K2.out _ (Below.refl _ _)).mono ?_
  rintro e w' ⟨rfl, rfl⟩
  go_wp2_with fail
  refine (K3.out _ (Below.refl _ _)).mono ?_
  rintro e w' ⟨rfl, rfl⟩
  go_wp2_with fail
  go_cut [11] (fun s11 wx => s11 = .slice (some ⟨w.heap.size + 1 + 1, 0, none⟩) 7 7 ∧ TextsAt wx (w.heap.size + 1 + 1) 7 ∧ Below w.heap.size w wx)
  case first =>
    refine wp_region_held_drew (S := fun w' => Below w.heap.size w w') (by kernel_rfl) (Below.refl _ _).drew (fun hHeld => ?_)
    refine wpAnyH_take (i := 0) (oi := ⟨some 18, _, _, _, _, _⟩) (v := ?v0) rfl (by kernel_rfl) (by kernel_rfl) (by kernel_rfl) (fun _ _ _ h => h) (Or.inl ⟨by rfl, ?y0⟩) (by assumption) ?r0
    case y0 =>
      intro wx hSx
      go_simp
      try with_reducible rfl
    try simp only [Act.put, List.setIfInBounds_toArray, List.set_cons_zero, List.set_cons_succ]
    refine anyH_asks (i := 1) (oi := ⟨some 19, _, _, _, _, _⟩) (v := .string f) rfl (by kernel_rfl) (by kernel_rfl) (by kernel_rfl) (fun _ _ _ h => h) ⟨by rfl, fun wx hSx => ⟨_, _, ?e1, K1.out wx hSx⟩⟩ (by assumption) ?r1
    case e1 => go_simp
    try simp only [Act.put, List.setIfInBounds_toArray, List.set_cons_zero, List.set_cons_succ]
    refine wpAnyH_take (i := 2) (oi := ⟨some 20, _, _, _, _, _⟩) (v := ?v2) rfl (by kernel_rfl) (by kernel_rfl) (by kernel_rfl) (fun _ _ _ h => h) (Or.inl ⟨by rfl, ?y2⟩) (by assumption) ?r2
    case y2 =>
      intro wx hSx
      go_simp
      try with_reducible rfl
    try simp only [Act.put, List.setIfInBounds_toArray, List.set_cons_zero, List.set_cons_succ]
    refine wpAnyH_take (i := 3) (oi := ⟨some 21, _, _, _, _, _⟩) (v := ?v3) rfl (by kernel_rfl) (by kernel_rfl) (by kernel_rfl) (fun _ _ _ h => h) (Or.inl ⟨by rfl, ?y3⟩) (by assumption) ?r3
    case y3 =>
      intro wx hSx
      go_simp
      try with_reducible rfl
    try simp only [Act.put, List.setIfInBounds_toArray, List.set_cons_zero, List.set_cons_succ]
    refine wpAnyH_take (i := 6) (oi := ⟨some 24, _, _, _, _, _⟩) (v := ?v6) rfl (by kernel_rfl) (by kernel_rfl) (by kernel_rfl) (fun _ _ _ h => h) (Or.inl ⟨by rfl, ?y6⟩) (by assumption) ?r6
    case y6 =>
      intro wx hSx
      go_simp
      try with_reducible rfl
    try simp only [Act.put, List.setIfInBounds_toArray, List.set_cons_zero, List.set_cons_succ]
    refine wpAnyH_take (i := 8) (oi := ⟨some 26, _, _, _, _, _⟩) (v := ?v8) rfl (by kernel_rfl) (by kernel_rfl) (by kernel_rfl) (fun _ _ _ h => h) (Or.inl ⟨by rfl, ?y8⟩) (by assumption) ?r8
    case y8 =>
      intro wx hSx
      go_simp
      try with_reducible rfl
    try simp only [Act.put, List.setIfInBounds_toArray, List.set_cons_zero, List.set_cons_succ]
    refine wpAnyH_take (i := 9) (oi := ⟨some 27, _, _, _, _, _⟩) (v := ?v9) rfl (by kernel_rfl) (by kernel_rfl) (by kernel_rfl) (fun _ _ _ h => h) (Or.inl ⟨by rfl, ?y9⟩) (by assumption) ?r9
    case y9 =>
      intro wx hSx
      go_simp
      try with_reducible rfl
    try simp only [Act.put, List.setIfInBounds_toArray, List.set_cons_zero, List.set_cons_succ]
    refine wpAnyH_take (i := 10) (oi := ⟨some 28, _, _, _, _, _⟩) (v := ?v10) rfl (by kernel_rfl) (by kernel_rfl) (by kernel_rfl) (fun _ _ _ h => h) (Or.inl ⟨by rfl, ?y10⟩) (by assumption) ?r10
    case y10 =>
      intro wx hSx
      go_simp
      try with_reducible rfl
    try simp only [Act.put, List.setIfInBounds_toArray, List.set_cons_zero, List.set_cons_succ]
    refine wpAnyH_take (i := 11) (oi := ⟨some 29, _, _, _, _, _⟩) (v := ?v11) rfl (by kernel_rfl) (by kernel_rfl) (by kernel_rfl) (fun _ _ _ h => h) (Or.inl ⟨by rfl, ?y11⟩) (by assumption) ?r11
    case y11 =>
      intro wx hSx
      go_simp
      try with_reducible rfl
    try simp only [Act.put, List.setIfInBounds_toArray, List.set_cons_zero, List.set_cons_succ]
    refine wpAnyH_take (i := 12) (oi := ⟨some 30, _, _, _, _, _⟩) (v := ?v12) rfl (by kernel_rfl) (by kernel_rfl) (by kernel_rfl) (fun _ _ _ h => h) (Or.inl ⟨by rfl, ?y12⟩) (by assumption) ?r12
    case y12 =>
      intro wx hSx
      go_simp
      try with_reducible rfl
    try simp only [Act.put, List.setIfInBounds_toArray, List.set_cons_zero, List.set_cons_succ]
    refine wpAnyH_take (i := 13) (oi := ⟨some 31, _, _, _, _, _⟩) (v := ?v13) rfl (by kernel_rfl) (by kernel_rfl) (by kernel_rfl) (fun _ _ _ h => h) (Or.inl ⟨by rfl, ?y13⟩) (by assumption) ?r13
    case y13 =>
      intro wx hSx
      go_simp
      try with_reducible rfl
    try simp only [Act.put, List.setIfInBounds_toArray, List.set_cons_zero, List.set_cons_succ]
    refine wpAnyH_take (i := 14) (oi := ⟨some 32, _, _, _, _, _⟩) (v := ?v14) rfl (by kernel_rfl) (by kernel_rfl) (by kernel_rfl) (fun _ _ _ h => h) (Or.inl ⟨by rfl, ?y14⟩) (by assumption) ?r14
    case y14 =>
      intro wx hSx
      go_simp
      try with_reducible rfl
    try simp only [Act.put, List.setIfInBounds_toArray, List.set_cons_zero, List.set_cons_succ]
    refine wpAnyH_take (i := 15) (oi := ⟨some 33, _, _, _, _, _⟩) (v := ?v15) rfl (by kernel_rfl) (by kernel_rfl) (by kernel_rfl) (fun _ _ _ h => h) (Or.inl ⟨by rfl, ?y15⟩) (by assumption) ?r15
    case y15 =>
      intro wx hSx
      go_simp
      try with_reducible rfl
    try simp only [Act.put, List.setIfInBounds_toArray, List.set_cons_zero, List.set_cons_succ]
    refine wpAnyH_take (i := 16) (oi := ⟨some 34, _, _, _, _, _⟩) (v := ?v16) rfl (by kernel_rfl) (by kernel_rfl) (by kernel_rfl) (fun _ _ _ h => h) (Or.inl ⟨by rfl, ?y16⟩) (by assumption) ?r16
    case y16 =>
      intro wx hSx
      go_simp
      try with_reducible rfl
    try simp only [Act.put, List.setIfInBounds_toArray, List.set_cons_zero, List.set_cons_succ]
    refine wpAnyH_take (i := 17) (oi := ⟨some 35, _, _, _, _, _⟩) (v := ?v17) rfl (by kernel_rfl) (by kernel_rfl) (by kernel_rfl) (fun _ _ _ h => h) (Or.inl ⟨by rfl, ?y17⟩) (by assumption) ?r17
    case y17 =>
      intro wx hSx
      go_simp
      try with_reducible rfl
    try simp only [Act.put, List.setIfInBounds_toArray, List.set_cons_zero, List.set_cons_succ]
    refine wpAnyH_take (i := 18) (oi := ⟨some 36, _, _, _, _, _⟩) (v := ?v18) rfl (by kernel_rfl) (by kernel_rfl) (by kernel_rfl) (fun _ _ _ h => h) (Or.inl ⟨by rfl, ?y18⟩) (by assumption) ?r18
    case y18 =>
      intro wx hSx
      go_simp
      try with_reducible rfl
    try simp only [Act.put, List.setIfInBounds_toArray, List.set_cons_zero, List.set_cons_succ]
    refine wpAnyH_take (i := 19) (oi := ⟨some 37, _, _, _, _, _⟩) (v := ?v19) rfl (by kernel_rfl) (by kernel_rfl) (by kernel_rfl) (fun _ _ _ h => h) (Or.inl ⟨by rfl, ?y19⟩) (by assumption) ?r19
    case y19 =>
      intro wx hSx
      go_simp
      try with_reducible rfl
    try simp only [Act.put, List.setIfInBounds_toArray, List.set_cons_zero, List.set_cons_succ]
    refine wpAnyH_take (i := 20) (oi := ⟨some 38, _, _, _, _, _⟩) (v := ?v20) rfl (by kernel_rfl) (by kernel_rfl) (by kernel_rfl) (fun _ _ _ h => h) (Or.inl ⟨by rfl, ?y20⟩) (by assumption) ?r20
    case y20 =>
      intro wx hSx
      go_simp
      try with_reducible rfl
    try simp only [Act.put, List.setIfInBounds_toArray, List.set_cons_zero, List.set_cons_succ]
    refine wpAnyH_take (i := 23) (oi := ⟨some 41, _, _, _, _, _⟩) (v := ?v23) rfl (by kernel_rfl) (by kernel_rfl) (by kernel_rfl) (fun _ _ _ h => h) (Or.inl ⟨by rfl, ?y23⟩) (by assumption) ?r23
    case y23 =>
      intro wx hSx
      go_simp
      try with_reducible rfl
    try simp only [Act.put, List.setIfInBounds_toArray, List.set_cons_zero, List.set_cons_succ]
    refine wpAnyH_take (i := 26) (oi := ⟨some 44, _, _, _, _, _⟩) (v := ?v26) rfl (by kernel_rfl) (by kernel_rfl) (by kernel_rfl) (fun _ _ _ h => h) (Or.inl ⟨by rfl, ?y26⟩) (by assumption) ?r26
    case y26 =>
      intro wx hSx
      go_simp
      try with_reducible rfl
    try simp only [Act.put, List.setIfInBounds_toArray, List.set_cons_zero, List.set_cons_succ]
    refine wpAnyH_ready (rs := [4, 21]) (by kernel_rfl) (by simp) ?_
    refine AllReadyH.cons (o := ⟨some 22, _, _, _, _, _⟩) rfl (fun K hK => ?wayA) (AllReadyH.cons (o := ⟨some 39, _, _, _, _, _⟩) rfl (fun K hK => ?wayB) AllReadyH.nil)
    case wayA =>
      go_simp
      refine hK.out _ _ (Below.drew ((Below.refl _ _).alloc (Nat.le_refl _) _)) (fun hHeld => ?_)
      clear hK K
      try simp only [Act.put, List.setIfInBounds_toArray, List.set_cons_zero, List.set_cons_succ]
      refine anyH_narrow (S' := fun w' => Below w.heap.size w w' ∧ w'.cell? ⟨w.heap.size, 0, none⟩ = some (.int .u8 c)) (fun _ h => h.1) _ _ _ _ ?_
      have hN : Below w.heap.size w (w.alloc (.cells #[.int .u8 c] 5)).drew ∧ (w.alloc (.cells #[.int .u8 c] 5)).drew.cell? ⟨w.heap.size, 0, none⟩ = some (.int .u8 c) := ⟨hHeld, by simp⟩
      clear hHeld
      refine wpAnyH_take (i := 5) (oi := ⟨some 23, _, _, _, _, _⟩) (v := ?vA5) rfl (by kernel_rfl) (by kernel_rfl) (by kernel_rfl) (fun _ _ _ h => h) (Or.inl ⟨by rfl, ?yA5⟩) (by assumption) ?rA5
      case yA5 =>
        intro wx hSx
        go_simp
        rw [HcvA.out wx hSx.2]; rfl
      try simp only [Act.put, List.setIfInBounds_toArray, List.set_cons_zero, List.set_cons_succ]
      refine wpAnyH_take (i := 7) (oi := ⟨some 25, _, _, _, _, _⟩) (v := ?vA7) rfl (by kernel_rfl) (by kernel_rfl) (by kernel_rfl) (fun _ _ _ h => h) (Or.inl ⟨by rfl, ?yA7⟩) (by assumption) ?rA7
      case yA7 =>
        intro wx hSx
        go_simp
        try with_reducible rfl
      try simp only [Act.put, List.setIfInBounds_toArray, List.set_cons_zero, List.set_cons_succ]
      refine wpAnyH_ready (rs := [21]) (by kernel_rfl) (by simp) ?_
      refine AllReadyH.cons (o := ⟨some 39, _, _, _, _, _⟩) rfl (fun K hK => ?_) AllReadyH.nil
      go_simp
      refine hK.out _ _ ⟨Below.drew (((Below.refl _ _).alloc (Nat.le_refl _) _).alloc (by simp) _), by simp [World.cell?_alloc_past]⟩ (fun hHeld => ?_)
      clear hK K
      try simp only [Act.put, List.setIfInBounds_toArray, List.set_cons_zero, List.set_cons_succ]
      refine anyH_narrow (S' := fun w' => (Below w.heap.size w w' ∧ w'.cell? ⟨w.heap.size, 0, none⟩ = some (.int .u8 c)) ∧ w'.cell? ⟨w.heap.size + 1, 0, none⟩ = some (.int .u8 c)) (fun _ h => h.1) _ _ _ _ ?_
      have hN2 : (Below w.heap.size w ((w.alloc (.cells #[.int .u8 c] 5)).alloc (.cells #[.int .u8 c] 5)).drew ∧ ((w.alloc (.cells #[.int .u8 c] 5)).alloc (.cells #[.int .u8 c] 5)).drew.cell? ⟨w.heap.size, 0, none⟩ = some (.int .u8 c)) ∧ ((w.alloc (.cells #[.int .u8 c] 5)).alloc (.cells #[.int .u8 c] 5)).drew.cell? ⟨w.heap.size + 1, 0, none⟩ = some (.int .u8 c) := ⟨hHeld, by simp [World.cell?_alloc_at]⟩
      clear hHeld
      clear hN
      refine wpAnyH_take (i := 22) (oi := ⟨some 40, _, _, _, _, _⟩) (v := ?vA22) rfl (by kernel_rfl) (by kernel_rfl) (by kernel_rfl) (fun _ _ _ h => h) (Or.inl ⟨by rfl, ?yA22⟩) (by assumption) ?rA22
      case yA22 =>
        intro wx hSx
        go_simp
        rw [HcvB.out wx hSx.2]; rfl
      try simp only [Act.put, List.setIfInBounds_toArray, List.set_cons_zero, List.set_cons_succ]
      refine wpAnyH_take (i := 24) (oi := ⟨some 42, _, _, _, _, _⟩) (v := ?vA24) rfl (by kernel_rfl) (by kernel_rfl) (by kernel_rfl) (fun _ _ _ h => h) (Or.inl ⟨by rfl, ?yA24⟩) (by assumption) ?rA24
      case yA24 =>
        intro wx hSx
        go_simp
        try with_reducible rfl
      try simp only [Act.put, List.setIfInBounds_toArray, List.set_cons_zero, List.set_cons_succ]
      refine wpAnyH_take (i := 25) (oi := ⟨some 43, _, _, _, _, _⟩) (v := ?vA25) rfl (by kernel_rfl) (by kernel_rfl) (by kernel_rfl) (fun _ _ _ h => h) (Or.inl ⟨by rfl, ?yA25⟩) (by assumption) ?rA25
      case yA25 =>
        intro wx hSx
        go_simp
        try with_reducible rfl
      try simp only [Act.put, List.setIfInBounds_toArray, List.set_cons_zero, List.set_cons_succ]
      refine wpAnyH_take (i := 27) (oi := ⟨some 45, _, _, _, _, _⟩) (v := ?vA27) rfl (by kernel_rfl) (by kernel_rfl) (by kernel_rfl) (fun _ _ _ h => h) (Or.inl ⟨by rfl, ?yA27⟩) (by assumption) ?rA27
      case yA27 =>
        intro wx hSx
        go_simp
        try with_reducible rfl
      try simp only [Act.put, List.setIfInBounds_toArray, List.set_cons_zero, List.set_cons_succ]
      refine wpAnyH_ready (rs := [28]) (by kernel_rfl) (by simp) ?_
      refine AllReadyH.cons (o := ⟨some 46, _, _, _, _, _⟩) rfl (fun K hK => ?_) AllReadyH.nil
      go_simp
      refine hK.out _ _ ⟨⟨Below.drew ((((Below.refl _ _).alloc (Nat.le_refl _) _).alloc (by simp) _).alloc (by simp; try omega) _), (cells_three w c _).1⟩, (cells_three w c _).2⟩ (fun hHeld => ?_)
      clear hK K
      try simp only [Act.put, List.setIfInBounds_toArray, List.set_cons_zero, List.set_cons_succ]
      refine wpAnyH_take (i := 29) (oi := ⟨some 11, _, _, _, _, _⟩) (v := ?vA29) rfl (by kernel_rfl) (by kernel_rfl) (by kernel_rfl) (fun _ _ _ h => h) (Or.inl ⟨by rfl, ?yA29⟩) (by assumption) ?rA29
      case yA29 =>
        intro wx hSx
        go_simp
        try with_reducible rfl
      try simp only [Act.put, List.setIfInBounds_toArray, List.set_cons_zero, List.set_cons_succ]
      refine wpAnyH_done (by kernel_rfl) ?_ _
      go_wp2_with fail
      go_meet
      exact ⟨rfl, texts7 _ _ _ _ _ _ _ _ _ _ (by simp) (by omega) (by omega) (by omega) (by omega) (by omega) (by omega) (by omega), hHeld.1.1⟩
    case wayB =>
      go_simp
      refine hK.out _ _ (Below.drew ((Below.refl _ _).alloc (Nat.le_refl _) _)) (fun hHeld => ?_)
      clear hK K
      try simp only [Act.put, List.setIfInBounds_toArray, List.set_cons_zero, List.set_cons_succ]
      refine anyH_narrow (S' := fun w' => Below w.heap.size w w' ∧ w'.cell? ⟨w.heap.size, 0, none⟩ = some (.int .u8 c)) (fun _ h => h.1) _ _ _ _ ?_
      have hN : Below w.heap.size w (w.alloc (.cells #[.int .u8 c] 5)).drew ∧ (w.alloc (.cells #[.int .u8 c] 5)).drew.cell? ⟨w.heap.size, 0, none⟩ = some (.int .u8 c) := ⟨hHeld, by simp⟩
      clear hHeld
      refine wpAnyH_take (i := 22) (oi := ⟨some 40, _, _, _, _, _⟩) (v := ?vB22) rfl (by kernel_rfl) (by kernel_rfl) (by kernel_rfl) (fun _ _ _ h => h) (Or.inl ⟨by rfl, ?yB22⟩) (by assumption) ?rB22
      case yB22 =>
        intro wx hSx
        go_simp
        rw [HcvA.out wx hSx.2]; rfl
      try simp only [Act.put, List.setIfInBounds_toArray, List.set_cons_zero, List.set_cons_succ]
      refine wpAnyH_take (i := 24) (oi := ⟨some 42, _, _, _, _, _⟩) (v := ?vB24) rfl (by kernel_rfl) (by kernel_rfl) (by kernel_rfl) (fun _ _ _ h => h) (Or.inl ⟨by rfl, ?yB24⟩) (by assumption) ?rB24
      case yB24 =>
        intro wx hSx
        go_simp
        try with_reducible rfl
      try simp only [Act.put, List.setIfInBounds_toArray, List.set_cons_zero, List.set_cons_succ]
      refine wpAnyH_take (i := 25) (oi := ⟨some 43, _, _, _, _, _⟩) (v := ?vB25) rfl (by kernel_rfl) (by kernel_rfl) (by kernel_rfl) (fun _ _ _ h => h) (Or.inl ⟨by rfl, ?yB25⟩) (by assumption) ?rB25
      case yB25 =>
        intro wx hSx
        go_simp
        try with_reducible rfl
      try simp only [Act.put, List.setIfInBounds_toArray, List.set_cons_zero, List.set_cons_succ]
      refine wpAnyH_take (i := 27) (oi := ⟨some 45, _, _, _, _, _⟩) (v := ?vB27) rfl (by kernel_rfl) (by kernel_rfl) (by kernel_rfl) (fun _ _ _ h => h) (Or.inl ⟨by rfl, ?yB27⟩) (by assumption) ?rB27
      case yB27 =>
        intro wx hSx
        go_simp
        try with_reducible rfl
      try simp only [Act.put, List.setIfInBounds_toArray, List.set_cons_zero, List.set_cons_succ]
      refine wpAnyH_ready (rs := [4]) (by kernel_rfl) (by simp) ?_
      refine AllReadyH.cons (o := ⟨some 22, _, _, _, _, _⟩) rfl (fun K hK => ?_) AllReadyH.nil
      go_simp
      refine hK.out _ _ ⟨Below.drew (((Below.refl _ _).alloc (Nat.le_refl _) _).alloc (by simp) _), by simp [World.cell?_alloc_past]⟩ (fun hHeld => ?_)
      clear hK K
      try simp only [Act.put, List.setIfInBounds_toArray, List.set_cons_zero, List.set_cons_succ]
      refine anyH_narrow (S' := fun w' => (Below w.heap.size w w' ∧ w'.cell? ⟨w.heap.size, 0, none⟩ = some (.int .u8 c)) ∧ w'.cell? ⟨w.heap.size + 1, 0, none⟩ = some (.int .u8 c)) (fun _ h => h.1) _ _ _ _ ?_
      have hN2 : (Below w.heap.size w ((w.alloc (.cells #[.int .u8 c] 5)).alloc (.cells #[.int .u8 c] 5)).drew ∧ ((w.alloc (.cells #[.int .u8 c] 5)).alloc (.cells #[.int .u8 c] 5)).drew.cell? ⟨w.heap.size, 0, none⟩ = some (.int .u8 c)) ∧ ((w.alloc (.cells #[.int .u8 c] 5)).alloc (.cells #[.int .u8 c] 5)).drew.cell? ⟨w.heap.size + 1, 0, none⟩ = some (.int .u8 c) := ⟨hHeld, by simp [World.cell?_alloc_at]⟩
      clear hHeld
      clear hN
      refine wpAnyH_take (i := 5) (oi := ⟨some 23, _, _, _, _, _⟩) (v := ?vB5) rfl (by kernel_rfl) (by kernel_rfl) (by kernel_rfl) (fun _ _ _ h => h) (Or.inl ⟨by rfl, ?yB5⟩) (by assumption) ?rB5
      case yB5 =>
        intro wx hSx
        go_simp
        rw [HcvB.out wx hSx.2]; rfl
      try simp only [Act.put, List.setIfInBounds_toArray, List.set_cons_zero, List.set_cons_succ]
      refine wpAnyH_take (i := 7) (oi := ⟨some 25, _, _, _, _, _⟩) (v := ?vB7) rfl (by kernel_rfl) (by kernel_rfl) (by kernel_rfl) (fun _ _ _ h => h) (Or.inl ⟨by rfl, ?yB7⟩) (by assumption) ?rB7
      case yB7 =>
        intro wx hSx
        go_simp
        try with_reducible rfl
      try simp only [Act.put, List.setIfInBounds_toArray, List.set_cons_zero, List.set_cons_succ]
      refine wpAnyH_ready (rs := [28]) (by kernel_rfl) (by simp) ?_
      refine AllReadyH.cons (o := ⟨some 46, _, _, _, _, _⟩) rfl (fun K hK => ?_) AllReadyH.nil
      go_simp
      refine hK.out _ _ ⟨⟨Below.drew ((((Below.refl _ _).alloc (Nat.le_refl _) _).alloc (by simp) _).alloc (by simp; try omega) _), (cells_three w c _).1⟩, (cells_three w c _).2⟩ (fun hHeld => ?_)
      clear hK K
      try simp only [Act.put, List.setIfInBounds_toArray, List.set_cons_zero, List.set_cons_succ]
      refine wpAnyH_take (i := 29) (oi := ⟨some 11, _, _, _, _, _⟩) (v := ?vB29) rfl (by kernel_rfl) (by kernel_rfl) (by kernel_rfl) (fun _ _ _ h => h) (Or.inl ⟨by rfl, ?yB29⟩) (by assumption) ?rB29
      case yB29 =>
        intro wx hSx
        go_simp
        try with_reducible rfl
      try simp only [Act.put, List.setIfInBounds_toArray, List.set_cons_zero, List.set_cons_succ]
      refine wpAnyH_done (by kernel_rfl) ?_ _
      go_wp2_with fail
      go_meet
      exact ⟨rfl, texts7 _ _ _ _ _ _ _ _ _ _ (by simp) (by omega) (by omega) (by omega) (by omega) (by omega) (by omega) (by omega), hHeld.1.1⟩
  case rest =>
    obtain ⟨rfl, ht0, hb0⟩ := hcut
    clear q1 q2 q3 q4 q5 q6 q7 q8 q9 q10 z64 z33 z36 zg z64' z33' zg' z64'' z33'' zg'' K1 K2 K3 HcvA HcvB hx hy hg hfs
    go_wp2_with fail
    go_loopw [12] (fun i wr => ∃ k : Nat, k ≤ 7 ∧ i = .int .i64 k ∧ TextsAt wr (w.heap.size + 1 + 1) 7 ∧ Below w.heap.size w wr) (fun i _ => 7 - (intOf i).toNat)
    case atStart => exact ⟨0, by omega, rfl, ht0, hb0⟩
    case round =>
      clear ht0 hb0
      obtain ⟨k, hk, rfl, ht, hb⟩ := hrel
      by_cases hlt : k < 7
      · obtain ⟨t, hc, hz⟩ := ht k hlt
        have hzm : t.size ≤ maxLen := by unfold maxLen; omega
        have Ht := Lib.hid ht
        clear ht
        go_wp2_with fail
        refine (server_any t _ hzm).mono ?_
        rintro e w1 ⟨rfl, hb1⟩
        go_wp2_with fail
        refine (refServer_any t _ hzm).mono ?_
        rintro e w' ⟨rfl, rfl⟩
        go_wp2_with fail
        refine (user_any t _ hzm).mono ?_
        rintro e w2 ⟨rfl, hb2⟩
        go_wp2_with fail
        refine (refNamed_any t _ _ hzm).mono ?_
        rintro e w' ⟨rfl, rfl⟩
        go_wp2_with fail
        refine (room_any t _ hzm).mono ?_
        rintro e w3 ⟨rfl, hb3⟩
        go_wp2_with fail
        refine (refNamed_any t _ _ hzm).mono ?_
        rintro e w' ⟨rfl, rfl⟩
        go_wp2_with fail
        refine (event_code t _ hzm).mono ?_
        rintro e w4 ⟨rfl, hb4⟩
        go_wp2_with fail
        refine (refEvent_any t _ hzm).mono ?_
        rintro e w' ⟨rfl, rfl⟩
        go_wp2_with fail
        refine (thread_code t _ hzm).mono ?_
        rintro e w5 ⟨rfl, hb5⟩
        go_wp2_with fail
        refine (refThread_any t _ hzm).mono ?_
        rintro e w' ⟨rfl, rfl⟩
        go_wp2
        go_roundw
        case rel => exact ⟨k + 1, by omega, by go_num, Ht.out.later (later (later (later (later hb1 hb2) hb3) hb4) hb5), later (later (later (later (later hb hb1) hb2) hb3) hb4) hb5⟩
        case measure => simp [intOf]; omega
      · go_wp2_with fail
        refine (lives_any _).mono ?_
        rintro e w2 ⟨rfl, hb2⟩
        go_wp2
        go_ret
        exact ⟨rfl, later hb hb2⟩
end Go.Proofs.Ytobmgjbpgiofpaa
