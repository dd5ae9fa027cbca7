/-
  NameApart: no text is two of a user, a room, an event and a server, and there is a home just of a user and a room; whatever text, sign and lists of numbers are handed in, the statement's function answers true, and nothing that was there is turned.
-/
import Derived.Test.YtobmgjbpgiofpaaLives
import Derived.Test.YtobmgjbpgiofpaaMore
import Derived.Test.YtobmgjbpgiofpaaBack
import Derived.Test.YtobmgjbpgiofpaaTexts
import Derived.Test.YtobmgjbpgiofpaaOrders
import Derived.Deep.DeepCutAuto
import Derived.Deep.RegionHeld3
namespace Go.Proofs.Ytobmgjbpgiofpaa
open Go.RowKit
set_option linter.unusedVariables false
set_option linter.unusedSimpArgs false

theorem low_of_server (t : ByteArray) (h : serverB t = true) : ∃ hz : 0 < t.size, lowI (t[0].toNat : Int) = true := by
  cases hf : filledB hostI t
  · rw [serverB_no t hf] at h; cases h
  · have hz := (filledB_size hf).1
    rw [serverB_yes t hf hz, Bool.and_eq_true] at h
    exact ⟨hz, h.1⟩
theorem named_first (sign : Int) (t : ByteArray) (h : namedB sign t = true) : ∃ hz : 0 < t.size, (t[0].toNat : Int) = sign := by
  unfold namedB at h
  by_cases hz : 0 < t.size
  · rw [dif_pos hz] at h
    simp only [Bool.and_eq_true, beq_iff_eq] at h
    exact ⟨hz, h.1.1.1⟩
  · rw [dif_neg hz] at h; cases h
theorem event_first (t : ByteArray) (h : eventB t = true) : ∃ hz : 0 < t.size, (t[0].toNat : Int) = 36 := by
  unfold eventB at h
  by_cases hz : 0 < t.size
  · rw [dif_pos hz] at h
    simp only [Bool.and_eq_true, beq_iff_eq] at h
    exact ⟨hz, h.1⟩
  · rw [dif_neg hz] at h; cases h
theorem not_low {c : Int} (h : lowI c = true) : c ≠ 64 ∧ c ≠ 33 ∧ c ≠ 36 := by
  refine ⟨?_, ?_, ?_⟩ <;> (intro e; subst e; revert h; decide)

/-- Of the four at most one. -/
theorem apart_cases (t : ByteArray) :
    (namedB 64 t = true ∧ namedB 33 t = false ∧ eventB t = false ∧ serverB t = false) ∨ (namedB 64 t = false ∧ namedB 33 t = true ∧ eventB t = false ∧ serverB t = false)
    ∨ (namedB 64 t = false ∧ namedB 33 t = false ∧ eventB t = true ∧ serverB t = false) ∨ (namedB 64 t = false ∧ namedB 33 t = false ∧ eventB t = false ∧ serverB t = true)
    ∨ (namedB 64 t = false ∧ namedB 33 t = false ∧ eventB t = false ∧ serverB t = false) := by
  cases h4 : serverB t
  · cases h3 : eventB t
    · cases h1 : namedB 64 t
      · cases h2 : namedB 33 t
        · simp
        · simp
      · rw [not_both t h1]; simp
    · obtain ⟨z3, e3⟩ := event_first t h3
      rw [named_other 64 t z3 (by rw [e3]; rfl), named_other 33 t z3 (by rw [e3]; rfl)]
      simp
  · obtain ⟨z4, e4⟩ := low_of_server t h4
    obtain ⟨n1, n2, n3⟩ := not_low e4
    rw [named_other 64 t z4 (beq_eq_false_iff_ne.2 n1), named_other 33 t z4 (beq_eq_false_iff_ne.2 n2), ev_other t z4 (beq_eq_false_iff_ne.2 n3)]
    simp

theorem home_there (t : ByteArray) (h : nameB t = true) : 0 < (homeS t).size := by
  obtain ⟨_, hs, _⟩ := name_halves t h
  exact (low_of_server _ hs).1

set_option maxHeartbeats 6400000 in
set_option maxRecDepth 100000 in
theorem apart_walk (s : ByteArray) (c : Int) (a : Option Addr) (len cap : Nat) (a' : Option Addr) (len' cap' : Nat) (w : World) (hs : s.size ≤ maxLen) (hl : len ≤ maxLen) (hl' : len' ≤ maxLen) (ha : IntsAt w a len) (ha' : IntsAt w a' len') :
    Calls Try.prog 6 #[.string s, .int .u8 c, .slice a len cap, .slice a' len' cap'] w (BoolPost true w) := by
  have hfs := fewS_size s 40
  obtain ⟨z1, hz1⟩ := ha.get
  obtain ⟨z2, hz2⟩ := ha'.get
  have hx := madeS_size ⟨#[]⟩ z1 len 17
  have hy := madeS_size ⟨#[]⟩ z2 len' 17
  have hg := byteS_size c
  have k1 : ∀ wx, Below w.heap.size w wx → Calls Try.prog 10 #[.string s, .int .i64 40] wx fun e w' => e = .returned (.string (fewS s 40)) ∧ wx = w' := fun wx _ => few_any s 40 (by decide) wx hs
  have k2 : ∀ wx, Below w.heap.size w wx → Calls Try.prog 9 #[.slice a len cap, .int .i64 17, .string ⟨#[]⟩] wx fun e w' => e = .returned (.string (madeS ⟨#[]⟩ z1 len 17)) ∧ wx = w' := fun wx hb => made_any a len cap 17 ⟨#[]⟩ z1 wx hl (by decide) (by decide) (hz1.later hb)
  have k3 : ∀ wx, Below w.heap.size w wx → Calls Try.prog 9 #[.slice a' len' cap', .int .i64 17, .string ⟨#[]⟩] wx fun e w' => e = .returned (.string (madeS ⟨#[]⟩ z2 len' 17)) ∧ wx = w' := fun wx hb => made_any a' len' cap' 17 ⟨#[]⟩ z2 wx hl' (by decide) (by decide) (hz2.later hb)
  have K1 := Lib.hid k1
  have K2 := Lib.hid k2
  have K3 := Lib.hid k3
  have HcvA := Lib.hid (fun (wx : World) (h : wx.cell? ⟨w.heap.size, 0, none⟩ = some (.int .u8 c)) => conv_cell w.heap.size c wx h)
  have HcvB := Lib.hid (fun (wx : World) (h : wx.cell? ⟨w.heap.size + 1, 0, none⟩ = some (.int .u8 c)) => conv_cell (w.heap.size + 1) c wx h)
  clear hz1 hz2 ha ha' k1 k2 k3
  generalize fewS s 40 = f at *
  generalize madeS ⟨#[]⟩ z1 len 17 = x at *
  generalize madeS ⟨#[]⟩ z2 len' 17 = y at *
  generalize byteS c = g at *
  have zg : (g ++ x).size ≤ 18 := by rw [ByteArray.size_append]; omega
  have zg' : (g ++ x ++ ByteArray.mk #[58]).size ≤ 19 := by rw [ByteArray.size_append, size1]; omega
  have zg'' : (g ++ x ++ ByteArray.mk #[58] ++ y).size ≤ 36 := by rw [ByteArray.size_append]; omega
  have q4 := add_any g x (by omega) (by omega)
  have q7 := add_any (g ++ x) (ByteArray.mk #[58]) (by omega) (by rw [size1]; omega)
  have q10 := add_any (g ++ x ++ ByteArray.mk #[58]) y (by omega) (by omega)
  go_enter Try.func6, Try.ntmps6
  go_wp2_with fail
  go_cut [9] (fun s9 wx => s9 = .slice (some ⟨w.heap.size + 1 + 1, 0, none⟩) 3 3 ∧ TextsAt wx (w.heap.size + 1 + 1) 3 ∧ Below w.heap.size w wx)
  case first =>
    refine wp_region_held_drew (S := fun w' => Below w.heap.size w w') (by kernel_rfl) (Below.refl _ _).drew (fun hHeld => ?_)
    refine wpAnyH_take (i := 0) (oi := ⟨some 12, _, _, _, _, _⟩) (v := ?v0) rfl (by kernel_rfl) (by kernel_rfl) (by kernel_rfl) (fun _ _ _ h => h) (Or.inl ⟨by rfl, ?y0⟩) (by assumption) ?r0
    case y0 =>
      intro wx hSx
      go_simp
      try with_reducible rfl
    try simp only [Act.put, List.setIfInBounds_toArray, List.set_cons_zero, List.set_cons_succ]
    refine anyH_asks (i := 1) (oi := ⟨some 13, _, _, _, _, _⟩) (v := .string f) rfl (by kernel_rfl) (by kernel_rfl) (by kernel_rfl) (fun _ _ _ h => h) ⟨by rfl, fun wx hSx => ⟨_, _, ?e1, K1.out wx hSx⟩⟩ (by assumption) ?r1
    case e1 => go_simp
    try simp only [Act.put, List.setIfInBounds_toArray, List.set_cons_zero, List.set_cons_succ]
    refine wpAnyH_take (i := 2) (oi := ⟨some 14, _, _, _, _, _⟩) (v := ?v2) rfl (by kernel_rfl) (by kernel_rfl) (by kernel_rfl) (fun _ _ _ h => h) (Or.inl ⟨by rfl, ?y2⟩) (by assumption) ?r2
    case y2 =>
      intro wx hSx
      go_simp
      try with_reducible rfl
    try simp only [Act.put, List.setIfInBounds_toArray, List.set_cons_zero, List.set_cons_succ]
    refine wpAnyH_take (i := 5) (oi := ⟨some 17, _, _, _, _, _⟩) (v := ?v5) rfl (by kernel_rfl) (by kernel_rfl) (by kernel_rfl) (fun _ _ _ h => h) (Or.inl ⟨by rfl, ?y5⟩) (by assumption) ?r5
    case y5 =>
      intro wx hSx
      go_simp
      try with_reducible rfl
    try simp only [Act.put, List.setIfInBounds_toArray, List.set_cons_zero, List.set_cons_succ]
    refine anyH_asks (i := 6) (oi := ⟨some 18, _, _, _, _, _⟩) (v := .string x) rfl (by kernel_rfl) (by kernel_rfl) (by kernel_rfl) (fun _ _ _ h => h) ⟨by rfl, fun wx hSx => ⟨_, _, ?e6, K2.out wx hSx⟩⟩ (by assumption) ?r6
    case e6 => go_simp
    try simp only [Act.put, List.setIfInBounds_toArray, List.set_cons_zero, List.set_cons_succ]
    refine wpAnyH_take (i := 9) (oi := ⟨some 21, _, _, _, _, _⟩) (v := ?v9) rfl (by kernel_rfl) (by kernel_rfl) (by kernel_rfl) (fun _ _ _ h => h) (Or.inl ⟨by rfl, ?y9⟩) (by assumption) ?r9
    case y9 =>
      intro wx hSx
      go_simp
      try with_reducible rfl
    try simp only [Act.put, List.setIfInBounds_toArray, List.set_cons_zero, List.set_cons_succ]
    refine anyH_asks (i := 10) (oi := ⟨some 22, _, _, _, _, _⟩) (v := .string y) rfl (by kernel_rfl) (by kernel_rfl) (by kernel_rfl) (fun _ _ _ h => h) ⟨by rfl, fun wx hSx => ⟨_, _, ?e10, K3.out wx hSx⟩⟩ (by assumption) ?r10
    case e10 => go_simp
    try simp only [Act.put, List.setIfInBounds_toArray, List.set_cons_zero, List.set_cons_succ]
    refine wpAnyH_take (i := 12) (oi := ⟨some 24, _, _, _, _, _⟩) (v := ?v12) rfl (by kernel_rfl) (by kernel_rfl) (by kernel_rfl) (fun _ _ _ h => h) (Or.inl ⟨by rfl, ?y12⟩) (by assumption) ?r12
    case y12 =>
      intro wx hSx
      go_simp
      try with_reducible rfl
    try simp only [Act.put, List.setIfInBounds_toArray, List.set_cons_zero, List.set_cons_succ]
    refine wpAnyH_take (i := 15) (oi := ⟨some 27, _, _, _, _, _⟩) (v := ?v15) rfl (by kernel_rfl) (by kernel_rfl) (by kernel_rfl) (fun _ _ _ h => h) (Or.inl ⟨by rfl, ?y15⟩) (by assumption) ?r15
    case y15 =>
      intro wx hSx
      go_simp
      try with_reducible rfl
    try simp only [Act.put, List.setIfInBounds_toArray, List.set_cons_zero, List.set_cons_succ]
    refine anyH_asks (i := 16) (oi := ⟨some 28, _, _, _, _, _⟩) (v := .string x) rfl (by kernel_rfl) (by kernel_rfl) (by kernel_rfl) (fun _ _ _ h => h) ⟨by rfl, fun wx hSx => ⟨_, _, ?e16, K2.out wx hSx⟩⟩ (by assumption) ?r16
    case e16 => go_simp
    try simp only [Act.put, List.setIfInBounds_toArray, List.set_cons_zero, List.set_cons_succ]
    refine wpAnyH_ready (rs := [3, 13]) (by kernel_rfl) (by simp) ?_
    refine AllReadyH.cons (o := ⟨some 15, _, _, _, _, _⟩) rfl (fun K hK => ?wayA) (AllReadyH.cons (o := ⟨some 25, _, _, _, _, _⟩) rfl (fun K hK => ?wayB) AllReadyH.nil)
    case wayA =>
      go_simp
      refine hK.out _ _ (Below.drew ((Below.refl _ _).alloc (Nat.le_refl _) _)) (fun hHeld => ?_)
      clear hK K
      try simp only [Act.put, List.setIfInBounds_toArray, List.set_cons_zero, List.set_cons_succ]
      refine anyH_narrow (S' := fun w' => Below w.heap.size w w' ∧ w'.cell? ⟨w.heap.size, 0, none⟩ = some (.int .u8 c)) (fun _ h => h.1) _ _ _ _ ?_
      have hN : Below w.heap.size w (w.alloc (.cells #[.int .u8 c] 5)).drew ∧ (w.alloc (.cells #[.int .u8 c] 5)).drew.cell? ⟨w.heap.size, 0, none⟩ = some (.int .u8 c) := ⟨hHeld, by simp⟩
      clear hHeld
      refine wpAnyH_take (i := 4) (oi := ⟨some 16, _, _, _, _, _⟩) (v := ?vA4) rfl (by kernel_rfl) (by kernel_rfl) (by kernel_rfl) (fun _ _ _ h => h) (Or.inl ⟨by rfl, ?yA4⟩) (by assumption) ?rA4
      case yA4 =>
        intro wx hSx
        go_simp
        rw [HcvA.out wx hSx.2]; rfl
      try simp only [Act.put, List.setIfInBounds_toArray, List.set_cons_zero, List.set_cons_succ]
      refine wpAnyH_take (i := 7) (oi := ⟨some 19, _, _, _, _, _⟩) (v := ?vA7) rfl (by kernel_rfl) (by kernel_rfl) (by kernel_rfl) (fun _ _ _ h => h) (Or.inl ⟨by rfl, ?yA7⟩) (by assumption) ?rA7
      case yA7 =>
        intro wx hSx
        go_simp
        try with_reducible rfl
      try simp only [Act.put, List.setIfInBounds_toArray, List.set_cons_zero, List.set_cons_succ]
      refine wpAnyH_take (i := 8) (oi := ⟨some 20, _, _, _, _, _⟩) (v := ?vA8) rfl (by kernel_rfl) (by kernel_rfl) (by kernel_rfl) (fun _ _ _ h => h) (Or.inl ⟨by rfl, ?yA8⟩) (by assumption) ?rA8
      case yA8 =>
        intro wx hSx
        go_simp
        try with_reducible rfl
      try simp only [Act.put, List.setIfInBounds_toArray, List.set_cons_zero, List.set_cons_succ]
      refine wpAnyH_take (i := 11) (oi := ⟨some 23, _, _, _, _, _⟩) (v := ?vA11) rfl (by kernel_rfl) (by kernel_rfl) (by kernel_rfl) (fun _ _ _ h => h) (Or.inl ⟨by rfl, ?yA11⟩) (by assumption) ?rA11
      case yA11 =>
        intro wx hSx
        go_simp
        try with_reducible rfl
      try simp only [Act.put, List.setIfInBounds_toArray, List.set_cons_zero, List.set_cons_succ]
      refine wpAnyH_ready (rs := [13]) (by kernel_rfl) (by simp) ?_
      refine AllReadyH.cons (o := ⟨some 25, _, _, _, _, _⟩) rfl (fun K hK => ?_) AllReadyH.nil
      go_simp
      refine hK.out _ _ ⟨Below.drew (((Below.refl _ _).alloc (Nat.le_refl _) _).alloc (by simp) _), by simp [World.cell?_alloc_past]⟩ (fun hHeld => ?_)
      clear hK K
      try simp only [Act.put, List.setIfInBounds_toArray, List.set_cons_zero, List.set_cons_succ]
      refine anyH_narrow (S' := fun w' => (Below w.heap.size w w' ∧ w'.cell? ⟨w.heap.size, 0, none⟩ = some (.int .u8 c)) ∧ w'.cell? ⟨w.heap.size + 1, 0, none⟩ = some (.int .u8 c)) (fun _ h => h.1) _ _ _ _ ?_
      have hN2 : (Below w.heap.size w ((w.alloc (.cells #[.int .u8 c] 5)).alloc (.cells #[.int .u8 c] 5)).drew ∧ ((w.alloc (.cells #[.int .u8 c] 5)).alloc (.cells #[.int .u8 c] 5)).drew.cell? ⟨w.heap.size, 0, none⟩ = some (.int .u8 c)) ∧ ((w.alloc (.cells #[.int .u8 c] 5)).alloc (.cells #[.int .u8 c] 5)).drew.cell? ⟨w.heap.size + 1, 0, none⟩ = some (.int .u8 c) := ⟨hHeld, by simp [World.cell?_alloc_at]⟩
      clear hHeld
      clear hN
      refine wpAnyH_take (i := 14) (oi := ⟨some 26, _, _, _, _, _⟩) (v := ?vA14) rfl (by kernel_rfl) (by kernel_rfl) (by kernel_rfl) (fun _ _ _ h => h) (Or.inl ⟨by rfl, ?yA14⟩) (by assumption) ?rA14
      case yA14 =>
        intro wx hSx
        go_simp
        rw [HcvB.out wx hSx.2]; rfl
      try simp only [Act.put, List.setIfInBounds_toArray, List.set_cons_zero, List.set_cons_succ]
      refine wpAnyH_take (i := 17) (oi := ⟨some 29, _, _, _, _, _⟩) (v := ?vA17) rfl (by kernel_rfl) (by kernel_rfl) (by kernel_rfl) (fun _ _ _ h => h) (Or.inl ⟨by rfl, ?yA17⟩) (by assumption) ?rA17
      case yA17 =>
        intro wx hSx
        go_simp
        try with_reducible rfl
      try simp only [Act.put, List.setIfInBounds_toArray, List.set_cons_zero, List.set_cons_succ]
      refine wpAnyH_ready (rs := [18]) (by kernel_rfl) (by simp) ?_
      refine AllReadyH.cons (o := ⟨some 30, _, _, _, _, _⟩) rfl (fun K hK => ?_) AllReadyH.nil
      go_simp
      refine hK.out _ _ ⟨⟨Below.drew ((((Below.refl _ _).alloc (Nat.le_refl _) _).alloc (by simp) _).alloc (by simp; try omega) _), (cells_three w c _).1⟩, (cells_three w c _).2⟩ (fun hHeld => ?_)
      clear hK K
      try simp only [Act.put, List.setIfInBounds_toArray, List.set_cons_zero, List.set_cons_succ]
      refine wpAnyH_take (i := 19) (oi := ⟨some 9, _, _, _, _, _⟩) (v := ?vA19) rfl (by kernel_rfl) (by kernel_rfl) (by kernel_rfl) (fun _ _ _ h => h) (Or.inl ⟨by rfl, ?yA19⟩) (by assumption) ?rA19
      case yA19 =>
        intro wx hSx
        go_simp
        try with_reducible rfl
      try simp only [Act.put, List.setIfInBounds_toArray, List.set_cons_zero, List.set_cons_succ]
      refine wpAnyH_done (by kernel_rfl) ?_ _
      go_wp2_with fail
      go_meet
      exact ⟨rfl, texts3 _ _ _ _ _ _ (by simp) (by omega) (by omega) (by omega), hHeld.1.1⟩
    case wayB =>
      go_simp
      refine hK.out _ _ (Below.drew ((Below.refl _ _).alloc (Nat.le_refl _) _)) (fun hHeld => ?_)
      clear hK K
      try simp only [Act.put, List.setIfInBounds_toArray, List.set_cons_zero, List.set_cons_succ]
      refine anyH_narrow (S' := fun w' => Below w.heap.size w w' ∧ w'.cell? ⟨w.heap.size, 0, none⟩ = some (.int .u8 c)) (fun _ h => h.1) _ _ _ _ ?_
      have hN : Below w.heap.size w (w.alloc (.cells #[.int .u8 c] 5)).drew ∧ (w.alloc (.cells #[.int .u8 c] 5)).drew.cell? ⟨w.heap.size, 0, none⟩ = some (.int .u8 c) := ⟨hHeld, by simp⟩
      clear hHeld
      refine wpAnyH_take (i := 14) (oi := ⟨some 26, _, _, _, _, _⟩) (v := ?vB14) rfl (by kernel_rfl) (by kernel_rfl) (by kernel_rfl) (fun _ _ _ h => h) (Or.inl ⟨by rfl, ?yB14⟩) (by assumption) ?rB14
      case yB14 =>
        intro wx hSx
        go_simp
        rw [HcvA.out wx hSx.2]; rfl
      try simp only [Act.put, List.setIfInBounds_toArray, List.set_cons_zero, List.set_cons_succ]
      refine wpAnyH_take (i := 17) (oi := ⟨some 29, _, _, _, _, _⟩) (v := ?vB17) rfl (by kernel_rfl) (by kernel_rfl) (by kernel_rfl) (fun _ _ _ h => h) (Or.inl ⟨by rfl, ?yB17⟩) (by assumption) ?rB17
      case yB17 =>
        intro wx hSx
        go_simp
        try with_reducible rfl
      try simp only [Act.put, List.setIfInBounds_toArray, List.set_cons_zero, List.set_cons_succ]
      refine wpAnyH_ready (rs := [3]) (by kernel_rfl) (by simp) ?_
      refine AllReadyH.cons (o := ⟨some 15, _, _, _, _, _⟩) rfl (fun K hK => ?_) AllReadyH.nil
      go_simp
      refine hK.out _ _ ⟨Below.drew (((Below.refl _ _).alloc (Nat.le_refl _) _).alloc (by simp) _), by simp [World.cell?_alloc_past]⟩ (fun hHeld => ?_)
      clear hK K
      try simp only [Act.put, List.setIfInBounds_toArray, List.set_cons_zero, List.set_cons_succ]
      refine anyH_narrow (S' := fun w' => (Below w.heap.size w w' ∧ w'.cell? ⟨w.heap.size, 0, none⟩ = some (.int .u8 c)) ∧ w'.cell? ⟨w.heap.size + 1, 0, none⟩ = some (.int .u8 c)) (fun _ h => h.1) _ _ _ _ ?_
      have hN2 : (Below w.heap.size w ((w.alloc (.cells #[.int .u8 c] 5)).alloc (.cells #[.int .u8 c] 5)).drew ∧ ((w.alloc (.cells #[.int .u8 c] 5)).alloc (.cells #[.int .u8 c] 5)).drew.cell? ⟨w.heap.size, 0, none⟩ = some (.int .u8 c)) ∧ ((w.alloc (.cells #[.int .u8 c] 5)).alloc (.cells #[.int .u8 c] 5)).drew.cell? ⟨w.heap.size + 1, 0, none⟩ = some (.int .u8 c) := ⟨hHeld, by simp [World.cell?_alloc_at]⟩
      clear hHeld
      clear hN
      refine wpAnyH_take (i := 4) (oi := ⟨some 16, _, _, _, _, _⟩) (v := ?vB4) rfl (by kernel_rfl) (by kernel_rfl) (by kernel_rfl) (fun _ _ _ h => h) (Or.inl ⟨by rfl, ?yB4⟩) (by assumption) ?rB4
      case yB4 =>
        intro wx hSx
        go_simp
        rw [HcvB.out wx hSx.2]; rfl
      try simp only [Act.put, List.setIfInBounds_toArray, List.set_cons_zero, List.set_cons_succ]
      refine wpAnyH_take (i := 7) (oi := ⟨some 19, _, _, _, _, _⟩) (v := ?vB7) rfl (by kernel_rfl) (by kernel_rfl) (by kernel_rfl) (fun _ _ _ h => h) (Or.inl ⟨by rfl, ?yB7⟩) (by assumption) ?rB7
      case yB7 =>
        intro wx hSx
        go_simp
        try with_reducible rfl
      try simp only [Act.put, List.setIfInBounds_toArray, List.set_cons_zero, List.set_cons_succ]
      refine wpAnyH_take (i := 8) (oi := ⟨some 20, _, _, _, _, _⟩) (v := ?vB8) rfl (by kernel_rfl) (by kernel_rfl) (by kernel_rfl) (fun _ _ _ h => h) (Or.inl ⟨by rfl, ?yB8⟩) (by assumption) ?rB8
      case yB8 =>
        intro wx hSx
        go_simp
        try with_reducible rfl
      try simp only [Act.put, List.setIfInBounds_toArray, List.set_cons_zero, List.set_cons_succ]
      refine wpAnyH_take (i := 11) (oi := ⟨some 23, _, _, _, _, _⟩) (v := ?vB11) rfl (by kernel_rfl) (by kernel_rfl) (by kernel_rfl) (fun _ _ _ h => h) (Or.inl ⟨by rfl, ?yB11⟩) (by assumption) ?rB11
      case yB11 =>
        intro wx hSx
        go_simp
        try with_reducible rfl
      try simp only [Act.put, List.setIfInBounds_toArray, List.set_cons_zero, List.set_cons_succ]
      refine wpAnyH_ready (rs := [18]) (by kernel_rfl) (by simp) ?_
      refine AllReadyH.cons (o := ⟨some 30, _, _, _, _, _⟩) rfl (fun K hK => ?_) AllReadyH.nil
      go_simp
      refine hK.out _ _ ⟨⟨Below.drew ((((Below.refl _ _).alloc (Nat.le_refl _) _).alloc (by simp) _).alloc (by simp; try omega) _), (cells_three w c _).1⟩, (cells_three w c _).2⟩ (fun hHeld => ?_)
      clear hK K
      try simp only [Act.put, List.setIfInBounds_toArray, List.set_cons_zero, List.set_cons_succ]
      refine wpAnyH_take (i := 19) (oi := ⟨some 9, _, _, _, _, _⟩) (v := ?vB19) rfl (by kernel_rfl) (by kernel_rfl) (by kernel_rfl) (fun _ _ _ h => h) (Or.inl ⟨by rfl, ?yB19⟩) (by assumption) ?rB19
      case yB19 =>
        intro wx hSx
        go_simp
        try with_reducible rfl
      try simp only [Act.put, List.setIfInBounds_toArray, List.set_cons_zero, List.set_cons_succ]
      refine wpAnyH_done (by kernel_rfl) ?_ _
      go_wp2_with fail
      go_meet
      exact ⟨rfl, texts3 _ _ _ _ _ _ (by simp) (by omega) (by omega) (by omega), hHeld.1.1⟩
  case rest =>
    obtain ⟨rfl, ht0, hb0⟩ := hcut
    clear q4 q7 q10 zg zg' zg'' K1 K2 K3 HcvA HcvB hx hy hg hfs
    go_wp2_with fail
    go_loopw [10] (fun i wr => ∃ k : Nat, k ≤ 3 ∧ i = .int .i64 k ∧ TextsAt wr (w.heap.size + 1 + 1) 3 ∧ Below w.heap.size w wr) (fun i _ => 3 - (intOf i).toNat)
    case atStart => exact ⟨0, by omega, rfl, ht0, hb0⟩
    case round =>
      clear ht0 hb0
      obtain ⟨k, hk, rfl, ht, hb⟩ := hrel
      by_cases hlt : k < 3
      · obtain ⟨t, hc, hz⟩ := ht k hlt
        have hzm : t.size ≤ maxLen := by unfold maxLen; omega
        have hz2 : t.size ≤ 281474976710656 := by omega
        have hkeep : wr.cell? ⟨w.heap.size + 1 + 1, k, none⟩ = some (.string t) ∧ KeepsAt w (w.heap.size + 1 + 1) 3 wr := ⟨hc, ht, hb⟩
        have u0 := fun wx => user_any t wx hzm
        have r0 := fun wx => room_any t wx hzm
        have e0 := fun wx => event_code t wx hzm
        have s0 := fun wx => server_any t wx hzm
        have h0 := fun wx => home_any t wx hz2
        clear ht hb hc
        rcases apart_cases t with ⟨c1, c2, c3, c4⟩ | ⟨c1, c2, c3, c4⟩ | ⟨c1, c2, c3, c4⟩ | ⟨c1, c2, c3, c4⟩ | ⟨c1, c2, c3, c4⟩
        · have hn : nameB t = true := by unfold nameB; rw [c1, c2]; rfl
          rw [c1] at u0
          rw [c2] at r0
          rw [c3] at e0
          rw [c4] at s0
          have hh := not_empty _ (home_there t hn)
          have hh2 : ((homeS t).toList != []) = true := by rw [bne_iff_ne]; intro e; rw [e] at hh; cases hh
          generalize homeS t = hm at *
          have U := Lib.hid u0
          have R := Lib.hid r0
          have E := Lib.hid e0
          have S := Lib.hid s0
          have H := Lib.hid h0
          clear c1 c2 c3 c4 u0 r0 e0 s0 h0 hn
          have cc1 := hkeep.1
          have KK1 := Lib.hid hkeep
          clear hkeep
          go_wp2_with fail
          refine (U.out _).mono ?_
          rintro e w1 ⟨rfl, hb1⟩
          have hk1 := keepAt_call KK1.out hb1
          clear KK1 cc1 hb1
          have cc2 := hk1.1
          have KK2 := Lib.hid hk1
          clear hk1
          go_wp2_with fail
          refine (R.out _).mono ?_
          rintro e w2 ⟨rfl, hb2⟩
          have hk2 := keepAt_call KK2.out hb2
          clear KK2 cc2 hb2
          have cc3 := hk2.1
          have KK3 := Lib.hid hk2
          clear hk2
          go_wp2_with fail
          refine (E.out _).mono ?_
          rintro e w3 ⟨rfl, hb3⟩
          have hk3 := keepAt_call KK3.out hb3
          clear KK3 cc3 hb3
          have cc4 := hk3.1
          have KK4 := Lib.hid hk3
          clear hk3
          go_wp2_with fail
          refine (S.out _).mono ?_
          rintro e w4 ⟨rfl, hb4⟩
          have hk4 := keepAt_call KK4.out hb4
          clear KK4 cc4 hb4
          have cc5 := hk4.1
          go_wp2_with fail
          have KK5 := Lib.hid hk4
          clear hk4
          refine wp_region_held_drew (S := fun w' => w'.cell? ⟨w.heap.size + 1 + 1, k, none⟩ = some (.string t) ∧ KeepsAt w (w.heap.size + 1 + 1) 3 w') (by kernel_rfl) (keepAt_drew KK5.out) (fun hHeld => ?_)
          clear cc5
          refine wpAnyH_take (i := 0) (oi := ⟨some 63, _, _, _, _, _⟩) (v := ?vu0) rfl (by kernel_rfl) (by kernel_rfl) (by kernel_rfl) (fun _ _ _ h => h) (Or.inl ⟨by rfl, ?yu0⟩) hHeld ?ru0
          case yu0 =>
            intro wx hSx
            go_simp
            try with_reducible rfl
          try simp only [Act.put, List.setIfInBounds_toArray, List.set_cons_zero, List.set_cons_succ]
          refine wpAnyH_take (i := 1) (oi := ⟨some 64, _, _, _, _, _⟩) (v := ?vu1) rfl (by kernel_rfl) (by kernel_rfl) (by kernel_rfl) (fun _ _ _ h => h) (Or.inl ⟨by rfl, ?yu1⟩) hHeld ?ru1
          case yu1 =>
            intro wx hSx
            go_simp
            try with_reducible rfl
          try simp only [Act.put, List.setIfInBounds_toArray, List.set_cons_zero, List.set_cons_succ]
          refine wpAnyH_take (i := 2) (oi := ⟨some 65, _, _, _, _, _⟩) (v := ?vu2) rfl (by kernel_rfl) (by kernel_rfl) (by kernel_rfl) (fun _ _ _ h => h) (Or.inl ⟨by rfl, ?yu2⟩) hHeld ?ru2
          case yu2 =>
            intro wx hSx
            go_simp
            try with_reducible rfl
          try simp only [Act.put, List.setIfInBounds_toArray, List.set_cons_zero, List.set_cons_succ]
          refine wpAnyH_take (i := 3) (oi := ⟨some 66, _, _, _, _, _⟩) (v := ?vu3) rfl (by kernel_rfl) (by kernel_rfl) (by kernel_rfl) (fun _ _ _ h => h) (Or.inl ⟨by rfl, ?yu3⟩) hHeld ?ru3
          case yu3 =>
            intro wx hSx
            go_simp
            try with_reducible rfl
          try simp only [Act.put, List.setIfInBounds_toArray, List.set_cons_zero, List.set_cons_succ]
          refine wpAnyH_take (i := 4) (oi := ⟨some 67, _, _, _, _, _⟩) (v := ?vu4) rfl (by kernel_rfl) (by kernel_rfl) (by kernel_rfl) (fun _ _ _ h => h) (Or.inl ⟨by rfl, ?yu4⟩) hHeld ?ru4
          case yu4 =>
            intro wx hSx
            go_simp
            try with_reducible rfl
          try simp only [Act.put, List.setIfInBounds_toArray, List.set_cons_zero, List.set_cons_succ]
          refine wpAnyH_take (i := 5) (oi := ⟨some 68, _, _, _, _, _⟩) (v := ?vu5) rfl (by kernel_rfl) (by kernel_rfl) (by kernel_rfl) (fun _ _ _ h => h) (Or.inl ⟨by rfl, ?yu5⟩) hHeld ?ru5
          case yu5 =>
            intro wx hSx
            go_simp
            try with_reducible rfl
          try simp only [Act.put, List.setIfInBounds_toArray, List.set_cons_zero, List.set_cons_succ]
          refine wpAnyH_take (i := 6) (oi := ⟨some 69, _, _, _, _, _⟩) (v := ?vu6) rfl (by kernel_rfl) (by kernel_rfl) (by kernel_rfl) (fun _ _ _ h => h) (Or.inl ⟨by rfl, ?yu6⟩) hHeld ?ru6
          case yu6 =>
            intro wx hSx
            go_simp
            try with_reducible rfl
          try simp only [Act.put, List.setIfInBounds_toArray, List.set_cons_zero, List.set_cons_succ]
          refine wpAnyH_take (i := 9) (oi := ⟨some 72, _, _, _, _, _⟩) (v := ?vu9) rfl (by kernel_rfl) (by kernel_rfl) (by kernel_rfl) (fun _ _ _ h => h) (Or.inl ⟨by rfl, ?yu9⟩) hHeld ?ru9
          case yu9 =>
            intro wx hSx
            go_simp
            try with_reducible rfl
          try simp only [Act.put, List.setIfInBounds_toArray, List.set_cons_zero, List.set_cons_succ]
          refine wpAnyH_take (i := 10) (oi := ⟨some 73, _, _, _, _, _⟩) (v := ?vu10) rfl (by kernel_rfl) (by kernel_rfl) (by kernel_rfl) (fun _ _ _ h => h) (Or.inl ⟨by rfl, ?yu10⟩) hHeld ?ru10
          case yu10 =>
            intro wx hSx
            go_simp
            try with_reducible rfl
          try simp only [Act.put, List.setIfInBounds_toArray, List.set_cons_zero, List.set_cons_succ]
          refine wpAnyH_take (i := 11) (oi := ⟨some 74, _, _, _, _, _⟩) (v := ?vu11) rfl (by kernel_rfl) (by kernel_rfl) (by kernel_rfl) (fun _ _ _ h => h) (Or.inl ⟨by rfl, ?yu11⟩) hHeld ?ru11
          case yu11 =>
            intro wx hSx
            go_simp
            try with_reducible rfl
          try simp only [Act.put, List.setIfInBounds_toArray, List.set_cons_zero, List.set_cons_succ]
          refine wpAnyH_take (i := 12) (oi := ⟨some 75, _, _, _, _, _⟩) (v := ?vu12) rfl (by kernel_rfl) (by kernel_rfl) (by kernel_rfl) (fun _ _ _ h => h) (Or.inl ⟨by rfl, ?yu12⟩) hHeld ?ru12
          case yu12 =>
            intro wx hSx
            go_simp
            try with_reducible rfl
          try simp only [Act.put, List.setIfInBounds_toArray, List.set_cons_zero, List.set_cons_succ]
          refine wpAnyH_ready (rs := [7]) (by kernel_rfl) (by simp) ?_
          refine AllReadyH.cons (o := ⟨some 70, _, _, _, _, _⟩) rfl (fun K hK => ?_) AllReadyH.nil
          go_simp
          refine (H.out _).mono ?_
          rintro e wn ⟨rfl, hbn⟩
          refine hK.out _ _ (keepAt_call hHeld hbn) (fun hHeld => ?_)
          clear hK K
          try simp only [Act.put, List.setIfInBounds_toArray, List.set_cons_zero, List.set_cons_succ]
          refine wpAnyH_take (i := 8) (oi := ⟨some 71, _, _, _, _, _⟩) (v := ?vu8) rfl (by kernel_rfl) (by kernel_rfl) (by kernel_rfl) (fun _ _ _ h => h) (Or.inl ⟨by rfl, ?yu8⟩) hHeld ?ru8
          case yu8 =>
            intro wx hSx
            go_simp
            try with_reducible rfl
          try simp only [Act.put, List.setIfInBounds_toArray, List.set_cons_zero, List.set_cons_succ]
          refine wpAnyH_ready (rs := [13]) (by kernel_rfl) (by simp) ?_
          refine AllReadyH.cons (o := ⟨some 76, _, _, _, _, _⟩) rfl (fun K hK => ?_) AllReadyH.nil
          go_simp
          refine (U.out _).mono ?_
          rintro e wn ⟨rfl, hbn⟩
          refine hK.out _ _ (keepAt_call hHeld hbn) (fun hHeld => ?_)
          clear hK K
          try simp only [Act.put, List.setIfInBounds_toArray, List.set_cons_zero, List.set_cons_succ]
          refine wpAnyH_take (i := 14) (oi := ⟨some 77, _, _, _, _, _⟩) (v := ?vu14) rfl (by kernel_rfl) (by kernel_rfl) (by kernel_rfl) (fun _ _ _ h => h) (Or.inl ⟨by rfl, ?yu14⟩) hHeld ?ru14
          case yu14 =>
            intro wx hSx
            go_simp
            try with_reducible rfl
          try simp only [Act.put, List.setIfInBounds_toArray, List.set_cons_zero, List.set_cons_succ]
          refine wpAnyH_take (i := 15) (oi := ⟨some 78, _, _, _, _, _⟩) (v := undef) rfl (by kernel_rfl) (by kernel_rfl) (by kernel_rfl) (fun _ _ _ h => h) (Or.inr ⟨by rfl, rfl⟩) hHeld ?ru15
          try simp only [Act.put, List.setIfInBounds_toArray, List.set_cons_zero, List.set_cons_succ]
          refine wpAnyH_take (i := 16) (oi := ⟨some 79, _, _, _, _, _⟩) (v := undef) rfl (by kernel_rfl) (by kernel_rfl) (by kernel_rfl) (fun _ _ _ h => h) (Or.inr ⟨by rfl, rfl⟩) hHeld ?ru16
          try simp only [Act.put, List.setIfInBounds_toArray, List.set_cons_zero, List.set_cons_succ]
          refine wpAnyH_take (i := 17) (oi := ⟨some 80, _, _, _, _, _⟩) (v := undef) rfl (by kernel_rfl) (by kernel_rfl) (by kernel_rfl) (fun _ _ _ h => h) (Or.inr ⟨by rfl, rfl⟩) hHeld ?ru17
          try simp only [Act.put, List.setIfInBounds_toArray, List.set_cons_zero, List.set_cons_succ]
          refine wpAnyH_take (i := 18) (oi := ⟨some 81, _, _, _, _, _⟩) (v := undef) rfl (by kernel_rfl) (by kernel_rfl) (by kernel_rfl) (fun _ _ _ h => h) (Or.inr ⟨by rfl, rfl⟩) hHeld ?ru18
          try simp only [Act.put, List.setIfInBounds_toArray, List.set_cons_zero, List.set_cons_succ]
          refine wpAnyH_take (i := 19) (oi := ⟨some 82, _, _, _, _, _⟩) (v := undef) rfl (by kernel_rfl) (by kernel_rfl) (by kernel_rfl) (fun _ _ _ h => h) (Or.inr ⟨by rfl, rfl⟩) hHeld ?ru19
          try simp only [Act.put, List.setIfInBounds_toArray, List.set_cons_zero, List.set_cons_succ]
          refine wpAnyH_take (i := 20) (oi := ⟨some 83, _, _, _, _, _⟩) (v := ?vu20) rfl (by kernel_rfl) (by kernel_rfl) (by kernel_rfl) (fun _ _ _ h => h) (Or.inl ⟨by rfl, ?yu20⟩) hHeld ?ru20
          case yu20 =>
            intro wx hSx
            go_simp
            try with_reducible rfl
          try simp only [Act.put, List.setIfInBounds_toArray, List.set_cons_zero, List.set_cons_succ]
          refine wpAnyH_take (i := 21) (oi := ⟨some 84, _, _, _, _, _⟩) (v := ?vu21) rfl (by kernel_rfl) (by kernel_rfl) (by kernel_rfl) (fun _ _ _ h => h) (Or.inl ⟨by rfl, ?yu21⟩) hHeld ?ru21
          case yu21 =>
            intro wx hSx
            go_simp
            try with_reducible rfl
          try simp only [Act.put, List.setIfInBounds_toArray, List.set_cons_zero, List.set_cons_succ]
          refine wpAnyH_take (i := 22) (oi := ⟨some 85, _, _, _, _, _⟩) (v := ?vu22) rfl (by kernel_rfl) (by kernel_rfl) (by kernel_rfl) (fun _ _ _ h => h) (Or.inl ⟨by rfl, ?yu22⟩) hHeld ?ru22
          case yu22 =>
            intro wx hSx
            go_simp
            try with_reducible rfl
          try simp only [Act.put, List.setIfInBounds_toArray, List.set_cons_zero, List.set_cons_succ]
          refine wpAnyH_done (by kernel_rfl) ?_ _
          have HK := Lib.hid hHeld.2
          clear hHeld
          go_wp2
          go_roundw
          case rel => exact ⟨k + 1, by omega, by go_num, HK.out.1, HK.out.2⟩
          case measure => simp [intOf]; omega
        · have hn : nameB t = true := by unfold nameB; rw [c1, c2]; rfl
          rw [c1] at u0
          rw [c2] at r0
          rw [c3] at e0
          rw [c4] at s0
          have hh := not_empty _ (home_there t hn)
          have hh2 : ((homeS t).toList != []) = true := by rw [bne_iff_ne]; intro e; rw [e] at hh; cases hh
          generalize homeS t = hm at *
          have U := Lib.hid u0
          have R := Lib.hid r0
          have E := Lib.hid e0
          have S := Lib.hid s0
          have H := Lib.hid h0
          clear c1 c2 c3 c4 u0 r0 e0 s0 h0 hn
          have cc1 := hkeep.1
          have KK1 := Lib.hid hkeep
          clear hkeep
          go_wp2_with fail
          refine (U.out _).mono ?_
          rintro e w1 ⟨rfl, hb1⟩
          have hk1 := keepAt_call KK1.out hb1
          clear KK1 cc1 hb1
          have cc2 := hk1.1
          have KK2 := Lib.hid hk1
          clear hk1
          go_wp2_with fail
          refine (R.out _).mono ?_
          rintro e w2 ⟨rfl, hb2⟩
          have hk2 := keepAt_call KK2.out hb2
          clear KK2 cc2 hb2
          have cc3 := hk2.1
          have KK3 := Lib.hid hk2
          clear hk2
          go_wp2_with fail
          refine (E.out _).mono ?_
          rintro e w3 ⟨rfl, hb3⟩
          have hk3 := keepAt_call KK3.out hb3
          clear KK3 cc3 hb3
          have cc4 := hk3.1
          have KK4 := Lib.hid hk3
          clear hk3
          go_wp2_with fail
          refine (S.out _).mono ?_
          rintro e w4 ⟨rfl, hb4⟩
          have hk4 := keepAt_call KK4.out hb4
          clear KK4 cc4 hb4
          have cc5 := hk4.1
          go_wp2_with fail
          go_region_held3 (fun w' => w'.cell? ⟨w.heap.size + 1 + 1, k, none⟩ = some (.string t) ∧ KeepsAt w (w.heap.size + 1 + 1) 3 w') (first | exact keepAt_drew (by assumption) | exact keepAt_call (by assumption) (by assumption) | assumption)
            (first
              | (go_at_call 21; refine (H.out _).mono ?_; rintro e w1 ⟨rfl, hbx⟩)
              | (go_at_call 13; refine (U.out _).mono ?_; rintro e w1 ⟨rfl, hbx⟩)
              | (go_at_call 15; refine (R.out _).mono ?_; rintro e w1 ⟨rfl, hbx⟩))
          all_goals
            rename_i hH
            have HK := Lib.hid hH.2
            clear hH
            go_wp2
            go_roundw
            case rel => exact ⟨k + 1, by omega, by go_num, HK.out.1, HK.out.2⟩
            case measure => simp [intOf]; omega
        · have hn : nameB t = false := by unfold nameB; rw [c1, c2]; rfl
          rw [c1] at u0
          rw [c2] at r0
          rw [c3] at e0
          rw [c4] at s0
          rw [(splits_no t hn).2.2] at h0
          have U := Lib.hid u0
          have R := Lib.hid r0
          have E := Lib.hid e0
          have S := Lib.hid s0
          have H := Lib.hid h0
          clear c1 c2 c3 c4 u0 r0 e0 s0 h0 hn
          have cc1 := hkeep.1
          have KK1 := Lib.hid hkeep
          clear hkeep
          go_wp2_with fail
          refine (U.out _).mono ?_
          rintro e w1 ⟨rfl, hb1⟩
          have hk1 := keepAt_call KK1.out hb1
          clear KK1 cc1 hb1
          have cc2 := hk1.1
          have KK2 := Lib.hid hk1
          clear hk1
          go_wp2_with fail
          refine (R.out _).mono ?_
          rintro e w2 ⟨rfl, hb2⟩
          have hk2 := keepAt_call KK2.out hb2
          clear KK2 cc2 hb2
          have cc3 := hk2.1
          have KK3 := Lib.hid hk2
          clear hk2
          go_wp2_with fail
          refine (E.out _).mono ?_
          rintro e w3 ⟨rfl, hb3⟩
          have hk3 := keepAt_call KK3.out hb3
          clear KK3 cc3 hb3
          have cc4 := hk3.1
          have KK4 := Lib.hid hk3
          clear hk3
          go_wp2_with fail
          refine (S.out _).mono ?_
          rintro e w4 ⟨rfl, hb4⟩
          have hk4 := keepAt_call KK4.out hb4
          clear KK4 cc4 hb4
          have cc5 := hk4.1
          go_wp2_with fail
          go_region_held3 (fun w' => w'.cell? ⟨w.heap.size + 1 + 1, k, none⟩ = some (.string t) ∧ KeepsAt w (w.heap.size + 1 + 1) 3 w') (first | exact keepAt_drew (by assumption) | exact keepAt_call (by assumption) (by assumption) | assumption)
            (first
              | (go_at_call 21; refine (H.out _).mono ?_; rintro e w1 ⟨rfl, hbx⟩)
              | (go_at_call 13; refine (U.out _).mono ?_; rintro e w1 ⟨rfl, hbx⟩)
              | (go_at_call 15; refine (R.out _).mono ?_; rintro e w1 ⟨rfl, hbx⟩))
          all_goals
            rename_i hH
            have HK := Lib.hid hH.2
            clear hH
            go_wp2
            go_roundw
            case rel => exact ⟨k + 1, by omega, by go_num, HK.out.1, HK.out.2⟩
            case measure => simp [intOf]; omega
        · have hn : nameB t = false := by unfold nameB; rw [c1, c2]; rfl
          rw [c1] at u0
          rw [c2] at r0
          rw [c3] at e0
          rw [c4] at s0
          rw [(splits_no t hn).2.2] at h0
          have U := Lib.hid u0
          have R := Lib.hid r0
          have E := Lib.hid e0
          have S := Lib.hid s0
          have H := Lib.hid h0
          clear c1 c2 c3 c4 u0 r0 e0 s0 h0 hn
          have cc1 := hkeep.1
          have KK1 := Lib.hid hkeep
          clear hkeep
          go_wp2_with fail
          refine (U.out _).mono ?_
          rintro e w1 ⟨rfl, hb1⟩
          have hk1 := keepAt_call KK1.out hb1
          clear KK1 cc1 hb1
          have cc2 := hk1.1
          have KK2 := Lib.hid hk1
          clear hk1
          go_wp2_with fail
          refine (R.out _).mono ?_
          rintro e w2 ⟨rfl, hb2⟩
          have hk2 := keepAt_call KK2.out hb2
          clear KK2 cc2 hb2
          have cc3 := hk2.1
          have KK3 := Lib.hid hk2
          clear hk2
          go_wp2_with fail
          refine (E.out _).mono ?_
          rintro e w3 ⟨rfl, hb3⟩
          have hk3 := keepAt_call KK3.out hb3
          clear KK3 cc3 hb3
          have cc4 := hk3.1
          have KK4 := Lib.hid hk3
          clear hk3
          go_wp2_with fail
          refine (S.out _).mono ?_
          rintro e w4 ⟨rfl, hb4⟩
          have hk4 := keepAt_call KK4.out hb4
          clear KK4 cc4 hb4
          have cc5 := hk4.1
          go_wp2_with fail
          go_region_held3 (fun w' => w'.cell? ⟨w.heap.size + 1 + 1, k, none⟩ = some (.string t) ∧ KeepsAt w (w.heap.size + 1 + 1) 3 w') (first | exact keepAt_drew (by assumption) | exact keepAt_call (by assumption) (by assumption) | assumption)
            (first
              | (go_at_call 21; refine (H.out _).mono ?_; rintro e w1 ⟨rfl, hbx⟩)
              | (go_at_call 13; refine (U.out _).mono ?_; rintro e w1 ⟨rfl, hbx⟩)
              | (go_at_call 15; refine (R.out _).mono ?_; rintro e w1 ⟨rfl, hbx⟩))
          all_goals
            rename_i hH
            have HK := Lib.hid hH.2
            clear hH
            go_wp2
            go_roundw
            case rel => exact ⟨k + 1, by omega, by go_num, HK.out.1, HK.out.2⟩
            case measure => simp [intOf]; omega
        · have hn : nameB t = false := by unfold nameB; rw [c1, c2]; rfl
          rw [c1] at u0
          rw [c2] at r0
          rw [c3] at e0
          rw [c4] at s0
          rw [(splits_no t hn).2.2] at h0
          have U := Lib.hid u0
          have R := Lib.hid r0
          have E := Lib.hid e0
          have S := Lib.hid s0
          have H := Lib.hid h0
          clear c1 c2 c3 c4 u0 r0 e0 s0 h0 hn
          have cc1 := hkeep.1
          have KK1 := Lib.hid hkeep
          clear hkeep
          go_wp2_with fail
          refine (U.out _).mono ?_
          rintro e w1 ⟨rfl, hb1⟩
          have hk1 := keepAt_call KK1.out hb1
          clear KK1 cc1 hb1
          have cc2 := hk1.1
          have KK2 := Lib.hid hk1
          clear hk1
          go_wp2_with fail
          refine (R.out _).mono ?_
          rintro e w2 ⟨rfl, hb2⟩
          have hk2 := keepAt_call KK2.out hb2
          clear KK2 cc2 hb2
          have cc3 := hk2.1
          have KK3 := Lib.hid hk2
          clear hk2
          go_wp2_with fail
          refine (E.out _).mono ?_
          rintro e w3 ⟨rfl, hb3⟩
          have hk3 := keepAt_call KK3.out hb3
          clear KK3 cc3 hb3
          have cc4 := hk3.1
          have KK4 := Lib.hid hk3
          clear hk3
          go_wp2_with fail
          refine (S.out _).mono ?_
          rintro e w4 ⟨rfl, hb4⟩
          have hk4 := keepAt_call KK4.out hb4
          clear KK4 cc4 hb4
          have cc5 := hk4.1
          go_wp2_with fail
          go_region_held3 (fun w' => w'.cell? ⟨w.heap.size + 1 + 1, k, none⟩ = some (.string t) ∧ KeepsAt w (w.heap.size + 1 + 1) 3 w') (first | exact keepAt_drew (by assumption) | exact keepAt_call (by assumption) (by assumption) | assumption)
            (first
              | (go_at_call 21; refine (H.out _).mono ?_; rintro e w1 ⟨rfl, hbx⟩)
              | (go_at_call 13; refine (U.out _).mono ?_; rintro e w1 ⟨rfl, hbx⟩)
              | (go_at_call 15; refine (R.out _).mono ?_; rintro e w1 ⟨rfl, hbx⟩))
          all_goals
            rename_i hH
            have HK := Lib.hid hH.2
            clear hH
            go_wp2
            go_roundw
            case rel => exact ⟨k + 1, by omega, by go_num, HK.out.1, HK.out.2⟩
            case measure => simp [intOf]; omega
      · go_wp2_with fail
        refine (lives_any _).mono ?_
        rintro e w2 ⟨rfl, hb2⟩
        go_wp2
        go_ret
        exact ⟨rfl, later hb hb2⟩
end Go.Proofs.Ytobmgjbpgiofpaa
