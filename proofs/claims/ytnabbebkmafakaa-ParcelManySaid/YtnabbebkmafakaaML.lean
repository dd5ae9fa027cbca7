/-
  The document's small world; its Good, Public, Local, May.
-/
import Derived.Test.YtnabbebkmafakaaMH
import Derived.Test.YtnabbebkmafakaaMD
import Derived.Test.YtnabbebkmafakaaMF
import Derived.Test.YtnabbebkmafakaaMI
import Derived.Test.YtnabbebkmafakaaMJ
import Derived.Deep.DeepCutAuto
namespace Go.Proofs.Ytnabbebkmafakaa
open Go.RowKit
set_option linter.unusedVariables false
set_option linter.unusedSimpArgs false
set_option maxRecDepth 20000

def serverS (n : Int) : ByteArray := serverK (aroundN n 3)
theorem around_nat (n : Int) {m : Nat} (h : 0 < m) : aroundI n (m : Int) = ((aroundN n (m : Int) : Nat) : Int) := (aroundN_cast n (by omega)).symm
theorem serverK_cell {k : Nat} (h : k < 3) : (#[.string ⟨#[115, 49]⟩, .string ⟨#[115, 50]⟩, .string ⟨#[115, 51]⟩] : Array Value)[k]? = some (.string (serverK k)) := by
  rcases (show k = 0 ∨ k = 1 ∨ k = 2 by omega) with rfl | rfl | rfl <;> rfl
theorem roomK_cell {k : Nat} (h : k < 2) : (#[.string ⟨#[33, 114, 58, 115, 49]⟩, .string ⟨#[33, 113, 58, 115, 50]⟩] : Array Value)[k]? = some (.string (roomK k)) := by
  rcases (show k = 0 ∨ k = 1 by omega) with rfl | rfl <;> rfl
def partK (k : Nat) : ByteArray := strOf [64, UInt8.ofNat (97 + k), 58]
theorem partK_cell {k : Nat} (h : k < 3) : (#[.string ⟨#[64, 97, 58]⟩, .string ⟨#[64, 98, 58]⟩, .string ⟨#[64, 99, 58]⟩] : Array Value)[k]? = some (.string (partK k)) := by
  rcases (show k = 0 ∨ k = 1 ∨ k = 2 by omega) with rfl | rfl | rfl <;> rfl

set_option maxHeartbeats 800000 in
theorem serverOf_any (n : Int) (w : World) (h0 : -9223372036854775808 ≤ n) (h1 : n ≤ 9223372036854775807) :
    Calls Try.prog 26 #[.int .i64 n] w fun e w' => e = .returned (.string (serverS n)) ∧ Below w.heap.size w w' := by
  have hk := aroundN_lt n (m := 3) (by decide)
  have ha := around_nat n (m := 3) (by decide)
  have hc := serverK_cell hk
  unfold serverS
  simp only [Int.cast_ofNat_Int] at hk ha hc
  generalize aroundN n 3 = k at *
  go_enter Try.func26, Try.ntmps26
  go_wp2_with fail
  have hb := Lib.hid (below_new w (.cells #[.string ⟨#[115, 49]⟩, .string ⟨#[115, 50]⟩, .string ⟨#[115, 51]⟩] 9))
  have hh := (cell_at (heap_alloc_new w (.cells #[.string ⟨#[115, 49]⟩, .string ⟨#[115, 50]⟩, .string ⟨#[115, 51]⟩] 9)) k).trans hc
  generalize hW : (w.alloc (.cells #[.string ⟨#[115, 49]⟩, .string ⟨#[115, 50]⟩, .string ⟨#[115, 51]⟩] 9)) = W at *
  clear hW hc
  refine (around_any n 3 _ h0 h1 (by decide) (by decide)).mono ?_
  rintro e wx ⟨rfl, rfl⟩
  rw [ha]
  have hk2 : (k : Int) < 3 := by omega
  go_wp2_with fail
  go_ret
  exact ⟨rfl, hb.out⟩

set_option maxHeartbeats 800000 in
theorem roomOf_any (n : Int) (w : World) (h0 : -9223372036854775808 ≤ n) (h1 : n ≤ 9223372036854775807) :
    Calls Try.prog 67 #[.int .i64 n] w fun e w' => e = .returned (.string (roomS n)) ∧ Below w.heap.size w w' := by
  have hk := aroundN_lt n (m := 2) (by decide)
  have ha := around_nat n (m := 2) (by decide)
  have hc := roomK_cell hk
  unfold roomS
  simp only [Int.cast_ofNat_Int] at hk ha hc
  generalize aroundN n 2 = k at *
  go_enter Try.func67, Try.ntmps67
  go_wp2_with fail
  have hb := Lib.hid (below_new w (.cells #[.string ⟨#[33, 114, 58, 115, 49]⟩, .string ⟨#[33, 113, 58, 115, 50]⟩] 9))
  have hh := (cell_at (heap_alloc_new w (.cells #[.string ⟨#[33, 114, 58, 115, 49]⟩, .string ⟨#[33, 113, 58, 115, 50]⟩] 9)) k).trans hc
  generalize hW : (w.alloc (.cells #[.string ⟨#[33, 114, 58, 115, 49]⟩, .string ⟨#[33, 113, 58, 115, 50]⟩] 9)) = W at *
  clear hW hc
  refine (around_any n 2 _ h0 h1 (by decide) (by decide)).mono ?_
  rintro e wx ⟨rfl, rfl⟩
  rw [ha]
  have hk2 : (k : Int) < 2 := by omega
  go_wp2_with fail
  go_ret
  exact ⟨rfl, hb.out⟩

theorem around_self : ∀ j : Fin 3, aroundN ((j.val : Nat) : Int) 3 = j.val := by decide +kernel
theorem around_self9 : ∀ j : Fin 9, aroundN ((j.val : Nat) : Int) 9 = j.val := by decide +kernel
theorem user_parts : ∀ k : Fin 9, partK (k.val / 3) ++ serverK (k.val % 3) = userK k.val := by decide +kernel
theorem partK_size (k : Nat) : (partK k).size = 3 := rfl
theorem serverK_size (k : Nat) : (serverK k).size = 2 := rfl

set_option maxHeartbeats 3200000 in
theorem userOf_any (n : Int) (w : World) (h0 : -9223372036854775808 ≤ n) (h1 : n ≤ 9223372036854775807) :
    Calls Try.prog 66 #[.int .i64 n] w fun e w' => e = .returned (.string (userS n)) ∧ Below w.heap.size w w' := by
  have hk := aroundN_lt n (m := 9) (by decide)
  have ha := around_nat n (m := 9) (by decide)
  unfold userS
  simp only [Int.cast_ofNat_Int] at hk ha
  generalize aroundN n 9 = k at *
  have HU := Lib.hid (user_parts ⟨k, hk⟩)
  have hc := partK_cell (show k / 3 < 3 by omega)
  have HS := Lib.hid (fun w => serverOf_any ((k % 3 : Nat) : Int) w (by omega) (by omega))
  unfold serverS at HS
  rw [show aroundN ((k % 3 : Nat) : Int) 3 = k % 3 from around_self ⟨k % 3, by omega⟩] at HS
  have HD := Lib.hid (add_any (partK (k / 3)) (serverK (k % 3)) (by rw [partK_size]; omega) (by rw [serverK_size]; omega))
  rw [show partK (k / 3) ++ serverK (k % 3) = userK k from HU.out] at HD
  clear HU
  have hm3 : ((k : Int)).tmod 3 = ((k % 3 : Nat) : Int) := by rw [Int.tmod_eq_emod_of_nonneg (by omega)]; omega
  have hd3 : ((k : Int)).tdiv 3 = ((k / 3 : Nat) : Int) := by rw [Int.tdiv_eq_ediv_of_nonneg (by omega)]; omega
  have hk3 : k / 3 < 3 := by omega
  generalize userK k = uk at *
  generalize serverK (k % 3) = sk at *
  generalize partK (k / 3) = pk at *
  go_enter Try.func66, Try.ntmps66
  go_wp2_with fail
  refine (around_any n 9 _ h0 h1 (by decide) (by decide)).mono ?_
  rintro e wx ⟨rfl, rfl⟩
  rw [ha]
  go_upto_region 2 with (fail)
  refine wp_region_held_drew (S := fun w' => Below w.heap.size w w') (by kernel_rfl) (Below.drew (Below.refl _ _)) (fun hHeld => ?_)
  generalize hwd : w.drew = wd at hHeld ⊢
  clear hwd
  refine wpAnyH_take (i := 1) (oi := ⟨some 7, _, _, _, _, _⟩) (v := ?v1) rfl (by kernel_rfl) (by kernel_rfl) (by kernel_rfl) (fun _ _ _ h => h) (Or.inl ⟨by rfl, ?y1⟩) hHeld ?r1
  case y1 =>
    intro wx hSx
    go_simp
    try with_reducible rfl
  try simp only [Act.put, List.setIfInBounds_toArray, List.set_cons_zero, List.set_cons_succ]
  refine wpAnyH_take (i := 2) (oi := ⟨some 8, _, _, _, _, _⟩) (v := ?v2) rfl (by kernel_rfl) (by kernel_rfl) (by kernel_rfl) (fun _ _ _ h => h) (Or.inl ⟨by rfl, ?y2⟩) hHeld ?r2
  case y2 =>
    intro wx hSx
    go_simp
    first | done | (rw [hd3]; rfl) | rfl
  try simp only [Act.put, List.setIfInBounds_toArray, List.set_cons_zero, List.set_cons_succ]
  refine wpAnyH_take (i := 5) (oi := ⟨some 11, _, _, _, _, _⟩) (v := ?v5) rfl (by kernel_rfl) (by kernel_rfl) (by kernel_rfl) (fun _ _ _ h => h) (Or.inl ⟨by rfl, ?y5⟩) hHeld ?r5
  case y5 =>
    intro wx hSx
    go_simp
    try with_reducible rfl
  try simp only [Act.put, List.setIfInBounds_toArray, List.set_cons_zero, List.set_cons_succ]
  refine wpAnyH_take (i := 6) (oi := ⟨some 12, _, _, _, _, _⟩) (v := ?v6) rfl (by kernel_rfl) (by kernel_rfl) (by kernel_rfl) (fun _ _ _ h => h) (Or.inl ⟨by rfl, ?y6⟩) hHeld ?r6
  case y6 =>
    intro wx hSx
    go_simp
    first | done | (rw [hm3]; rfl) | rfl
  try simp only [Act.put, List.setIfInBounds_toArray, List.set_cons_zero, List.set_cons_succ]
  rw [IntWalk.i64_in ((k : Int) / 3) (by omega), show ((k : Int) / 3) = ((k / 3 : Nat) : Int) by omega, show ((k : Int) % 3) = ((k % 3 : Nat) : Int) by omega]
  clear hm3 hd3
  generalize hq : k / 3 = q at *
  generalize hj : k % 3 = j at *
  clear hq hj
  have hk4 : ((q : Nat) : Int) < 3 := by omega
  refine wpAnyH_ready (rs := [0, 7]) (by kernel_rfl) (by simp) ?_
  refine AllReadyH.cons (o := ⟨some 6, _, _, _, _, _⟩) rfl (fun K hK => ?wayA) (AllReadyH.cons (o := ⟨some 13, _, _, _, _, _⟩) rfl (fun K hK => ?wayB) AllReadyH.nil)
  case wayA =>
    have hnew := heap_alloc_new wd (.cells #[.string ⟨#[64, 97, 58]⟩, .string ⟨#[64, 98, 58]⟩, .string ⟨#[64, 99, 58]⟩] 9)
    have hH := later hHeld (below_new wd (.cells #[.string ⟨#[64, 97, 58]⟩, .string ⟨#[64, 98, 58]⟩, .string ⟨#[64, 99, 58]⟩] 9))
    go_simp
    refine hK.out _ _ hH (fun _ => ?_)
    clear hK K hHeld
    try simp only [Act.put, List.setIfInBounds_toArray, List.set_cons_zero, List.set_cons_succ]
    generalize hW3 : World.alloc _ _ = W3 at hnew hH ⊢
    clear hW3
    generalize hgg : wd.heap.size = g at hnew ⊢
    clear hgg
    refine anyH_narrow (S' := fun w' => Below w.heap.size w w' ∧ w'.heap[g]? = some (.cells #[.string ⟨#[64, 97, 58]⟩, .string ⟨#[64, 98, 58]⟩, .string ⟨#[64, 99, 58]⟩] 9 (0, 0))) (fun _ h => h.1) _ _ _ _ ?_
    have hHeld : Below w.heap.size w W3 ∧ W3.heap[g]? = _ := ⟨hH, hnew⟩
    clear hH hnew
    refine wpAnyH_take (i := 3) (oi := ⟨some 9, _, _, _, _, _⟩) (v := ?vA3) rfl (by kernel_rfl) (by kernel_rfl) (by kernel_rfl) (fun _ _ _ h => h) (Or.inl ⟨by rfl, ?yA3⟩) hHeld ?rA3
    case yA3 =>
      intro wx hSx
      go_simp
      try with_reducible rfl
    try simp only [Act.put, List.setIfInBounds_toArray, List.set_cons_zero, List.set_cons_succ]
    refine wpAnyH_take (i := 4) (oi := ⟨some 10, _, _, _, _, _⟩) (v := ?vA4) rfl (by kernel_rfl) (by kernel_rfl) (by kernel_rfl) (fun _ _ _ h => h) (Or.inl ⟨by rfl, ?yA4⟩) hHeld ?rA4
    case yA4 =>
      intro wx hSx
      have hcc := (cell_at hSx.2 q).trans hc
      go_simp
      try with_reducible rfl
    try simp only [Act.put, List.setIfInBounds_toArray, List.set_cons_zero, List.set_cons_succ]
    refine wpAnyH_ready (rs := [7]) (by kernel_rfl) (by simp) ?_
    refine AllReadyH.cons (o := ⟨some 13, _, _, _, _, _⟩) rfl (fun K hK => ?_) AllReadyH.nil
    go_simp
    refine (HS.out _).mono ?_
    rintro e wn ⟨rfl, hbn⟩
    have hH : Below w.heap.size w wn ∧ wn.heap[g]? = _ := ⟨later hHeld.1 hbn, (hbn.block _ (heap_lt hHeld.2)).trans hHeld.2⟩
    refine hK.out _ _ hH (fun _ => ?_)
    replace hHeld := hH
    clear hK K hbn hH
    try simp only [Act.put, List.setIfInBounds_toArray, List.set_cons_zero, List.set_cons_succ]
    refine wpAnyH_take (i := 8) (oi := ⟨some 14, _, _, _, _, _⟩) (v := ?vA8) rfl (by kernel_rfl) (by kernel_rfl) (by kernel_rfl) (fun _ _ _ h => h) (Or.inl ⟨by rfl, ?yA8⟩) hHeld ?rA8
    case yA8 =>
      intro wx hSx
      have had := HD.out
      go_simp
      try with_reducible rfl
    try simp only [Act.put, List.setIfInBounds_toArray, List.set_cons_zero, List.set_cons_succ]
    refine wpAnyH_take (i := 9) (oi := ⟨some 2, _, _, _, _, _⟩) (v := ?vA9) rfl (by kernel_rfl) (by kernel_rfl) (by kernel_rfl) (fun _ _ _ h => h) (Or.inl ⟨by rfl, ?yA9⟩) hHeld ?rA9
    case yA9 =>
      intro wx hSx
      go_simp
      try with_reducible rfl
    try simp only [Act.put, List.setIfInBounds_toArray, List.set_cons_zero, List.set_cons_succ]
    refine wpAnyH_done (by kernel_rfl) ?_ _
    have HB := Lib.hid hHeld.1
    clear hHeld
    go_wp2_with fail
    go_ret
    exact ⟨rfl, HB.out⟩
  case wayB =>
    go_simp
    refine (HS.out _).mono ?_
    rintro e wn ⟨rfl, hbn⟩
    replace hHeld := later hHeld hbn
    refine hK.out _ _ hHeld (fun _ => ?_)
    clear hK K hbn
    try simp only [Act.put, List.setIfInBounds_toArray, List.set_cons_zero, List.set_cons_succ]
    refine wpAnyH_ready (rs := [0]) (by kernel_rfl) (by simp) ?_
    refine AllReadyH.cons (o := ⟨some 6, _, _, _, _, _⟩) rfl (fun K hK => ?_) AllReadyH.nil
    have hnew := heap_alloc_new wn (.cells #[.string ⟨#[64, 97, 58]⟩, .string ⟨#[64, 98, 58]⟩, .string ⟨#[64, 99, 58]⟩] 9)
    have hH := later hHeld (below_new wn (.cells #[.string ⟨#[64, 97, 58]⟩, .string ⟨#[64, 98, 58]⟩, .string ⟨#[64, 99, 58]⟩] 9))
    go_simp
    refine hK.out _ _ hH (fun _ => ?_)
    clear hK K hHeld
    try simp only [Act.put, List.setIfInBounds_toArray, List.set_cons_zero, List.set_cons_succ]
    generalize hW3 : World.alloc _ _ = W3 at hnew hH ⊢
    clear hW3
    generalize hgg : wn.heap.size = g at hnew ⊢
    clear hgg
    refine anyH_narrow (S' := fun w' => Below w.heap.size w w' ∧ w'.heap[g]? = some (.cells #[.string ⟨#[64, 97, 58]⟩, .string ⟨#[64, 98, 58]⟩, .string ⟨#[64, 99, 58]⟩] 9 (0, 0))) (fun _ h => h.1) _ _ _ _ ?_
    have hHeld : Below w.heap.size w W3 ∧ W3.heap[g]? = _ := ⟨hH, hnew⟩
    clear hH hnew
    refine wpAnyH_take (i := 3) (oi := ⟨some 9, _, _, _, _, _⟩) (v := ?vB3) rfl (by kernel_rfl) (by kernel_rfl) (by kernel_rfl) (fun _ _ _ h => h) (Or.inl ⟨by rfl, ?yB3⟩) hHeld ?rB3
    case yB3 =>
      intro wx hSx
      go_simp
      try with_reducible rfl
    try simp only [Act.put, List.setIfInBounds_toArray, List.set_cons_zero, List.set_cons_succ]
    refine wpAnyH_take (i := 4) (oi := ⟨some 10, _, _, _, _, _⟩) (v := ?vB4) rfl (by kernel_rfl) (by kernel_rfl) (by kernel_rfl) (fun _ _ _ h => h) (Or.inl ⟨by rfl, ?yB4⟩) hHeld ?rB4
    case yB4 =>
      intro wx hSx
      have hcc := (cell_at hSx.2 q).trans hc
      go_simp
      try with_reducible rfl
    try simp only [Act.put, List.setIfInBounds_toArray, List.set_cons_zero, List.set_cons_succ]
    refine wpAnyH_take (i := 8) (oi := ⟨some 14, _, _, _, _, _⟩) (v := ?vB8) rfl (by kernel_rfl) (by kernel_rfl) (by kernel_rfl) (fun _ _ _ h => h) (Or.inl ⟨by rfl, ?yB8⟩) hHeld ?rB8
    case yB8 =>
      intro wx hSx
      have had := HD.out
      go_simp
      try with_reducible rfl
    try simp only [Act.put, List.setIfInBounds_toArray, List.set_cons_zero, List.set_cons_succ]
    refine wpAnyH_take (i := 9) (oi := ⟨some 2, _, _, _, _, _⟩) (v := ?vB9) rfl (by kernel_rfl) (by kernel_rfl) (by kernel_rfl) (fun _ _ _ h => h) (Or.inl ⟨by rfl, ?yB9⟩) hHeld ?rB9
    case yB9 =>
      intro wx hSx
      go_simp
      try with_reducible rfl
    try simp only [Act.put, List.setIfInBounds_toArray, List.set_cons_zero, List.set_cons_succ]
    refine wpAnyH_done (by kernel_rfl) ?_ _
    have HB := Lib.hid hHeld.1
    clear hHeld
    go_wp2_with fail
    go_ret
    exact ⟨rfl, HB.out⟩

theorem dec_conv (w : World) (k : Nat) (hk : k < 10) (c : Int) (hc : c = 48 + (k : Int)) : (convert 29 9 (.slice (some ⟨w.heap.size, 0, none⟩) 1 1)).run Try.prog (w.alloc (.cells #[.int .u8 c] 5)) = .ok (.string (strOf [UInt8.ofNat (48 + k)])) (w.alloc (.cells #[.int .u8 c] 5)) := by
  refine conv_row (lo := 0) ((own_new w [UInt8.ofNat (48 + k)] #[.int .u8 c] 1 rfl ?_ (by decide) _ rfl).row (Nat.zero_le _))
  subst hc
  simp [bVs, bV]
  omega

set_option maxHeartbeats 3200000 in
theorem decimal_any (k : Nat) (w : World) (hk : k < 10) :
    Calls Try.prog 84 #[.int .i64 (k : Int)] w fun e w' => e = .returned (.string (strOf [UInt8.ofNat (48 + k)])) ∧ Below w.heap.size w w' := by
  have hb := Lib.hid (fun c => below_new w (.cells #[.int .u8 c] 5))
  rcases (show k = 0 ∨ k = 1 ∨ k = 2 ∨ k = 3 ∨ k = 4 ∨ k = 5 ∨ k = 6 ∨ k = 7 ∨ k = 8 ∨ k = 9 by omega) with rfl | rfl | rfl | rfl | rfl | rfl | rfl | rfl | rfl | rfl
  · have hc := dec_conv w 0 (by decide) 48 (by decide)
    go_enter Try.func84, Try.ntmps84
    go_wp2_with fail
    go_ret
    exact ⟨rfl, hb.out _⟩
  · have hc := dec_conv w 1 (by decide) 49 (by decide)
    go_enter Try.func84, Try.ntmps84
    go_wp2_with fail
    go_ret
    exact ⟨rfl, hb.out _⟩
  · have hc := dec_conv w 2 (by decide) 50 (by decide)
    go_enter Try.func84, Try.ntmps84
    go_wp2_with fail
    go_ret
    exact ⟨rfl, hb.out _⟩
  · have hc := dec_conv w 3 (by decide) 51 (by decide)
    go_enter Try.func84, Try.ntmps84
    go_wp2_with fail
    go_ret
    exact ⟨rfl, hb.out _⟩
  · have hc := dec_conv w 4 (by decide) 52 (by decide)
    go_enter Try.func84, Try.ntmps84
    go_wp2_with fail
    go_ret
    exact ⟨rfl, hb.out _⟩
  · have hc := dec_conv w 5 (by decide) 53 (by decide)
    go_enter Try.func84, Try.ntmps84
    go_wp2_with fail
    go_ret
    exact ⟨rfl, hb.out _⟩
  · have hc := dec_conv w 6 (by decide) 54 (by decide)
    go_enter Try.func84, Try.ntmps84
    go_wp2_with fail
    go_ret
    exact ⟨rfl, hb.out _⟩
  · have hc := dec_conv w 7 (by decide) 55 (by decide)
    go_enter Try.func84, Try.ntmps84
    go_wp2_with fail
    go_ret
    exact ⟨rfl, hb.out _⟩
  · have hc := dec_conv w 8 (by decide) 56 (by decide)
    go_enter Try.func84, Try.ntmps84
    go_wp2_with fail
    go_ret
    exact ⟨rfl, hb.out _⟩
  · have hc := dec_conv w 9 (by decide) 57 (by decide)
    go_enter Try.func84, Try.ntmps84
    go_wp2_with fail
    go_ret
    exact ⟨rfl, hb.out _⟩

theorem eventK_add : ∀ k : Fin 9, (⟨#[36, 101]⟩ : ByteArray) ++ strOf [UInt8.ofNat (48 + k.val)] = eventK k.val := by decide +kernel
set_option maxHeartbeats 800000 in
theorem eventOf_any (n : Int) (w : World) (h0 : -9223372036854775808 ≤ n) (h1 : n ≤ 9223372036854775807) :
    Calls Try.prog 68 #[.int .i64 n] w fun e w' => e = .returned (.string (eventS n)) ∧ Below w.heap.size w w' := by
  have hk := aroundN_lt n (m := 9) (by decide)
  have ha := around_nat n (m := 9) (by decide)
  unfold eventS
  simp only [Int.cast_ofNat_Int] at hk ha
  generalize aroundN n 9 = k at *
  have hd := add_any ⟨#[36, 101]⟩ (strOf [UInt8.ofNat (48 + k)]) (by decide) (by rw [strOf_size]; exact (by decide : 1 ≤ 10000))
  rw [show (⟨#[36, 101]⟩ : ByteArray) ++ strOf [UInt8.ofNat (48 + k)] = eventK k from eventK_add ⟨k, hk⟩] at hd
  have HD := Lib.hid (fun w => decimal_any k w (by omega))
  generalize strOf [UInt8.ofNat (48 + k)] = sd at *
  generalize eventK k = ek at *
  go_enter Try.func68, Try.ntmps68
  go_wp2_with fail
  refine (around_any n 9 _ h0 h1 (by decide) (by decide)).mono ?_
  rintro e wx ⟨rfl, rfl⟩
  rw [ha]
  go_wp2_with fail
  refine (HD.out _).mono ?_
  rintro e w1 ⟨rfl, hb⟩
  replace hb := Lib.hid hb
  go_wp2_with fail
  go_ret
  exact ⟨rfl, hb.out⟩

set_option maxHeartbeats 800000 in
theorem threadOf_any (n : Int) (w : World) (h0 : -9223372036854775808 ≤ n) (h1 : n ≤ 9223372036854775807) :
    Calls Try.prog 69 #[.int .i64 n] w fun e w' => e = .returned (.string (threadS n)) ∧ Below w.heap.size w w' := by
  have hk := aroundN_lt n (m := 11) (by decide)
  have ha := around_nat n (m := 11) (by decide)
  unfold threadS
  simp only [Int.cast_ofNat_Int] at hk ha
  generalize aroundN n 11 = k at *
  have hz := Lib.hid (Below.refl w.heap.size w)
  go_enter Try.func69, Try.ntmps69
  go_wp2_with fail
  refine (around_any n 11 _ h0 h1 (by decide) (by decide)).mono ?_
  rintro e wx ⟨rfl, rfl⟩
  rw [ha]
  by_cases h9 : k = 9
  · subst h9
    go_wp2_with fail
    go_ret
    exact ⟨rfl, hz.out⟩
  · have q9 : ((k : Int) == 9) = false := by rw [beq_eq_false_iff_ne]; omega
    by_cases h10 : k = 10
    · subst h10
      go_wp2_with fail
      go_ret
      exact ⟨rfl, hz.out⟩
    · have q10 : ((k : Int) == 10) = false := by rw [beq_eq_false_iff_ne]; omega
      have HE := Lib.hid (fun w => eventOf_any (k : Int) w (by omega) (by omega))
      unfold eventS at HE
      rw [show aroundN (k : Int) 9 = k from around_self9 ⟨k, by omega⟩] at HE
      have ht : threadK k = eventK k := by unfold threadK; rw [if_neg h9, if_neg h10]
      go_wp2_with fail
      refine (HE.out _).mono ?_
      rintro e w1 ⟨rfl, hb⟩
      replace hb := Lib.hid hb
      go_wp2_with fail
      go_ret
      exact ⟨by rw [ht]; rfl, hb.out⟩
end Go.Proofs.Ytnabbebkmafakaa

namespace Go.Proofs.Ytnabbebkmafakaa
open Go.RowKit
set_option linter.unusedVariables false
set_option linter.unusedSimpArgs false
set_option maxRecDepth 20000

/-- One is handed in, one is answered, one is made. -/
def Gd (w : World) (box : Array Value) (g : Nat) (cs : Array Value) (w' : World) : Prop := Two w box w' ∧ w'.heap[g]? = some (.cells cs 50 (0, 0)) ∧ w.heap.size + 1 < g
theorem Gd.later {w w' w'' : World} {box cs : Array Value} {g : Nat} (h : Gd w box g cs w') (hb : Below w'.heap.size w' w'') : Gd w box g cs w'' := ⟨h.1.later hb, (hb.block _ (heap_lt h.2.1)).trans h.2.1, h.2.2⟩
theorem Gd.drew {w w' : World} {box cs : Array Value} {g : Nat} (h : Gd w box g cs w') : Gd w box g cs w'.drew := ⟨h.1.drew, h.2⟩
theorem Gd.store {w w' : World} {box cs : Array Value} {g i : Nat} {u : Value} (h : Gd w box g cs w') : Gd w box g (cs.setIfInBounds i u) (w'.setCell ⟨g, i, none⟩ u) := by
  obtain ⟨⟨h1, h2, ⟨X, hX, h3⟩⟩, h4, h5⟩ := h
  exact ⟨⟨h1.setCell (by simp; omega) _, (Below.heap_setCell w' _ u _ (by simp; omega)).trans h2, ⟨X, hX, (Below.heap_setCell w' _ u _ (by simp; omega)).trans h3⟩⟩, heap_set h4 i u, h5⟩

theorem good1_def (e : Edu) : good1 e = ⟨1, roomS e.span, userS e.state, eventS (evI e), threadS (e.thread.size : Int), e.priv, false, 0, 0, aroundI e.tick 100, aroundI e.stamp 9⟩ := rfl
theorem good2_def (e : Edu) : good2 e = ⟨2, roomS e.span, userS e.state, ⟨#[]⟩, ⟨#[]⟩, false, e.on, bif e.on then 1 + aroundI e.span 60 else 0, 0, aroundI e.tick 100, aroundI e.stamp 9⟩ := by
  unfold good2
  cases e.on <;> rfl
theorem good3_def (e : Edu) : good3 e = ⟨3, ⟨#[]⟩, userS e.state, ⟨#[]⟩, ⟨#[]⟩, false, false, 0, aroundI e.span 3, aroundI e.tick 100, aroundI e.stamp 9⟩ := rfl

set_option maxHeartbeats 6400000 in
theorem good_any (e : Edu) (w : World) (hf : e.fits) (hv : e.event.size ≤ maxLen) (ht : e.thread.size ≤ maxLen) :
    Calls Try.prog 49 #[e.val] w fun x w' => x = .returned (goodE e).val ∧ Below w.heap.size w w' := by
  have HW := Lib.hid (good_ways e)
  obtain ⟨⟨k0, k1⟩, ⟨s0, s1⟩, ⟨z0, z1⟩, ⟨c0, c1⟩, ⟨m0, m1⟩⟩ := hf
  unfold maxLen at hv ht
  have b3 := aroundI_bd e.kind 3 (by decide)
  have b9 := aroundI_bd e.tick 9 (by decide)
  have b60 := aroundI_bd e.span 60 (by decide)
  have HU := Lib.hid (fun w => userOf_any e.state w z0 z1)
  have HR := Lib.hid (fun w => roomOf_any e.span w s0 s1)
  have HV := Lib.hid (fun w => eventOf_any (evI e) w (evI_bd e).1 (evI_bd e).2)
  have HT := Lib.hid (fun w => threadOf_any (e.thread.size : Int) w (by omega) (by omega))
  have Hk := Lib.hid (fun w => around_any e.kind 3 w k0 k1 (by decide) (by decide))
  have Hc := Lib.hid (fun w => around_any e.tick 100 w c0 c1 (by decide) (by decide))
  have Hm := Lib.hid (fun w => around_any e.stamp 9 w m0 m1 (by decide) (by decide))
  have Hc9 := Lib.hid (fun w => around_any e.tick 9 w c0 c1 (by decide) (by decide))
  have Hs60 := Lib.hid (fun w => around_any e.span 60 w s0 s1 (by decide) (by decide))
  have Hs3 := Lib.hid (fun w => around_any e.span 3 w s0 s1 (by decide) (by decide))
  have H1 := Lib.hid (good1_def e)
  have H2 := Lib.hid (good2_def e)
  have H3 := Lib.hid (good3_def e)
  have hev : IntKind.i64.wrap ((e.event.size : Int) + aroundI e.tick 9) = evI e := rfl
  generalize evI e = ev at *
  generalize goodE e = ge at *
  generalize good1 e = g1 at *
  generalize good2 e = g2 at *
  generalize good3 e = g3 at *
  obtain ⟨k, r, u, v, t, p, o, s, z, c, m⟩ := e
  simp only [Edu.val] at *
  generalize aroundI k 3 = a3 at *
  generalize aroundI c 100 = ac at *
  generalize aroundI m 9 = am at *
  generalize aroundI c 9 = a9 at *
  generalize aroundI s 60 = a60 at *
  generalize aroundI s 3 = as3 at *
  generalize userS z = us at *
  generalize roomS s = rs at *
  generalize eventS _ = vs at *
  generalize threadS _ = ts at *
  clear k0 k1 s0 s1 z0 z1 c0 c1 m0 m1
  go_enter Try.func49, Try.ntmps49
  go_upto_region 1 with (fail)
  generalize hW : ((w.alloc (.cells #[.int .i64 k, .string r, .string u, .string v, .string t, .bool p, .bool o, .int .i64 s, .int .i64 z, .int .i64 c, .int .i64 m] 50)).alloc (.cells #[.int .i64 0, .string ⟨#[]⟩, .string ⟨#[]⟩, .string ⟨#[]⟩, .string ⟨#[]⟩, .bool false, .bool false, .int .i64 0, .int .i64 0, .int .i64 0, .int .i64 0] 50)) = W
  have hTw := (two_new hW rfl).drew
  have hlW : w.heap.size + 1 < W.heap.size := by rw [← hW, size_alloc1, size_alloc1]; omega
  clear hW
  go_cut [3] (fun s3 wx => ∃ g, s3 = .pointer (some ⟨g, 0, none⟩) ∧ Hid (Gd w #[.int .i64 k, .string r, .string u, .string v, .string t, .bool p, .bool o, .int .i64 s, .int .i64 z, .int .i64 c, .int .i64 m] g #[.int .i64 (1 + a3), .string ⟨#[]⟩, .string us, .string ⟨#[]⟩, .string ⟨#[]⟩, .bool false, .bool false, .int .i64 0, .int .i64 0, .int .i64 ac, .int .i64 am] wx))
  case first =>
    refine wp_region_held_drew (S := fun w' => Two w #[.int .i64 k, .string r, .string u, .string v, .string t, .bool p, .bool o, .int .i64 s, .int .i64 z, .int .i64 c, .int .i64 m] w') (by kernel_rfl) hTw (fun hHeld => ?_)
    clear hTw
    replace hlW : w.heap.size + 1 < W.drew.heap.size := hlW
    generalize hwd : W.drew = wd at hHeld hlW ⊢
    clear hwd
    refine wpAnyH_take (i := 0) (oi := ⟨some 4, _, _, _, _, _⟩) (v := ?v0) rfl (by kernel_rfl) (by kernel_rfl) (by kernel_rfl) (fun _ _ _ h => h) (Or.inl ⟨by rfl, ?y0⟩) hHeld ?r0
    case y0 =>
      intro wx hSx
      go_simp
      try with_reducible rfl
    try simp only [Act.put, List.setIfInBounds_toArray, List.set_cons_zero, List.set_cons_succ]
    refine wpAnyH_take (i := 1) (oi := ⟨some 5, _, _, _, _, _⟩) (v := ?v1) rfl (by kernel_rfl) (by kernel_rfl) (by kernel_rfl) (fun _ _ _ h => h) (Or.inl ⟨by rfl, ?y1⟩) hHeld ?r1
    case y1 =>
      intro wx hSx
      obtain ⟨d0, d1, d2, d3, d4, d5, d6, d7, d8, d9, d10⟩ := cells11 hSx.2.1
      go_simp
      try with_reducible rfl
    try simp only [Act.put, List.setIfInBounds_toArray, List.set_cons_zero, List.set_cons_succ]
    refine anyH_asks (i := 2) (oi := ⟨some 6, _, _, _, _, _⟩) (v := .int .i64 a3) rfl (by kernel_rfl) (by kernel_rfl) (by kernel_rfl) (fun _ _ _ h => h) ⟨by rfl, fun wx hSx => ⟨_, _, ?e2, Hk.out _⟩⟩ hHeld ?r2
    case e2 => go_simp
    try simp only [Act.put, List.setIfInBounds_toArray, List.set_cons_zero, List.set_cons_succ]
    refine wpAnyH_take (i := 3) (oi := ⟨some 7, _, _, _, _, _⟩) (v := ?v3) rfl (by kernel_rfl) (by kernel_rfl) (by kernel_rfl) (fun _ _ _ h => h) (Or.inl ⟨by rfl, ?y3⟩) hHeld ?r3
    case y3 =>
      intro wx hSx
      have q := IntWalk.i64_in (1 + a3) (by omega)
      go_simp
      try with_reducible rfl
    try simp only [Act.put, List.setIfInBounds_toArray, List.set_cons_zero, List.set_cons_succ]
    refine wpAnyH_take (i := 4) (oi := ⟨some 8, _, _, _, _, _⟩) (v := ?v4) rfl (by kernel_rfl) (by kernel_rfl) (by kernel_rfl) (fun _ _ _ h => h) (Or.inl ⟨by rfl, ?y4⟩) hHeld ?r4
    case y4 =>
      intro wx hSx
      go_simp
      try with_reducible rfl
    try simp only [Act.put, List.setIfInBounds_toArray, List.set_cons_zero, List.set_cons_succ]
    refine wpAnyH_take (i := 5) (oi := ⟨some 9, _, _, _, _, _⟩) (v := ?v5) rfl (by kernel_rfl) (by kernel_rfl) (by kernel_rfl) (fun _ _ _ h => h) (Or.inl ⟨by rfl, ?y5⟩) hHeld ?r5
    case y5 =>
      intro wx hSx
      obtain ⟨d0, d1, d2, d3, d4, d5, d6, d7, d8, d9, d10⟩ := cells11 hSx.2.1
      go_simp
      try with_reducible rfl
    try simp only [Act.put, List.setIfInBounds_toArray, List.set_cons_zero, List.set_cons_succ]
    refine wpAnyH_take (i := 7) (oi := ⟨some 11, _, _, _, _, _⟩) (v := ?v7) rfl (by kernel_rfl) (by kernel_rfl) (by kernel_rfl) (fun _ _ _ h => h) (Or.inl ⟨by rfl, ?y7⟩) hHeld ?r7
    case y7 =>
      intro wx hSx
      go_simp
      try with_reducible rfl
    try simp only [Act.put, List.setIfInBounds_toArray, List.set_cons_zero, List.set_cons_succ]
    refine wpAnyH_take (i := 8) (oi := ⟨some 12, _, _, _, _, _⟩) (v := ?v8) rfl (by kernel_rfl) (by kernel_rfl) (by kernel_rfl) (fun _ _ _ h => h) (Or.inl ⟨by rfl, ?y8⟩) hHeld ?r8
    case y8 =>
      intro wx hSx
      obtain ⟨d0, d1, d2, d3, d4, d5, d6, d7, d8, d9, d10⟩ := cells11 hSx.2.1
      go_simp
      try with_reducible rfl
    try simp only [Act.put, List.setIfInBounds_toArray, List.set_cons_zero, List.set_cons_succ]
    refine wpAnyH_take (i := 10) (oi := ⟨some 14, _, _, _, _, _⟩) (v := ?v10) rfl (by kernel_rfl) (by kernel_rfl) (by kernel_rfl) (fun _ _ _ h => h) (Or.inl ⟨by rfl, ?y10⟩) hHeld ?r10
    case y10 =>
      intro wx hSx
      go_simp
      try with_reducible rfl
    try simp only [Act.put, List.setIfInBounds_toArray, List.set_cons_zero, List.set_cons_succ]
    refine wpAnyH_take (i := 11) (oi := ⟨some 15, _, _, _, _, _⟩) (v := ?v11) rfl (by kernel_rfl) (by kernel_rfl) (by kernel_rfl) (fun _ _ _ h => h) (Or.inl ⟨by rfl, ?y11⟩) hHeld ?r11
    case y11 =>
      intro wx hSx
      obtain ⟨d0, d1, d2, d3, d4, d5, d6, d7, d8, d9, d10⟩ := cells11 hSx.2.1
      go_simp
      try with_reducible rfl
    try simp only [Act.put, List.setIfInBounds_toArray, List.set_cons_zero, List.set_cons_succ]
    try rw [IntWalk.i64_in (1 + a3) (by omega)]
    refine wpAnyH_ready (rs := [6, 14]) (by kernel_rfl) (by simp) ?_
    refine AllReadyH.cons (o := ⟨some 10, _, _, _, _, _⟩) rfl (fun K hK => ?wayA) (AllReadyH.cons (o := ⟨some 3, _, _, _, _, _⟩) rfl (fun K hK => ?wayB) AllReadyH.nil)
    case wayA =>
      go_simp
      refine (HU.out _).mono ?_
      rintro e wn ⟨rfl, hbn⟩
      have hsz := hbn.size
      replace hHeld := hHeld.later hbn
      refine hK.out _ _ hHeld (fun _ => ?_)
      clear hK K hbn
      try simp only [Act.put, List.setIfInBounds_toArray, List.set_cons_zero, List.set_cons_succ]
      refine anyH_asks (i := 9) (oi := ⟨some 13, _, _, _, _, _⟩) (v := .int .i64 ac) rfl (by kernel_rfl) (by kernel_rfl) (by kernel_rfl) (fun _ _ _ h => h) ⟨by rfl, fun wx hSx => ⟨_, _, ?eA9, Hc.out _⟩⟩ hHeld ?rA9
      case eA9 => go_simp
      try simp only [Act.put, List.setIfInBounds_toArray, List.set_cons_zero, List.set_cons_succ]
      refine anyH_asks (i := 12) (oi := ⟨some 16, _, _, _, _, _⟩) (v := .int .i64 am) rfl (by kernel_rfl) (by kernel_rfl) (by kernel_rfl) (fun _ _ _ h => h) ⟨by rfl, fun wx hSx => ⟨_, _, ?eA12, Hm.out _⟩⟩ hHeld ?rA12
      case eA12 => go_simp
      try simp only [Act.put, List.setIfInBounds_toArray, List.set_cons_zero, List.set_cons_succ]
      refine wpAnyH_take (i := 13) (oi := ⟨some 17, _, _, _, _, _⟩) (v := ?vA13) rfl (by kernel_rfl) (by kernel_rfl) (by kernel_rfl) (fun _ _ _ h => h) (Or.inl ⟨by rfl, ?yA13⟩) hHeld ?rA13
      case yA13 =>
        intro wx hSx
        go_simp
        try with_reducible rfl
      try simp only [Act.put, List.setIfInBounds_toArray, List.set_cons_zero, List.set_cons_succ]
      refine wpAnyH_ready (rs := [14]) (by kernel_rfl) (by simp) ?_
      refine AllReadyH.cons (o := ⟨some 3, _, _, _, _, _⟩) rfl (fun K hK => ?_) AllReadyH.nil
      have hnew := heap_alloc_new wn (.cells #[.int .i64 0, .string ⟨#[]⟩, .string ⟨#[]⟩, .string ⟨#[]⟩, .string ⟨#[]⟩, .bool false, .bool false, .int .i64 0, .int .i64 0, .int .i64 0, .int .i64 0] 50)
      have hH := hHeld.later (below_new wn (.cells #[.int .i64 0, .string ⟨#[]⟩, .string ⟨#[]⟩, .string ⟨#[]⟩, .string ⟨#[]⟩, .bool false, .bool false, .int .i64 0, .int .i64 0, .int .i64 0, .int .i64 0] 50))
      go_simp
      refine hK.out _ _ hH (fun _ => ?_)
      replace hHeld := hH
      clear hK K hH
      try simp only [Act.put, List.setIfInBounds_toArray, List.set_cons_zero, List.set_cons_succ]
      generalize hW3 : World.alloc _ _ = W3 at hnew hHeld ⊢
      clear hW3
      have hgl : w.heap.size + 1 < wn.heap.size := by omega
      generalize hgg : wn.heap.size = g at hnew hgl ⊢
      clear hgg
      refine wpAnyH_ready (rs := [15]) (by kernel_rfl) (by simp) ?_
      refine AllReadyH.cons (o := ⟨none, _, _, _, _, _⟩) rfl (fun K hK => ?_) AllReadyH.nil
      rw [if_pos (by rfl)]
      refine wp_store_row 50 (.tmp 3) (.tmp 17) rfl g #[.int .i64 (1 + a3), .string ⟨#[]⟩, .string us, .string ⟨#[]⟩, .string ⟨#[]⟩, .bool false, .bool false, .int .i64 0, .int .i64 0, .int .i64 ac, .int .i64 am] rfl rfl 50 #[.int .i64 0, .string ⟨#[]⟩, .string ⟨#[]⟩, .string ⟨#[]⟩, .string ⟨#[]⟩, .bool false, .bool false, .int .i64 0, .int .i64 0, .int .i64 0, .int .i64 0] hnew edu_info rfl (one11 _ _ _ _ _ _ _ _ _ _ _) ?_
      have hset := setRow_heap _ _ _ #[.int .i64 (1 + a3), .string ⟨#[]⟩, .string us, .string ⟨#[]⟩, .string ⟨#[]⟩, .bool false, .bool false, .int .i64 0, .int .i64 0, .int .i64 ac, .int .i64 am] _ _ hnew
      obtain ⟨X, hX, hx3⟩ := hHeld.2.2
      have hH : Two w #[.int .i64 k, .string r, .string u, .string v, .string t, .bool p, .bool o, .int .i64 s, .int .i64 z, .int .i64 c, .int .i64 m] _ := ⟨below_setRow (g := g) hHeld.1 (by omega) #[.int .i64 (1 + a3), .string ⟨#[]⟩, .string us, .string ⟨#[]⟩, .string ⟨#[]⟩, .bool false, .bool false, .int .i64 0, .int .i64 0, .int .i64 ac, .int .i64 am], by rw [setRow_other _ g _ _ (by omega)]; exact hHeld.2.1, ⟨X, hX, by rw [setRow_other _ g _ _ (by omega)]; exact hx3⟩⟩
      refine hK.out _ _ hH (fun _ => ?_)
      replace hHeld := hH
      clear hK K hH hx3
      try simp only [Act.put, List.setIfInBounds_toArray, List.set_cons_zero, List.set_cons_succ]
      generalize hW2 : World.setRow _ _ _ = W2 at hset hHeld ⊢
      clear hW2
      refine wpAnyH_done (by kernel_rfl) ?_ _
      have HG := Lib.hid (show Gd w #[.int .i64 k, .string r, .string u, .string v, .string t, .bool p, .bool o, .int .i64 s, .int .i64 z, .int .i64 c, .int .i64 m] g #[.int .i64 (1 + a3), .string ⟨#[]⟩, .string us, .string ⟨#[]⟩, .string ⟨#[]⟩, .bool false, .bool false, .int .i64 0, .int .i64 0, .int .i64 ac, .int .i64 am] W2 from ⟨hHeld, hset, hgl⟩)
      clear hHeld hset
      go_wp2_with fail
      go_meet
      exact ⟨g, rfl, HG⟩
    case wayB =>
      have hnew := heap_alloc_new wd (.cells #[.int .i64 0, .string ⟨#[]⟩, .string ⟨#[]⟩, .string ⟨#[]⟩, .string ⟨#[]⟩, .bool false, .bool false, .int .i64 0, .int .i64 0, .int .i64 0, .int .i64 0] 50)
      have hH := hHeld.later (below_new wd (.cells #[.int .i64 0, .string ⟨#[]⟩, .string ⟨#[]⟩, .string ⟨#[]⟩, .string ⟨#[]⟩, .bool false, .bool false, .int .i64 0, .int .i64 0, .int .i64 0, .int .i64 0] 50))
      go_simp
      refine hK.out _ _ hH (fun _ => ?_)
      replace hHeld := hH
      clear hK K hH
      try simp only [Act.put, List.setIfInBounds_toArray, List.set_cons_zero, List.set_cons_succ]
      generalize hW3 : World.alloc _ _ = W3 at hnew hHeld ⊢
      clear hW3
      have hgl : w.heap.size + 1 < wd.heap.size := by omega
      generalize hgg : wd.heap.size = g at hnew hgl ⊢
      clear hgg
      refine wpAnyH_ready (rs := [6]) (by kernel_rfl) (by simp) ?_
      refine AllReadyH.cons (o := ⟨some 10, _, _, _, _, _⟩) rfl (fun K hK => ?_) AllReadyH.nil
      go_simp
      refine (HU.out _).mono ?_
      rintro e wn ⟨rfl, hbn⟩
      replace hnew := (hbn.block _ (heap_lt hnew)).trans hnew
      have hsz := hbn.size
      replace hHeld := hHeld.later hbn
      refine hK.out _ _ hHeld (fun _ => ?_)
      clear hK K hbn
      try simp only [Act.put, List.setIfInBounds_toArray, List.set_cons_zero, List.set_cons_succ]
      refine anyH_asks (i := 9) (oi := ⟨some 13, _, _, _, _, _⟩) (v := .int .i64 ac) rfl (by kernel_rfl) (by kernel_rfl) (by kernel_rfl) (fun _ _ _ h => h) ⟨by rfl, fun wx hSx => ⟨_, _, ?eB9, Hc.out _⟩⟩ hHeld ?rB9
      case eB9 => go_simp
      try simp only [Act.put, List.setIfInBounds_toArray, List.set_cons_zero, List.set_cons_succ]
      refine anyH_asks (i := 12) (oi := ⟨some 16, _, _, _, _, _⟩) (v := .int .i64 am) rfl (by kernel_rfl) (by kernel_rfl) (by kernel_rfl) (fun _ _ _ h => h) ⟨by rfl, fun wx hSx => ⟨_, _, ?eB12, Hm.out _⟩⟩ hHeld ?rB12
      case eB12 => go_simp
      try simp only [Act.put, List.setIfInBounds_toArray, List.set_cons_zero, List.set_cons_succ]
      refine wpAnyH_take (i := 13) (oi := ⟨some 17, _, _, _, _, _⟩) (v := ?vB13) rfl (by kernel_rfl) (by kernel_rfl) (by kernel_rfl) (fun _ _ _ h => h) (Or.inl ⟨by rfl, ?yB13⟩) hHeld ?rB13
      case yB13 =>
        intro wx hSx
        go_simp
        try with_reducible rfl
      try simp only [Act.put, List.setIfInBounds_toArray, List.set_cons_zero, List.set_cons_succ]
      refine wpAnyH_ready (rs := [15]) (by kernel_rfl) (by simp) ?_
      refine AllReadyH.cons (o := ⟨none, _, _, _, _, _⟩) rfl (fun K hK => ?_) AllReadyH.nil
      rw [if_pos (by rfl)]
      refine wp_store_row 50 (.tmp 3) (.tmp 17) rfl g #[.int .i64 (1 + a3), .string ⟨#[]⟩, .string us, .string ⟨#[]⟩, .string ⟨#[]⟩, .bool false, .bool false, .int .i64 0, .int .i64 0, .int .i64 ac, .int .i64 am] rfl rfl 50 #[.int .i64 0, .string ⟨#[]⟩, .string ⟨#[]⟩, .string ⟨#[]⟩, .string ⟨#[]⟩, .bool false, .bool false, .int .i64 0, .int .i64 0, .int .i64 0, .int .i64 0] hnew edu_info rfl (one11 _ _ _ _ _ _ _ _ _ _ _) ?_
      have hset := setRow_heap _ _ _ #[.int .i64 (1 + a3), .string ⟨#[]⟩, .string us, .string ⟨#[]⟩, .string ⟨#[]⟩, .bool false, .bool false, .int .i64 0, .int .i64 0, .int .i64 ac, .int .i64 am] _ _ hnew
      obtain ⟨X, hX, hx3⟩ := hHeld.2.2
      have hH : Two w #[.int .i64 k, .string r, .string u, .string v, .string t, .bool p, .bool o, .int .i64 s, .int .i64 z, .int .i64 c, .int .i64 m] _ := ⟨below_setRow (g := g) hHeld.1 (by omega) #[.int .i64 (1 + a3), .string ⟨#[]⟩, .string us, .string ⟨#[]⟩, .string ⟨#[]⟩, .bool false, .bool false, .int .i64 0, .int .i64 0, .int .i64 ac, .int .i64 am], by rw [setRow_other _ g _ _ (by omega)]; exact hHeld.2.1, ⟨X, hX, by rw [setRow_other _ g _ _ (by omega)]; exact hx3⟩⟩
      refine hK.out _ _ hH (fun _ => ?_)
      replace hHeld := hH
      clear hK K hH hx3
      try simp only [Act.put, List.setIfInBounds_toArray, List.set_cons_zero, List.set_cons_succ]
      generalize hW2 : World.setRow _ _ _ = W2 at hset hHeld ⊢
      clear hW2
      refine wpAnyH_done (by kernel_rfl) ?_ _
      have HG := Lib.hid (show Gd w #[.int .i64 k, .string r, .string u, .string v, .string t, .bool p, .bool o, .int .i64 s, .int .i64 z, .int .i64 c, .int .i64 m] g #[.int .i64 (1 + a3), .string ⟨#[]⟩, .string us, .string ⟨#[]⟩, .string ⟨#[]⟩, .bool false, .bool false, .int .i64 0, .int .i64 0, .int .i64 ac, .int .i64 am] W2 from ⟨hHeld, hset, hgl⟩)
      clear hHeld hset
      go_wp2_with fail
      go_meet
      exact ⟨g, rfl, HG⟩
  case rest =>
    obtain ⟨g, rfl, HG⟩ := hcut
    clear hTw hlW W
    rcases HW.out with ⟨h3, hge⟩ | ⟨h3, hge⟩ | ⟨h3, hge⟩
    · subst h3
      replace HG := Lib.hid (show Gd w #[.int .i64 k, .string r, .string u, .string v, .string t, .bool p, .bool o, .int .i64 s, .int .i64 z, .int .i64 c, .int .i64 m] g #[.int .i64 1, .string ⟨#[]⟩, .string us, .string ⟨#[]⟩, .string ⟨#[]⟩, .bool false, .bool false, .int .i64 0, .int .i64 0, .int .i64 ac, .int .i64 am] wc from HG.out)
      obtain ⟨d0, d1, d2, d3, d4, d5, d6, d7, d8, d9, d10⟩ := cells11 HG.out.1.2.1
      obtain ⟨f0, f1, f2, f3, f4, f5, f6, f7, f8, f9, f10⟩ := cells11 HG.out.2.1
      go_wp2_with fail
      clear d0 d1 d2 d3 d4 d5 d6 d7 d8 d9 d10 f0 f1 f2 f3 f4 f5 f6 f7 f8 f9 f10 
      refine (HR.out _).mono ?_
      rintro e w1 ⟨rfl, hb1⟩
      replace HG := Lib.hid (HG.out.later hb1)
      clear hb1 wc
      obtain ⟨d0, d1, d2, d3, d4, d5, d6, d7, d8, d9, d10⟩ := cells11 HG.out.1.2.1
      obtain ⟨f0, f1, f2, f3, f4, f5, f6, f7, f8, f9, f10⟩ := cells11 HG.out.2.1
      have fr1 := free_at HG.out.2.1 1
      go_upto_region 6 with (fail)
      clear d0 d1 d2 d3 d4 d5 d6 d7 d8 d9 d10 f0 f1 f2 f3 f4 f5 f6 f7 f8 f9 f10 fr1
      replace HG := Lib.hid (show Gd w #[.int .i64 k, .string r, .string u, .string v, .string t, .bool p, .bool o, .int .i64 s, .int .i64 z, .int .i64 c, .int .i64 m] g #[.int .i64 1, .string rs, .string us, .string ⟨#[]⟩, .string ⟨#[]⟩, .bool false, .bool false, .int .i64 0, .int .i64 0, .int .i64 ac, .int .i64 am] (w1.setCell ⟨g, 1, none⟩ (.string rs)) from (HG.out.store (i := 1) (u := .string rs)))
      generalize hWs : (w1.setCell ⟨g, 1, none⟩ (.string rs)) = ws1 at HG ⊢
      clear hWs
      refine wp_region_held_drew (S := fun w' => ∃ cs, Gd w #[.int .i64 k, .string r, .string u, .string v, .string t, .bool p, .bool o, .int .i64 s, .int .i64 z, .int .i64 c, .int .i64 m] g cs w') (by kernel_rfl) ⟨_, HG.out.drew⟩ (fun hHeld => ?_)
      replace HG := Lib.hid HG.out.drew
      generalize hwd : ws1.drew = wd at HG hHeld ⊢
      clear hwd
      refine wpAnyH_take (i := 0) (oi := ⟨some 30, _, _, _, _, _⟩) (v := ?ve0) rfl (by kernel_rfl) (by kernel_rfl) (by kernel_rfl) (fun _ _ _ h => h) (Or.inl ⟨by rfl, ?ye0⟩) hHeld ?re0
      case ye0 =>
        intro wx hSx
        go_simp
        try with_reducible rfl
      try simp only [Act.put, List.setIfInBounds_toArray, List.set_cons_zero, List.set_cons_succ]
      refine wpAnyH_take (i := 1) (oi := ⟨some 31, _, _, _, _, _⟩) (v := ?ve1) rfl (by kernel_rfl) (by kernel_rfl) (by kernel_rfl) (fun _ _ _ h => h) (Or.inl ⟨by rfl, ?ye1⟩) hHeld ?re1
      case ye1 =>
        intro wx hSx
        obtain ⟨cs, hcs⟩ := hSx
        obtain ⟨d0, d1, d2, d3, d4, d5, d6, d7, d8, d9, d10⟩ := cells11 hcs.1.2.1
        go_simp
        try with_reducible rfl
      try simp only [Act.put, List.setIfInBounds_toArray, List.set_cons_zero, List.set_cons_succ]
      refine wpAnyH_take (i := 2) (oi := ⟨some 32, _, _, _, _, _⟩) (v := ?ve2) rfl (by kernel_rfl) (by kernel_rfl) (by kernel_rfl) (fun _ _ _ h => h) (Or.inl ⟨by rfl, ?ye2⟩) hHeld ?re2
      case ye2 =>
        intro wx hSx
        go_simp
        try with_reducible rfl
      try simp only [Act.put, List.setIfInBounds_toArray, List.set_cons_zero, List.set_cons_succ]
      refine wpAnyH_take (i := 3) (oi := ⟨some 33, _, _, _, _, _⟩) (v := ?ve3) rfl (by kernel_rfl) (by kernel_rfl) (by kernel_rfl) (fun _ _ _ h => h) (Or.inl ⟨by rfl, ?ye3⟩) hHeld ?re3
      case ye3 =>
        intro wx hSx
        go_simp
        try with_reducible rfl
      try simp only [Act.put, List.setIfInBounds_toArray, List.set_cons_zero, List.set_cons_succ]
      refine wpAnyH_take (i := 4) (oi := ⟨some 34, _, _, _, _, _⟩) (v := ?ve4) rfl (by kernel_rfl) (by kernel_rfl) (by kernel_rfl) (fun _ _ _ h => h) (Or.inl ⟨by rfl, ?ye4⟩) hHeld ?re4
      case ye4 =>
        intro wx hSx
        obtain ⟨cs, hcs⟩ := hSx
        obtain ⟨d0, d1, d2, d3, d4, d5, d6, d7, d8, d9, d10⟩ := cells11 hcs.1.2.1
        go_simp
        try with_reducible rfl
      try simp only [Act.put, List.setIfInBounds_toArray, List.set_cons_zero, List.set_cons_succ]
      refine anyH_asks (i := 5) (oi := ⟨some 35, _, _, _, _, _⟩) (v := .int .i64 a9) rfl (by kernel_rfl) (by kernel_rfl) (by kernel_rfl) (fun _ _ _ h => h) ⟨by rfl, fun wx hSx => ⟨_, _, ?ee5, Hc9.out _⟩⟩ hHeld ?re5
      case ee5 => go_simp
      try simp only [Act.put, List.setIfInBounds_toArray, List.set_cons_zero, List.set_cons_succ]
      refine wpAnyH_take (i := 6) (oi := ⟨some 36, _, _, _, _, _⟩) (v := ?ve6) rfl (by kernel_rfl) (by kernel_rfl) (by kernel_rfl) (fun _ _ _ h => h) (Or.inl ⟨by rfl, ?ye6⟩) hHeld ?re6
      case ye6 =>
        intro wx hSx
        have q := hev
        go_simp
        try with_reducible rfl
      try simp only [Act.put, List.setIfInBounds_toArray, List.set_cons_zero, List.set_cons_succ]
      try rw [hev]
      refine wpAnyH_ready (rs := [7]) (by kernel_rfl) (by simp) ?_
      refine AllReadyH.cons (o := ⟨some 37, _, _, _, _, _⟩) rfl (fun K hK => ?_) AllReadyH.nil
      go_simp
      refine (HV.out _).mono ?_
      rintro e wn ⟨rfl, hbn⟩
      replace HG := Lib.hid (HG.out.later hbn)
      refine hK.out _ _ ⟨_, HG.out⟩ (fun hHeld => ?_)
      clear hK K hbn
      try simp only [Act.put, List.setIfInBounds_toArray, List.set_cons_zero, List.set_cons_succ]
      refine wpAnyH_take (i := 8) (oi := ⟨some 38, _, _, _, _, _⟩) (v := ?ve8) rfl (by kernel_rfl) (by kernel_rfl) (by kernel_rfl) (fun _ _ _ h => h) (Or.inl ⟨by rfl, ?ye8⟩) hHeld ?re8
      case ye8 =>
        intro wx hSx
        go_simp
        try with_reducible rfl
      try simp only [Act.put, List.setIfInBounds_toArray, List.set_cons_zero, List.set_cons_succ]
      have hcell : wn.cell? ⟨g, 3, none⟩ = some (.string ⟨#[]⟩) := cell_at HG.out.2.1 3
      have hfr := free_at HG.out.2.1 3
      refine wpAnyH_ready (rs := [9]) (by kernel_rfl) (by simp) ?_
      refine AllReadyH.cons (o := ⟨none, _, _, _, _, _⟩) rfl (fun K hK => ?_) AllReadyH.nil
      go_simp
      replace HG := Lib.hid (show Gd w #[.int .i64 k, .string r, .string u, .string v, .string t, .bool p, .bool o, .int .i64 s, .int .i64 z, .int .i64 c, .int .i64 m] g #[.int .i64 1, .string rs, .string us, .string vs, .string ⟨#[]⟩, .bool false, .bool false, .int .i64 0, .int .i64 0, .int .i64 ac, .int .i64 am] (wn.setCell ⟨g, 3, none⟩ (.string vs)) from HG.out.store)
      refine hK.out _ _ ⟨_, HG.out⟩ (fun _ => ?_)
      clear hK K hcell hfr
      try simp only [Act.put, List.setIfInBounds_toArray, List.set_cons_zero, List.set_cons_succ]
      generalize hWs : (wn.setCell ⟨g, 3, none⟩ (.string vs)) = wv at HG ⊢
      clear hWs
      refine wpAnyH_done (by kernel_rfl) ?_ _
      obtain ⟨d0, d1, d2, d3, d4, d5, d6, d7, d8, d9, d10⟩ := cells11 HG.out.1.2.1
      obtain ⟨f0, f1, f2, f3, f4, f5, f6, f7, f8, f9, f10⟩ := cells11 HG.out.2.1
      go_wp2_with fail
      clear d0 d1 d2 d3 d4 d5 d6 d7 d8 d9 d10 f0 f1 f2 f3 f4 f5 f6 f7 f8 f9 f10 
      refine (HT.out _).mono ?_
      rintro e w5 ⟨rfl, hb5⟩
      replace HG := Lib.hid (HG.out.later hb5)
      clear hb5
      obtain ⟨d0, d1, d2, d3, d4, d5, d6, d7, d8, d9, d10⟩ := cells11 HG.out.1.2.1
      obtain ⟨f0, f1, f2, f3, f4, f5, f6, f7, f8, f9, f10⟩ := cells11 HG.out.2.1
      have fr4 := free_at HG.out.2.1 4
      have fr5 := free_at HG.out.2.1 5
      go_upto_region 14 with (fail)
      clear d0 d1 d2 d3 d4 d5 d6 d7 d8 d9 d10 f0 f1 f2 f3 f4 f5 f6 f7 f8 f9 f10 fr4 fr5
      replace HG := Lib.hid (show Gd w #[.int .i64 k, .string r, .string u, .string v, .string t, .bool p, .bool o, .int .i64 s, .int .i64 z, .int .i64 c, .int .i64 m] g #[.int .i64 1, .string rs, .string us, .string vs, .string ts, .bool p, .bool false, .int .i64 0, .int .i64 0, .int .i64 ac, .int .i64 am] ((w5.setCell ⟨g, 4, none⟩ (.string ts)).setCell ⟨g, 5, none⟩ (.bool p)) from ((HG.out.store (i := 4) (u := .string ts)).store (i := 5) (u := .bool p)))
      generalize hWs : ((w5.setCell ⟨g, 4, none⟩ (.string ts)).setCell ⟨g, 5, none⟩ (.bool p)) = ws2 at HG ⊢
      clear hWs
      obtain ⟨X, hX, hx3⟩ := HG.out.1.2.2
      have Hset := Lib.hid (setRow_heap _ _ _ #[.int .i64 1, .string rs, .string us, .string vs, .string ts, .bool p, .bool false, .int .i64 0, .int .i64 0, .int .i64 ac, .int .i64 am] _ _ hx3)
      have HB := Lib.hid (HG.out.1.set (new := #[.int .i64 1, .string rs, .string us, .string vs, .string ts, .bool p, .bool false, .int .i64 0, .int .i64 0, .int .i64 ac, .int .i64 am]) rfl).1
      replace hx3 := Lib.hid hx3
      obtain ⟨f0, f1, f2, f3, f4, f5, f6, f7, f8, f9, f10⟩ := cells11 HG.out.2.1
      go_wp2_with (refine wpList_store_row rfl 50 (.tmp 2) (.tmp 63) rfl (w.heap.size + 1) #[.int .i64 1, .string rs, .string us, .string vs, .string ts, .bool p, .bool false, .int .i64 0, .int .i64 0, .int .i64 ac, .int .i64 am] rfl rfl 50 X hx3.out edu_info (hX.trans rfl) (one11 _ _ _ _ _ _ _ _ _ _ _) ?_)
      generalize hW2 : World.setRow _ _ _ = W2 at Hset HB ⊢
      clear hW2 f0 f1 f2 f3 f4 f5 f6 f7 f8 f9 f10
      obtain ⟨d0, d1, d2, d3, d4, d5, d6, d7, d8, d9, d10⟩ := cells11 Hset.out
      go_wp2_with fail
      refine bodyPost_ret (v := .agg #[.int .i64 1, .string rs, .string us, .string vs, .string ts, .bool p, .bool false, .int .i64 0, .int .i64 0, .int .i64 ac, .int .i64 am]) ?_ rfl ⟨?_, HB.out⟩
      · simp [results, Try.results49, go_sem, d0, d1, d2, d3, d4, d5, d6, d7, d8, d9, d10]
      · rw [hge, H1.out]; try rfl
    · subst h3
      replace HG := Lib.hid (show Gd w #[.int .i64 k, .string r, .string u, .string v, .string t, .bool p, .bool o, .int .i64 s, .int .i64 z, .int .i64 c, .int .i64 m] g #[.int .i64 2, .string ⟨#[]⟩, .string us, .string ⟨#[]⟩, .string ⟨#[]⟩, .bool false, .bool false, .int .i64 0, .int .i64 0, .int .i64 ac, .int .i64 am] wc from HG.out)
      cases o
      · obtain ⟨d0, d1, d2, d3, d4, d5, d6, d7, d8, d9, d10⟩ := cells11 HG.out.1.2.1
        obtain ⟨f0, f1, f2, f3, f4, f5, f6, f7, f8, f9, f10⟩ := cells11 HG.out.2.1
        go_wp2_with fail
        clear d0 d1 d2 d3 d4 d5 d6 d7 d8 d9 d10 f0 f1 f2 f3 f4 f5 f6 f7 f8 f9 f10 
        refine (HR.out _).mono ?_
        rintro e w1 ⟨rfl, hb1⟩
        replace HG := Lib.hid (HG.out.later hb1)
        clear hb1 wc
        obtain ⟨d0, d1, d2, d3, d4, d5, d6, d7, d8, d9, d10⟩ := cells11 HG.out.1.2.1
        obtain ⟨f0, f1, f2, f3, f4, f5, f6, f7, f8, f9, f10⟩ := cells11 HG.out.2.1
        have fr1 := free_at HG.out.2.1 1
        have fr6 := free_at HG.out.2.1 6
        go_upto_region 12 with (fail)
        clear d0 d1 d2 d3 d4 d5 d6 d7 d8 d9 d10 f0 f1 f2 f3 f4 f5 f6 f7 f8 f9 f10 fr1 fr6
        replace HG := Lib.hid (show Gd w #[.int .i64 k, .string r, .string u, .string v, .string t, .bool p, .bool false, .int .i64 s, .int .i64 z, .int .i64 c, .int .i64 m] g #[.int .i64 2, .string rs, .string us, .string ⟨#[]⟩, .string ⟨#[]⟩, .bool false, .bool false, .int .i64 0, .int .i64 0, .int .i64 ac, .int .i64 am] ((w1.setCell ⟨g, 1, none⟩ (.string rs)).setCell ⟨g, 6, none⟩ (.bool false)) from ((HG.out.store (i := 1) (u := .string rs)).store (i := 6) (u := .bool false)))
        generalize hWs : ((w1.setCell ⟨g, 1, none⟩ (.string rs)).setCell ⟨g, 6, none⟩ (.bool false)) = ws3 at HG ⊢
        clear hWs
        obtain ⟨d0, d1, d2, d3, d4, d5, d6, d7, d8, d9, d10⟩ := cells11 HG.out.1.2.1
        obtain ⟨f0, f1, f2, f3, f4, f5, f6, f7, f8, f9, f10⟩ := cells11 HG.out.2.1
        go_upto_region 14 with (fail)
        clear d0 d1 d2 d3 d4 d5 d6 d7 d8 d9 d10 f0 f1 f2 f3 f4 f5 f6 f7 f8 f9 f10 
        obtain ⟨X, hX, hx3⟩ := HG.out.1.2.2
        have Hset := Lib.hid (setRow_heap _ _ _ #[.int .i64 2, .string rs, .string us, .string ⟨#[]⟩, .string ⟨#[]⟩, .bool false, .bool false, .int .i64 0, .int .i64 0, .int .i64 ac, .int .i64 am] _ _ hx3)
        have HB := Lib.hid (HG.out.1.set (new := #[.int .i64 2, .string rs, .string us, .string ⟨#[]⟩, .string ⟨#[]⟩, .bool false, .bool false, .int .i64 0, .int .i64 0, .int .i64 ac, .int .i64 am]) rfl).1
        replace hx3 := Lib.hid hx3
        obtain ⟨f0, f1, f2, f3, f4, f5, f6, f7, f8, f9, f10⟩ := cells11 HG.out.2.1
        go_wp2_with (refine wpList_store_row rfl 50 (.tmp 2) (.tmp 63) rfl (w.heap.size + 1) #[.int .i64 2, .string rs, .string us, .string ⟨#[]⟩, .string ⟨#[]⟩, .bool false, .bool false, .int .i64 0, .int .i64 0, .int .i64 ac, .int .i64 am] rfl rfl 50 X hx3.out edu_info (hX.trans rfl) (one11 _ _ _ _ _ _ _ _ _ _ _) ?_)
        generalize hW2 : World.setRow _ _ _ = W2 at Hset HB ⊢
        clear hW2 f0 f1 f2 f3 f4 f5 f6 f7 f8 f9 f10
        obtain ⟨d0, d1, d2, d3, d4, d5, d6, d7, d8, d9, d10⟩ := cells11 Hset.out
        go_wp2_with fail
        refine bodyPost_ret (v := .agg #[.int .i64 2, .string rs, .string us, .string ⟨#[]⟩, .string ⟨#[]⟩, .bool false, .bool false, .int .i64 0, .int .i64 0, .int .i64 ac, .int .i64 am]) ?_ rfl ⟨?_, HB.out⟩
        · simp [results, Try.results49, go_sem, d0, d1, d2, d3, d4, d5, d6, d7, d8, d9, d10]
        · rw [hge, H2.out]; try rfl
      · obtain ⟨d0, d1, d2, d3, d4, d5, d6, d7, d8, d9, d10⟩ := cells11 HG.out.1.2.1
        obtain ⟨f0, f1, f2, f3, f4, f5, f6, f7, f8, f9, f10⟩ := cells11 HG.out.2.1
        go_wp2_with fail
        clear d0 d1 d2 d3 d4 d5 d6 d7 d8 d9 d10 f0 f1 f2 f3 f4 f5 f6 f7 f8 f9 f10 
        refine (HR.out _).mono ?_
        rintro e w1 ⟨rfl, hb1⟩
        replace HG := Lib.hid (HG.out.later hb1)
        clear hb1 wc
        obtain ⟨d0, d1, d2, d3, d4, d5, d6, d7, d8, d9, d10⟩ := cells11 HG.out.1.2.1
        obtain ⟨f0, f1, f2, f3, f4, f5, f6, f7, f8, f9, f10⟩ := cells11 HG.out.2.1
        have fr1 := free_at HG.out.2.1 1
        have fr6 := free_at HG.out.2.1 6
        go_upto_region 12 with (fail)
        clear d0 d1 d2 d3 d4 d5 d6 d7 d8 d9 d10 f0 f1 f2 f3 f4 f5 f6 f7 f8 f9 f10 fr1 fr6
        replace HG := Lib.hid (show Gd w #[.int .i64 k, .string r, .string u, .string v, .string t, .bool p, .bool true, .int .i64 s, .int .i64 z, .int .i64 c, .int .i64 m] g #[.int .i64 2, .string rs, .string us, .string ⟨#[]⟩, .string ⟨#[]⟩, .bool false, .bool true, .int .i64 0, .int .i64 0, .int .i64 ac, .int .i64 am] ((w1.setCell ⟨g, 1, none⟩ (.string rs)).setCell ⟨g, 6, none⟩ (.bool true)) from ((HG.out.store (i := 1) (u := .string rs)).store (i := 6) (u := .bool true)))
        generalize hWs : ((w1.setCell ⟨g, 1, none⟩ (.string rs)).setCell ⟨g, 6, none⟩ (.bool true)) = ws4 at HG ⊢
        clear hWs
        obtain ⟨d0, d1, d2, d3, d4, d5, d6, d7, d8, d9, d10⟩ := cells11 HG.out.1.2.1
        obtain ⟨f0, f1, f2, f3, f4, f5, f6, f7, f8, f9, f10⟩ := cells11 HG.out.2.1
        have fr7 := free_at HG.out.2.1 7
        go_wp2_with fail
        refine (Hs60.out _).mono ?_
        rintro e wz ⟨rfl, rfl⟩
        have q60 := IntWalk.i64_in (1 + a60) (by omega)
        go_upto_region 14 with (fail)
        try rw [q60]
        clear d0 d1 d2 d3 d4 d5 d6 d7 d8 d9 d10 f0 f1 f2 f3 f4 f5 f6 f7 f8 f9 f10 fr7
        replace HG := Lib.hid (show Gd w #[.int .i64 k, .string r, .string u, .string v, .string t, .bool p, .bool true, .int .i64 s, .int .i64 z, .int .i64 c, .int .i64 m] g #[.int .i64 2, .string rs, .string us, .string ⟨#[]⟩, .string ⟨#[]⟩, .bool false, .bool true, .int .i64 (1 + a60), .int .i64 0, .int .i64 ac, .int .i64 am] (ws4.setCell ⟨g, 7, none⟩ (.int .i64 (1 + a60))) from (HG.out.store (i := 7) (u := .int .i64 (1 + a60))))
        generalize hWs : (ws4.setCell ⟨g, 7, none⟩ (.int .i64 (1 + a60))) = ws5 at HG ⊢
        clear hWs
        obtain ⟨X, hX, hx3⟩ := HG.out.1.2.2
        have Hset := Lib.hid (setRow_heap _ _ _ #[.int .i64 2, .string rs, .string us, .string ⟨#[]⟩, .string ⟨#[]⟩, .bool false, .bool true, .int .i64 (1 + a60), .int .i64 0, .int .i64 ac, .int .i64 am] _ _ hx3)
        have HB := Lib.hid (HG.out.1.set (new := #[.int .i64 2, .string rs, .string us, .string ⟨#[]⟩, .string ⟨#[]⟩, .bool false, .bool true, .int .i64 (1 + a60), .int .i64 0, .int .i64 ac, .int .i64 am]) rfl).1
        replace hx3 := Lib.hid hx3
        obtain ⟨f0, f1, f2, f3, f4, f5, f6, f7, f8, f9, f10⟩ := cells11 HG.out.2.1
        go_wp2_with (refine wpList_store_row rfl 50 (.tmp 2) (.tmp 63) rfl (w.heap.size + 1) #[.int .i64 2, .string rs, .string us, .string ⟨#[]⟩, .string ⟨#[]⟩, .bool false, .bool true, .int .i64 (1 + a60), .int .i64 0, .int .i64 ac, .int .i64 am] rfl rfl 50 X hx3.out edu_info (hX.trans rfl) (one11 _ _ _ _ _ _ _ _ _ _ _) ?_)
        generalize hW2 : World.setRow _ _ _ = W2 at Hset HB ⊢
        clear hW2 f0 f1 f2 f3 f4 f5 f6 f7 f8 f9 f10
        obtain ⟨d0, d1, d2, d3, d4, d5, d6, d7, d8, d9, d10⟩ := cells11 Hset.out
        go_wp2_with fail
        refine bodyPost_ret (v := .agg #[.int .i64 2, .string rs, .string us, .string ⟨#[]⟩, .string ⟨#[]⟩, .bool false, .bool true, .int .i64 (1 + a60), .int .i64 0, .int .i64 ac, .int .i64 am]) ?_ rfl ⟨?_, HB.out⟩
        · simp [results, Try.results49, go_sem, d0, d1, d2, d3, d4, d5, d6, d7, d8, d9, d10]
        · rw [hge, H2.out]; try rfl
    · subst h3
      replace HG := Lib.hid (show Gd w #[.int .i64 k, .string r, .string u, .string v, .string t, .bool p, .bool o, .int .i64 s, .int .i64 z, .int .i64 c, .int .i64 m] g #[.int .i64 3, .string ⟨#[]⟩, .string us, .string ⟨#[]⟩, .string ⟨#[]⟩, .bool false, .bool false, .int .i64 0, .int .i64 0, .int .i64 ac, .int .i64 am] wc from HG.out)
      obtain ⟨d0, d1, d2, d3, d4, d5, d6, d7, d8, d9, d10⟩ := cells11 HG.out.1.2.1
      obtain ⟨f0, f1, f2, f3, f4, f5, f6, f7, f8, f9, f10⟩ := cells11 HG.out.2.1
      have fr8 := free_at HG.out.2.1 8
      go_wp2_with fail
      refine (Hs3.out _).mono ?_
      rintro e wz ⟨rfl, rfl⟩
      go_upto_region 14 with (fail)
      clear d0 d1 d2 d3 d4 d5 d6 d7 d8 d9 d10 f0 f1 f2 f3 f4 f5 f6 f7 f8 f9 f10 fr8
      replace HG := Lib.hid (show Gd w #[.int .i64 k, .string r, .string u, .string v, .string t, .bool p, .bool o, .int .i64 s, .int .i64 z, .int .i64 c, .int .i64 m] g #[.int .i64 3, .string ⟨#[]⟩, .string us, .string ⟨#[]⟩, .string ⟨#[]⟩, .bool false, .bool false, .int .i64 0, .int .i64 as3, .int .i64 ac, .int .i64 am] (wc.setCell ⟨g, 8, none⟩ (.int .i64 as3)) from (HG.out.store (i := 8) (u := .int .i64 as3)))
      generalize hWs : (wc.setCell ⟨g, 8, none⟩ (.int .i64 as3)) = ws6 at HG ⊢
      clear hWs
      obtain ⟨X, hX, hx3⟩ := HG.out.1.2.2
      have Hset := Lib.hid (setRow_heap _ _ _ #[.int .i64 3, .string ⟨#[]⟩, .string us, .string ⟨#[]⟩, .string ⟨#[]⟩, .bool false, .bool false, .int .i64 0, .int .i64 as3, .int .i64 ac, .int .i64 am] _ _ hx3)
      have HB := Lib.hid (HG.out.1.set (new := #[.int .i64 3, .string ⟨#[]⟩, .string us, .string ⟨#[]⟩, .string ⟨#[]⟩, .bool false, .bool false, .int .i64 0, .int .i64 as3, .int .i64 ac, .int .i64 am]) rfl).1
      replace hx3 := Lib.hid hx3
      obtain ⟨f0, f1, f2, f3, f4, f5, f6, f7, f8, f9, f10⟩ := cells11 HG.out.2.1
      go_wp2_with (refine wpList_store_row rfl 50 (.tmp 2) (.tmp 63) rfl (w.heap.size + 1) #[.int .i64 3, .string ⟨#[]⟩, .string us, .string ⟨#[]⟩, .string ⟨#[]⟩, .bool false, .bool false, .int .i64 0, .int .i64 as3, .int .i64 ac, .int .i64 am] rfl rfl 50 X hx3.out edu_info (hX.trans rfl) (one11 _ _ _ _ _ _ _ _ _ _ _) ?_)
      generalize hW2 : World.setRow _ _ _ = W2 at Hset HB ⊢
      clear hW2 f0 f1 f2 f3 f4 f5 f6 f7 f8 f9 f10
      obtain ⟨d0, d1, d2, d3, d4, d5, d6, d7, d8, d9, d10⟩ := cells11 Hset.out
      go_wp2_with fail
      refine bodyPost_ret (v := .agg #[.int .i64 3, .string ⟨#[]⟩, .string us, .string ⟨#[]⟩, .string ⟨#[]⟩, .bool false, .bool false, .int .i64 0, .int .i64 as3, .int .i64 ac, .int .i64 am]) ?_ rfl ⟨?_, HB.out⟩
      · simp [results, Try.results49, go_sem, d0, d1, d2, d3, d4, d5, d6, d7, d8, d9, d10]
      · rw [hge, H3.out]; try rfl
end Go.Proofs.Ytnabbebkmafakaa

namespace Go.Proofs.Ytnabbebkmafakaa
open Go.RowKit
set_option linter.unusedVariables false
set_option linter.unusedSimpArgs false
set_option maxRecDepth 20000

theorem size_toList (v : ByteArray) : (v.size = 0) = (v.toList = []) := by
  rw [eq_iff_iff, size_zero, ← toList_iff, ByteArray.toList_eq ⟨#[]⟩]
theorem local_ref (e : Edu) : localB e = (namedB 64 e.user && (decide (0 ≤ e.tick ∧ e.tick ≤ 1099511627776 ∧ 0 ≤ e.stamp ∧ e.stamp ≤ 1099511627776) && kindB e)) := by
  unfold localB stampsB
  rw [Bool.and_assoc]

set_option maxHeartbeats 6400000 in
theorem refLocal_any (e : Edu) (w : World) (hr : e.room.size ≤ maxLen) (hu : e.user.size ≤ maxLen) (hv : e.event.size ≤ maxLen) (ht : e.thread.size ≤ maxLen) : Calls Try.prog 51 #[e.val] w fun x w' => x = .returned (.bool (localB e)) ∧ Below w.heap.size w w' := by
  have hd : e.kind = 1 ∨ e.kind = 2 ∨ e.kind = 3 ∨ (e.kind ≠ 1 ∧ e.kind ≠ 2 ∧ e.kind ≠ 3) := by omega
  have hu2 := fun w => refNamed_any e.user 64 w hu
  have hr2 := fun w => refNamed_any e.room 33 w hr
  have hv2 := fun w => refEvent_any e.event w hv
  have ht2 := fun w => refThread_any e.thread w ht
  have HL := local_ref e
  unfold kindB at HL
  simp only [size_toList] at HL
  obtain ⟨k, r, u, v, t, p, o, s, z, c, m⟩ := e
  simp only [Edu.val] at hu2 hr2 hv2 ht2 HL hd ⊢
  clear hr hu hv ht
  generalize namedB 64 u = bu at *
  generalize namedB 33 r = br at *
  generalize eventB v = be at *
  generalize threadB t = bt at *
  generalize localB _ = lb at *
  replace hu2 := Lib.hid hu2
  replace hr2 := Lib.hid hr2
  replace hv2 := Lib.hid hv2
  replace ht2 := Lib.hid ht2
  replace HL := Lib.hid HL
  have hb0 := Lib.hid (below_new w (.cells #[.int .i64 k, .string r, .string u, .string v, .string t, .bool p, .bool o, .int .i64 s, .int .i64 z, .int .i64 c, .int .i64 m] 50))
  obtain ⟨d0, d1, d2, d3, d4, d5, d6, d7, d8, d9, d10⟩ := cells11 (heap_alloc_new w (.cells #[.int .i64 k, .string r, .string u, .string v, .string t, .bool p, .bool o, .int .i64 s, .int .i64 z, .int .i64 c, .int .i64 m] 50))
  go_enter Try.func51, Try.ntmps51
  go_wp2_with fail
  generalize hW : (w.alloc (.cells #[.int .i64 k, .string r, .string u, .string v, .string t, .bool p, .bool o, .int .i64 s, .int .i64 z, .int .i64 c, .int .i64 m] 50)) = W at *
  clear hW
  refine (hu2.out _).mono ?_
  rintro e wx ⟨rfl, rfl⟩
  go_wp2_with fail
  refine (hr2.out _).mono ?_
  rintro e wx ⟨rfl, rfl⟩
  go_wp2_with fail
  refine (hv2.out _).mono ?_
  rintro e wx ⟨rfl, rfl⟩
  go_wp2_with fail
  refine (ht2.out _).mono ?_
  rintro e wx ⟨rfl, rfl⟩
  clear hu2 hr2 hv2 ht2
  by_cases hst : bu = true ∧ (0 ≤ c ∧ c ≤ 1099511627776 ∧ 0 ≤ m ∧ m ≤ 1099511627776)
  · obtain ⟨rfl, hst⟩ := hst
    rw [decide_eq_true hst] at HL
    obtain ⟨s1, s2, s3, s4⟩ := hst
    have q1 : decide (c < 0) = false := decide_eq_false (by omega)
    have q2 : decide (1099511627776 < c) = false := decide_eq_false (by omega)
    have q3 : decide (m < 0) = false := decide_eq_false (by omega)
    have q4 : decide (1099511627776 < m) = false := decide_eq_false (by omega)
    clear s1 s2 s3 s4
    rcases hd with rfl | rfl | rfl | ⟨h1, h2, h3⟩
    · go_wp2_with fail
      all_goals
        go_ret
        refine ⟨?_, hb0.out⟩
        rw [HL.out]
        first | (simp [*]; done) | (simp [*]; omega) | (simp [*]; rw [Bool.eq_iff_iff]; simp; done) | (simp [*]; rw [Bool.eq_iff_iff]; simp; omega)
    · cases o
      · go_upto_region 11 with (fail)
        go_cut [7] (fun s7 wx => s7 = .bool (decide (s = 0)) ∧ W = wx)
        case first =>
          go_wp2_with fail
          all_goals
            go_meet
            refine ⟨?_, rfl⟩
            first | rfl | (simp [*]; done) | (congr 1; rw [Bool.eq_iff_iff]; simp)
        case rest =>
          obtain ⟨rfl, rfl⟩ := hcut
          replace HL := HL.out
          simp only [Bool.false_eq_true, if_false] at HL
          generalize decide (s = 0) = sb at *
          replace HL := Lib.hid HL
          go_wp2_with fail
          all_goals
            go_ret
            refine ⟨?_, hb0.out⟩
            rw [HL.out]
            first | (simp [*]; done) | (simp [*]; omega) | (simp [*]; rw [Bool.eq_iff_iff]; simp; done) | (simp [*]; rw [Bool.eq_iff_iff]; simp; omega)
      · go_upto_region 11 with (fail)
        go_cut [7] (fun s7 wx => s7 = .bool (decide (1 ≤ s ∧ s ≤ 60)) ∧ W = wx)
        case first =>
          go_wp2_with fail
          all_goals
            go_meet
            refine ⟨?_, rfl⟩
            first | (simp [*]; done) | (congr 1; rw [Bool.eq_iff_iff]; simp; omega)
        case rest =>
          obtain ⟨rfl, rfl⟩ := hcut
          replace HL := HL.out
          simp only [if_true] at HL
          generalize decide (1 ≤ s ∧ s ≤ 60) = sb at *
          replace HL := Lib.hid HL
          go_wp2_with fail
          all_goals
            go_ret
            refine ⟨?_, hb0.out⟩
            rw [HL.out]
            first | (simp [*]; done) | (simp [*]; omega) | (simp [*]; rw [Bool.eq_iff_iff]; simp; done) | (simp [*]; rw [Bool.eq_iff_iff]; simp; omega)
    · go_wp2_with fail
      all_goals
        go_ret
        refine ⟨?_, hb0.out⟩
        rw [HL.out]
        first | (simp [*]; done) | (simp [*]; omega) | (simp [*]; rw [Bool.eq_iff_iff]; simp; done) | (simp [*]; rw [Bool.eq_iff_iff]; simp; omega)
    · have e1 : (k == 1) = false := by simp [h1]
      have e2 : (k == 2) = false := by simp [h2]
      have e3 : (k == 3) = false := by simp [h3]
      go_wp2_with fail
      go_ret
      refine ⟨?_, hb0.out⟩
      rw [HL.out]
      simp [h1, h2, h3]
  · have hn : lb = false := by
      rw [HL.out]
      cases bu
      · rfl
      · rw [decide_eq_false (fun h => hst ⟨rfl, h⟩)]
        rfl
    clear HL hd
    have hd : bu = false ∨ (bu = true ∧ c < 0) ∨ (bu = true ∧ ¬ c < 0 ∧ 1099511627776 < c) ∨ (bu = true ∧ ¬ c < 0 ∧ ¬ 1099511627776 < c ∧ m < 0) ∨ (bu = true ∧ ¬ c < 0 ∧ ¬ 1099511627776 < c ∧ ¬ m < 0 ∧ 1099511627776 < m) := by
      cases bu
      · exact .inl rfl
      · by_cases x1 : c < 0
        · exact .inr (.inl ⟨rfl, x1⟩)
        · by_cases x2 : 1099511627776 < c
          · exact .inr (.inr (.inl ⟨rfl, x1, x2⟩))
          · by_cases x3 : m < 0
            · exact .inr (.inr (.inr (.inl ⟨rfl, x1, x2, x3⟩)))
            · exact .inr (.inr (.inr (.inr ⟨rfl, x1, x2, x3, Int.not_le.1 (fun x4 => hst ⟨rfl, by omega⟩)⟩)))
    clear hst
    rcases hd with rfl | ⟨rfl, x1⟩ | ⟨rfl, x1, x2⟩ | ⟨rfl, x1, x2, x3⟩ | ⟨rfl, x1, x2, x3, x4⟩
    · go_wp2_with fail
      go_ret
      exact ⟨by rw [hn]; rfl, hb0.out⟩
    · have q1 : decide (c < 0) = true := decide_eq_true x1
      go_wp2_with fail
      go_ret
      exact ⟨by rw [hn]; rfl, hb0.out⟩
    · have q1 : decide (c < 0) = false := decide_eq_false x1
      have q2 : decide (1099511627776 < c) = true := decide_eq_true x2
      go_wp2_with fail
      go_ret
      exact ⟨by rw [hn]; rfl, hb0.out⟩
    · have q1 : decide (c < 0) = false := decide_eq_false x1
      have q2 : decide (1099511627776 < c) = false := decide_eq_false x2
      have q3 : decide (m < 0) = true := decide_eq_true x3
      go_wp2_with fail
      go_ret
      exact ⟨by rw [hn]; rfl, hb0.out⟩
    · have q1 : decide (c < 0) = false := decide_eq_false x1
      have q2 : decide (1099511627776 < c) = false := decide_eq_false x2
      have q3 : decide (m < 0) = false := decide_eq_false x3
      have q4 : decide (1099511627776 < m) = true := decide_eq_true x4
      go_wp2_with fail
      go_ret
      exact ⟨by rw [hn]; rfl, hb0.out⟩
end Go.Proofs.Ytnabbebkmafakaa

namespace Go.Proofs.Ytnabbebkmafakaa
open Go.RowKit
set_option linter.unusedVariables false
set_option linter.unusedSimpArgs false
set_option maxRecDepth 20000

set_option maxHeartbeats 800000 in
theorem refMay_any (e : Edu) (w : World) (hr : e.room.size ≤ maxLen) (hu : e.user.size ≤ maxLen) (hv : e.event.size ≤ maxLen) (ht : e.thread.size ≤ maxLen) : Calls Try.prog 28 #[e.val] w fun x w' => x = .returned (.bool (mayB e)) ∧ Below w.heap.size w w' := by
  have hL := fun w => refLocal_any e w hr hu hv ht
  have HM := Lib.hid (show mayB e = (localB e && !e.priv) from rfl)
  generalize mayB e = mb at *
  generalize localB e = lb at *
  obtain ⟨k, r, u, v, t, p, o, s, z, c, m⟩ := e
  clear hr hu hv ht
  simp only [Edu.val] at hL ⊢
  simp only at HM
  replace hL := Lib.hid hL
  go_enter Try.func28, Try.ntmps28
  go_wp2_with fail
  have hT := one_new w #[.int .i64 k, .string r, .string u, .string v, .string t, .bool p, .bool o, .int .i64 s, .int .i64 z, .int .i64 c, .int .i64 m]
  generalize hW : (w.alloc (.cells #[.int .i64 k, .string r, .string u, .string v, .string t, .bool p, .bool o, .int .i64 s, .int .i64 z, .int .i64 c, .int .i64 m] 50)) = W at hT ⊢
  clear hW
  refine (hL.out _).mono ?_
  rintro e w1 ⟨rfl, hb1⟩
  replace hT := hT.later hb1
  clear hb1
  obtain ⟨d0, d1, d2, d3, d4, d5, d6, d7, d8, d9, d10⟩ := cells11 hT.2
  have HB := Lib.hid hT.1
  clear hT
  cases lb
  · go_wp2_with fail
    go_ret
    exact ⟨by rw [HM.out]; rfl, HB.out⟩
  · cases p
    all_goals
      go_wp2_with fail
      go_ret
      exact ⟨by rw [HM.out]; rfl, HB.out⟩

theorem few_def (e : Edu) : fewE e = ⟨e.kind, fewS e.room 40, fewS e.user 40, fewS e.event 40, fewS e.thread 40, e.priv, e.on, e.span, e.state, e.tick, e.stamp⟩ := rfl
set_option maxHeartbeats 800000 in
theorem refFew_any (e : Edu) (w : World) (hr : e.room.size ≤ maxLen) (hu : e.user.size ≤ maxLen) (hv : e.event.size ≤ maxLen) (ht : e.thread.size ≤ maxLen) : Calls Try.prog 25 #[e.val] w fun x w' => x = .returned (fewE e).val ∧ Below w.heap.size w w' := by
  have h1 := Lib.hid (fun w => few_any e.room 40 (by decide) w hr)
  have h2 := Lib.hid (fun w => few_any e.user 40 (by decide) w hu)
  have h3 := Lib.hid (fun w => few_any e.event 40 (by decide) w hv)
  have h4 := Lib.hid (fun w => few_any e.thread 40 (by decide) w ht)
  rw [few_def]
  clear hr hu hv ht
  obtain ⟨k, r, u, v, t, p, o, s, z, c, m⟩ := e
  simp only [Edu.val] at *
  generalize fewS r 40 = fr at *
  generalize fewS u 40 = fu at *
  generalize fewS v 40 = fv at *
  generalize fewS t 40 = ft at *
  have hB := Lib.hid (fun a b => show Below w.heap.size w ((w.alloc (.cells a 50)).alloc (.cells b 50)) from (at_two _ _ rfl).2.2.1)
  go_enter Try.func25, Try.ntmps25
  go_wp2_with fail
  refine (h1.out _).mono ?_
  rintro e wx ⟨rfl, rfl⟩
  go_wp2_with fail
  refine (h2.out _).mono ?_
  rintro e wx ⟨rfl, rfl⟩
  go_wp2_with fail
  refine (h3.out _).mono ?_
  rintro e wx ⟨rfl, rfl⟩
  go_wp2_with fail
  refine (h4.out _).mono ?_
  rintro e wx ⟨rfl, rfl⟩
  go_wp2_with fail
  refine bodyPost_ret (v := .agg #[.int .i64 k, .string fr, .string fu, .string fv, .string ft, .bool p, .bool o, .int .i64 s, .int .i64 z, .int .i64 c, .int .i64 m]) ?_ rfl ⟨rfl, hB.out _ _⟩
  simp [results, Try.results25, go_sem]


theorem public_def (e : Edu) : publicE e = { goodE e with priv := false } := rfl
set_option maxHeartbeats 1600000 in
theorem public_any (e : Edu) (w : World) (hf : e.fits) (hv : e.event.size ≤ maxLen) (ht : e.thread.size ≤ maxLen) :
    Calls Try.prog 23 #[e.val] w fun x w' => x = .returned (publicE e).val ∧ Below w.heap.size w w' := by
  have HG := Lib.hid (fun w => good_any e w hf hv ht)
  rw [public_def]
  clear hf hv ht
  generalize goodE e = ge at *
  obtain ⟨k', r', u', v', t', p', o', s', z', c', m'⟩ := e
  obtain ⟨k, r, u, v, t, p, o, s, z, c, m⟩ := ge
  simp only [Edu.val] at *
  go_enter Try.func23, Try.ntmps23
  go_wp2_with fail
  generalize hW : ((w.alloc (.cells #[.int .i64 k', .string r', .string u', .string v', .string t', .bool p', .bool o', .int .i64 s', .int .i64 z', .int .i64 c', .int .i64 m'] 50)).alloc (.cells #[.int .i64 0, .string ⟨#[]⟩, .string ⟨#[]⟩, .string ⟨#[]⟩, .string ⟨#[]⟩, .bool false, .bool false, .int .i64 0, .int .i64 0, .int .i64 0, .int .i64 0] 50)) = W
  have hT := two_new hW rfl
  clear hW
  refine (HG.out _).mono ?_
  rintro e w1 ⟨rfl, hb1⟩
  replace hT := hT.later hb1
  clear hb1 W
  go_upto_region 3 with (fail)
  have hnew := heap_alloc_new w1 (.cells #[.int .i64 k, .string r, .string u, .string v, .string t, .bool false, .bool o, .int .i64 s, .int .i64 z, .int .i64 c, .int .i64 m] 50)
  replace hT := hT.later (below_new w1 (.cells #[.int .i64 k, .string r, .string u, .string v, .string t, .bool false, .bool o, .int .i64 s, .int .i64 z, .int .i64 c, .int .i64 m] 50))
  generalize hW : (w1.alloc (.cells #[.int .i64 k, .string r, .string u, .string v, .string t, .bool false, .bool o, .int .i64 s, .int .i64 z, .int .i64 c, .int .i64 m] 50)) = W2 at *
  generalize hgg : w1.heap.size = g at *
  clear hW hgg
  obtain ⟨X, hX, hx3⟩ := hT.2.2
  have Hset := Lib.hid (setRow_heap _ _ _ #[.int .i64 k, .string r, .string u, .string v, .string t, .bool false, .bool o, .int .i64 s, .int .i64 z, .int .i64 c, .int .i64 m] _ _ hx3)
  have HB := Lib.hid (hT.set (new := #[.int .i64 k, .string r, .string u, .string v, .string t, .bool false, .bool o, .int .i64 s, .int .i64 z, .int .i64 c, .int .i64 m]) rfl).1
  replace hx3 := Lib.hid hx3
  obtain ⟨f0, f1, f2, f3, f4, f5, f6, f7, f8, f9, f10⟩ := cells11 hnew
  clear hT hnew
  go_wp2_with (refine wpList_store_row rfl 50 (.tmp 2) (.tmp 7) rfl (w.heap.size + 1) #[.int .i64 k, .string r, .string u, .string v, .string t, .bool false, .bool o, .int .i64 s, .int .i64 z, .int .i64 c, .int .i64 m] rfl rfl 50 X hx3.out edu_info (hX.trans rfl) (one11 _ _ _ _ _ _ _ _ _ _ _) ?_)
  generalize hW2 : World.setRow _ _ _ = W3 at Hset HB ⊢
  clear hW2 f0 f1 f2 f3 f4 f5 f6 f7 f8 f9 f10
  obtain ⟨d0, d1, d2, d3, d4, d5, d6, d7, d8, d9, d10⟩ := cells11 Hset.out
  go_wp2_with fail
  refine bodyPost_ret (v := .agg #[.int .i64 k, .string r, .string u, .string v, .string t, .bool false, .bool o, .int .i64 s, .int .i64 z, .int .i64 c, .int .i64 m]) ?_ rfl ⟨rfl, HB.out⟩
  simp [results, Try.results23, go_sem, d0, d1, d2, d3, d4, d5, d6, d7, d8, d9, d10]
end Go.Proofs.Ytnabbebkmafakaa
