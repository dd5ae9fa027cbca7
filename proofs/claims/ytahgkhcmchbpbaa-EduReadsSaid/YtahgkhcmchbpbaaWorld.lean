/-
  The names of the document's small world: which server, user, room, event, thread a number makes.
-/
import Derived.Test.YtahgkhcmchbpbaaGood
import Derived.Test.YtahgkhcmchbpbaaBoth
import Derived.Test.YtahgkhcmchbpbaaOrders
import Derived.Test.YtahgkhcmchbpbaaRefC
import Derived.Deep.DeepCutAuto
namespace Go.Proofs.Ytahgkhcmchbpbaa
open Go.RowKit
set_option linter.unusedVariables false
set_option linter.unusedSimpArgs false
set_option maxRecDepth 4000

def serverS (n : Int) : ByteArray := serverK (aroundN n 3)
theorem around_nat (n : Int) {m : Nat} (h : 0 < m) : aroundI n (m : Int) = ((aroundN n (m : Int) : Nat) : Int) := (aroundN_cast n (by omega)).symm
theorem serverK_cell {k : Nat} (h : k < 3) : (#[.string ⟨#[115, 49]⟩, .string ⟨#[115, 50]⟩, .string ⟨#[115, 51]⟩] : Array Value)[k]? = some (.string (serverK k)) := by
  rcases (show k = 0 ∨ k = 1 ∨ k = 2 by omega) with rfl | rfl | rfl <;> rfl
theorem roomK_cell {k : Nat} (h : k < 2) : (#[.string ⟨#[33, 114, 58, 115, 49]⟩, .string ⟨#[33, 113, 58, 115, 50]⟩] : Array Value)[k]? = some (.string (roomK k)) := by
  rcases (show k = 0 ∨ k = 1 by omega) with rfl | rfl <;> rfl
def partK (k : Nat) : ByteArray := strOf [64, UInt8.ofNat (97 + k), 58]
theorem partK_cell {k : Nat} (h : k < 3) : (#[.string ⟨#[64, 97, 58]⟩, .string ⟨#[64, 98, 58]⟩, .string ⟨#[64, 99, 58]⟩] : Array Value)[k]? = some (.string (partK k)) := by
  rcases (show k = 0 ∨ k = 1 ∨ k = 2 by omega) with rfl | rfl | rfl <;> rfl

set_option maxHeartbeats 800000 in
theorem serverOf_any (n : Int) (w : World) (h0 : -9223372036854775808 ≤ n) (h1 : n ≤ 9223372036854775807) :
    Calls Try.prog 53 #[.int .i64 n] w fun e w' => e = .returned (.string (serverS n)) ∧ Below w.heap.size w w' := by
  have hk := aroundN_lt n (m := 3) (by decide)
  have ha := around_nat n (m := 3) (by decide)
  have hc := serverK_cell hk
  unfold serverS
  simp only [Int.cast_ofNat_Int] at hk ha hc
  generalize aroundN n 3 = k at *
  go_enter Try.func53, Try.ntmps53
  go_wp2_with fail
  have hb := Lib.hid (below_new w (.cells #[.string ⟨#[115, 49]⟩, .string ⟨#[115, 50]⟩, .string ⟨#[115, 51]⟩] 9))
  have hh := (cell_at (heap_alloc_new w (.cells #[.string ⟨#[115, 49]⟩, .string ⟨#[115, 50]⟩, .string ⟨#[115, 51]⟩] 9)) k).trans hc
  generalize hW : (w.alloc (.cells #[.string ⟨#[115, 49]⟩, .string ⟨#[115, 50]⟩, .string ⟨#[115, 51]⟩] 9)) = W at *
  clear hW hc
  refine (around_any n 3 _ h0 h1 (by decide) (by decide)).mono ?_
  rintro e wx ⟨rfl, rfl⟩
  rw [ha]
  have hk2 : (k : Int) < 3 := by omega
  go_wp2_with fail
  go_ret
  exact ⟨rfl, hb.out⟩

set_option maxHeartbeats 800000 in
theorem roomOf_any (n : Int) (w : World) (h0 : -9223372036854775808 ≤ n) (h1 : n ≤ 9223372036854775807) :
    Calls Try.prog 29 #[.int .i64 n] w fun e w' => e = .returned (.string (roomS n)) ∧ Below w.heap.size w w' := by
  have hk := aroundN_lt n (m := 2) (by decide)
  have ha := around_nat n (m := 2) (by decide)
  have hc := roomK_cell hk
  unfold roomS
  simp only [Int.cast_ofNat_Int] at hk ha hc
  generalize aroundN n 2 = k at *
  go_enter Try.func29, Try.ntmps29
  go_wp2_with fail
  have hb := Lib.hid (below_new w (.cells #[.string ⟨#[33, 114, 58, 115, 49]⟩, .string ⟨#[33, 113, 58, 115, 50]⟩] 9))
  have hh := (cell_at (heap_alloc_new w (.cells #[.string ⟨#[33, 114, 58, 115, 49]⟩, .string ⟨#[33, 113, 58, 115, 50]⟩] 9)) k).trans hc
  generalize hW : (w.alloc (.cells #[.string ⟨#[33, 114, 58, 115, 49]⟩, .string ⟨#[33, 113, 58, 115, 50]⟩] 9)) = W at *
  clear hW hc
  refine (around_any n 2 _ h0 h1 (by decide) (by decide)).mono ?_
  rintro e wx ⟨rfl, rfl⟩
  rw [ha]
  have hk2 : (k : Int) < 2 := by omega
  go_wp2_with fail
  go_ret
  exact ⟨rfl, hb.out⟩

theorem around_self : ∀ j : Fin 3, aroundN ((j.val : Nat) : Int) 3 = j.val := by decide +kernel
theorem around_self9 : ∀ j : Fin 9, aroundN ((j.val : Nat) : Int) 9 = j.val := by decide +kernel
theorem user_parts : ∀ k : Fin 9, partK (k.val / 3) ++ serverK (k.val % 3) = userK k.val := by decide +kernel
theorem partK_size (k : Nat) : (partK k).size = 3 := rfl
theorem serverK_size (k : Nat) : (serverK k).size = 2 := rfl

set_option maxHeartbeats 3200000 in
theorem userOf_any (n : Int) (w : World) (h0 : -9223372036854775808 ≤ n) (h1 : n ≤ 9223372036854775807) :
    Calls Try.prog 28 #[.int .i64 n] w fun e w' => e = .returned (.string (userS n)) ∧ Below w.heap.size w w' := by
  have hk := aroundN_lt n (m := 9) (by decide)
  have ha := around_nat n (m := 9) (by decide)
  unfold userS
  simp only [Int.cast_ofNat_Int] at hk ha
  generalize aroundN n 9 = k at *
  have HU := Lib.hid (user_parts ⟨k, hk⟩)
  have hc := partK_cell (show k / 3 < 3 by omega)
  have HS := Lib.hid (fun w => serverOf_any ((k % 3 : Nat) : Int) w (by omega) (by omega))
  unfold serverS at HS
  rw [show aroundN ((k % 3 : Nat) : Int) 3 = k % 3 from around_self ⟨k % 3, by omega⟩] at HS
  have HD := Lib.hid (add_any (partK (k / 3)) (serverK (k % 3)) (by rw [partK_size]; omega) (by rw [serverK_size]; omega))
  rw [show partK (k / 3) ++ serverK (k % 3) = userK k from HU.out] at HD
  clear HU
  have hm3 : ((k : Int)).tmod 3 = ((k % 3 : Nat) : Int) := by rw [Int.tmod_eq_emod_of_nonneg (by omega)]; omega
  have hd3 : ((k : Int)).tdiv 3 = ((k / 3 : Nat) : Int) := by rw [Int.tdiv_eq_ediv_of_nonneg (by omega)]; omega
  have hk3 : k / 3 < 3 := by omega
  generalize userK k = uk at *
  generalize serverK (k % 3) = sk at *
  generalize partK (k / 3) = pk at *
  go_enter Try.func28, Try.ntmps28
  go_wp2_with fail
  refine (around_any n 9 _ h0 h1 (by decide) (by decide)).mono ?_
  rintro e wx ⟨rfl, rfl⟩
  rw [ha]
  go_upto_region 2 with (fail)
  refine wp_region_held_drew (S := fun w' => Below w.heap.size w w') (by kernel_rfl) (Below.drew (Below.refl _ _)) (fun hHeld => ?_)
  generalize hwd : w.drew = wd at hHeld ⊢
  clear hwd
  refine wpAnyH_take (i := 1) (oi := ⟨some 7, _, _, _, _, _⟩) (v := ?v1) rfl (by kernel_rfl) (by kernel_rfl) (by kernel_rfl) (fun _ _ _ h => h) (Or.inl ⟨by rfl, ?y1⟩) hHeld ?r1
  case y1 =>
    intro wx hSx
    go_simp
    try with_reducible rfl
  try simp only [Act.put, List.setIfInBounds_toArray, List.set_cons_zero, List.set_cons_succ]
  refine wpAnyH_take (i := 2) (oi := ⟨some 8, _, _, _, _, _⟩) (v := ?v2) rfl (by kernel_rfl) (by kernel_rfl) (by kernel_rfl) (fun _ _ _ h => h) (Or.inl ⟨by rfl, ?y2⟩) hHeld ?r2
  case y2 =>
    intro wx hSx
    go_simp
    first | done | (rw [hd3]; rfl) | rfl
  try simp only [Act.put, List.setIfInBounds_toArray, List.set_cons_zero, List.set_cons_succ]
  refine wpAnyH_take (i := 5) (oi := ⟨some 11, _, _, _, _, _⟩) (v := ?v5) rfl (by kernel_rfl) (by kernel_rfl) (by kernel_rfl) (fun _ _ _ h => h) (Or.inl ⟨by rfl, ?y5⟩) hHeld ?r5
  case y5 =>
    intro wx hSx
    go_simp
    try with_reducible rfl
  try simp only [Act.put, List.setIfInBounds_toArray, List.set_cons_zero, List.set_cons_succ]
  refine wpAnyH_take (i := 6) (oi := ⟨some 12, _, _, _, _, _⟩) (v := ?v6) rfl (by kernel_rfl) (by kernel_rfl) (by kernel_rfl) (fun _ _ _ h => h) (Or.inl ⟨by rfl, ?y6⟩) hHeld ?r6
  case y6 =>
    intro wx hSx
    go_simp
    first | done | (rw [hm3]; rfl) | rfl
  try simp only [Act.put, List.setIfInBounds_toArray, List.set_cons_zero, List.set_cons_succ]
  rw [IntWalk.i64_in ((k : Int) / 3) (by omega), show ((k : Int) / 3) = ((k / 3 : Nat) : Int) by omega, show ((k : Int) % 3) = ((k % 3 : Nat) : Int) by omega]
  clear hm3 hd3
  generalize hq : k / 3 = q at *
  generalize hj : k % 3 = j at *
  clear hq hj
  have hk4 : ((q : Nat) : Int) < 3 := by omega
  refine wpAnyH_ready (rs := [0, 7]) (by kernel_rfl) (by simp) ?_
  refine AllReadyH.cons (o := ⟨some 6, _, _, _, _, _⟩) rfl (fun K hK => ?wayA) (AllReadyH.cons (o := ⟨some 13, _, _, _, _, _⟩) rfl (fun K hK => ?wayB) AllReadyH.nil)
  case wayA =>
    have hnew := heap_alloc_new wd (.cells #[.string ⟨#[64, 97, 58]⟩, .string ⟨#[64, 98, 58]⟩, .string ⟨#[64, 99, 58]⟩] 9)
    have hH := later hHeld (below_new wd (.cells #[.string ⟨#[64, 97, 58]⟩, .string ⟨#[64, 98, 58]⟩, .string ⟨#[64, 99, 58]⟩] 9))
    go_simp
    refine hK.out _ _ hH (fun _ => ?_)
    clear hK K hHeld
    try simp only [Act.put, List.setIfInBounds_toArray, List.set_cons_zero, List.set_cons_succ]
    generalize hW3 : World.alloc _ _ = W3 at hnew hH ⊢
    clear hW3
    generalize hgg : wd.heap.size = g at hnew ⊢
    clear hgg
    refine anyH_narrow (S' := fun w' => Below w.heap.size w w' ∧ w'.heap[g]? = some (.cells #[.string ⟨#[64, 97, 58]⟩, .string ⟨#[64, 98, 58]⟩, .string ⟨#[64, 99, 58]⟩] 9 (0, 0))) (fun _ h => h.1) _ _ _ _ ?_
    have hHeld : Below w.heap.size w W3 ∧ W3.heap[g]? = _ := ⟨hH, hnew⟩
    clear hH hnew
    refine wpAnyH_take (i := 3) (oi := ⟨some 9, _, _, _, _, _⟩) (v := ?vA3) rfl (by kernel_rfl) (by kernel_rfl) (by kernel_rfl) (fun _ _ _ h => h) (Or.inl ⟨by rfl, ?yA3⟩) hHeld ?rA3
    case yA3 =>
      intro wx hSx
      go_simp
      try with_reducible rfl
    try simp only [Act.put, List.setIfInBounds_toArray, List.set_cons_zero, List.set_cons_succ]
    refine wpAnyH_take (i := 4) (oi := ⟨some 10, _, _, _, _, _⟩) (v := ?vA4) rfl (by kernel_rfl) (by kernel_rfl) (by kernel_rfl) (fun _ _ _ h => h) (Or.inl ⟨by rfl, ?yA4⟩) hHeld ?rA4
    case yA4 =>
      intro wx hSx
      have hcc := (cell_at hSx.2 q).trans hc
      go_simp
      try with_reducible rfl
    try simp only [Act.put, List.setIfInBounds_toArray, List.set_cons_zero, List.set_cons_succ]
    refine wpAnyH_ready (rs := [7]) (by kernel_rfl) (by simp) ?_
    refine AllReadyH.cons (o := ⟨some 13, _, _, _, _, _⟩) rfl (fun K hK => ?_) AllReadyH.nil
    go_simp
    refine (HS.out _).mono ?_
    rintro e wn ⟨rfl, hbn⟩
    have hH : Below w.heap.size w wn ∧ wn.heap[g]? = _ := ⟨later hHeld.1 hbn, (hbn.block _ (heap_lt hHeld.2)).trans hHeld.2⟩
    refine hK.out _ _ hH (fun _ => ?_)
    replace hHeld := hH
    clear hK K hbn hH
    try simp only [Act.put, List.setIfInBounds_toArray, List.set_cons_zero, List.set_cons_succ]
    refine wpAnyH_take (i := 8) (oi := ⟨some 14, _, _, _, _, _⟩) (v := ?vA8) rfl (by kernel_rfl) (by kernel_rfl) (by kernel_rfl) (fun _ _ _ h => h) (Or.inl ⟨by rfl, ?yA8⟩) hHeld ?rA8
    case yA8 =>
      intro wx hSx
      have had := HD.out
      go_simp
      try with_reducible rfl
    try simp only [Act.put, List.setIfInBounds_toArray, List.set_cons_zero, List.set_cons_succ]
    refine wpAnyH_take (i := 9) (oi := ⟨some 2, _, _, _, _, _⟩) (v := ?vA9) rfl (by kernel_rfl) (by kernel_rfl) (by kernel_rfl) (fun _ _ _ h => h) (Or.inl ⟨by rfl, ?yA9⟩) hHeld ?rA9
    case yA9 =>
      intro wx hSx
      go_simp
      try with_reducible rfl
    try simp only [Act.put, List.setIfInBounds_toArray, List.set_cons_zero, List.set_cons_succ]
    refine wpAnyH_done (by kernel_rfl) ?_ _
    have HB := Lib.hid hHeld.1
    clear hHeld
    go_wp2_with fail
    go_ret
    exact ⟨rfl, HB.out⟩
  case wayB =>
    go_simp
    refine (HS.out _).mono ?_
    rintro e wn ⟨rfl, hbn⟩
    replace hHeld := later hHeld hbn
    refine hK.out _ _ hHeld (fun _ => ?_)
    clear hK K hbn
    try simp only [Act.put, List.setIfInBounds_toArray, List.set_cons_zero, List.set_cons_succ]
    refine wpAnyH_ready (rs := [0]) (by kernel_rfl) (by simp) ?_
    refine AllReadyH.cons (o := ⟨some 6, _, _, _, _, _⟩) rfl (fun K hK => ?_) AllReadyH.nil
    have hnew := heap_alloc_new wn (.cells #[.string ⟨#[64, 97, 58]⟩, .string ⟨#[64, 98, 58]⟩, .string ⟨#[64, 99, 58]⟩] 9)
    have hH := later hHeld (below_new wn (.cells #[.string ⟨#[64, 97, 58]⟩, .string ⟨#[64, 98, 58]⟩, .string ⟨#[64, 99, 58]⟩] 9))
    go_simp
    refine hK.out _ _ hH (fun _ => ?_)
    clear hK K hHeld
    try simp only [Act.put, List.setIfInBounds_toArray, List.set_cons_zero, List.set_cons_succ]
    generalize hW3 : World.alloc _ _ = W3 at hnew hH ⊢
    clear hW3
    generalize hgg : wn.heap.size = g at hnew ⊢
    clear hgg
    refine anyH_narrow (S' := fun w' => Below w.heap.size w w' ∧ w'.heap[g]? = some (.cells #[.string ⟨#[64, 97, 58]⟩, .string ⟨#[64, 98, 58]⟩, .string ⟨#[64, 99, 58]⟩] 9 (0, 0))) (fun _ h => h.1) _ _ _ _ ?_
    have hHeld : Below w.heap.size w W3 ∧ W3.heap[g]? = _ := ⟨hH, hnew⟩
    clear hH hnew
    refine wpAnyH_take (i := 3) (oi := ⟨some 9, _, _, _, _, _⟩) (v := ?vB3) rfl (by kernel_rfl) (by kernel_rfl) (by kernel_rfl) (fun _ _ _ h => h) (Or.inl ⟨by rfl, ?yB3⟩) hHeld ?rB3
    case yB3 =>
      intro wx hSx
      go_simp
      try with_reducible rfl
    try simp only [Act.put, List.setIfInBounds_toArray, List.set_cons_zero, List.set_cons_succ]
    refine wpAnyH_take (i := 4) (oi := ⟨some 10, _, _, _, _, _⟩) (v := ?vB4) rfl (by kernel_rfl) (by kernel_rfl) (by kernel_rfl) (fun _ _ _ h => h) (Or.inl ⟨by rfl, ?yB4⟩) hHeld ?rB4
    case yB4 =>
      intro wx hSx
      have hcc := (cell_at hSx.2 q).trans hc
      go_simp
      try with_reducible rfl
    try simp only [Act.put, List.setIfInBounds_toArray, List.set_cons_zero, List.set_cons_succ]
    refine wpAnyH_take (i := 8) (oi := ⟨some 14, _, _, _, _, _⟩) (v := ?vB8) rfl (by kernel_rfl) (by kernel_rfl) (by kernel_rfl) (fun _ _ _ h => h) (Or.inl ⟨by rfl, ?yB8⟩) hHeld ?rB8
    case yB8 =>
      intro wx hSx
      have had := HD.out
      go_simp
      try with_reducible rfl
    try simp only [Act.put, List.setIfInBounds_toArray, List.set_cons_zero, List.set_cons_succ]
    refine wpAnyH_take (i := 9) (oi := ⟨some 2, _, _, _, _, _⟩) (v := ?vB9) rfl (by kernel_rfl) (by kernel_rfl) (by kernel_rfl) (fun _ _ _ h => h) (Or.inl ⟨by rfl, ?yB9⟩) hHeld ?rB9
    case yB9 =>
      intro wx hSx
      go_simp
      try with_reducible rfl
    try simp only [Act.put, List.setIfInBounds_toArray, List.set_cons_zero, List.set_cons_succ]
    refine wpAnyH_done (by kernel_rfl) ?_ _
    have HB := Lib.hid hHeld.1
    clear hHeld
    go_wp2_with fail
    go_ret
    exact ⟨rfl, HB.out⟩

theorem dec_conv (w : World) (k : Nat) (hk : k < 10) (c : Int) (hc : c = 48 + (k : Int)) : (convert 28 9 (.slice (some ⟨w.heap.size, 0, none⟩) 1 1)).run Try.prog (w.alloc (.cells #[.int .u8 c] 5)) = .ok (.string (strOf [UInt8.ofNat (48 + k)])) (w.alloc (.cells #[.int .u8 c] 5)) := by
  refine conv_row (lo := 0) ((own_new w [UInt8.ofNat (48 + k)] #[.int .u8 c] 1 rfl ?_ (by decide) _ rfl).row (Nat.zero_le _))
  subst hc
  simp [bVs, bV]
  omega

set_option maxHeartbeats 3200000 in
theorem decimal_any (k : Nat) (w : World) (hk : k < 10) :
    Calls Try.prog 54 #[.int .i64 (k : Int)] w fun e w' => e = .returned (.string (strOf [UInt8.ofNat (48 + k)])) ∧ Below w.heap.size w w' := by
  have hb := Lib.hid (fun c => below_new w (.cells #[.int .u8 c] 5))
  rcases (show k = 0 ∨ k = 1 ∨ k = 2 ∨ k = 3 ∨ k = 4 ∨ k = 5 ∨ k = 6 ∨ k = 7 ∨ k = 8 ∨ k = 9 by omega) with rfl | rfl | rfl | rfl | rfl | rfl | rfl | rfl | rfl | rfl
  · have hc := dec_conv w 0 (by decide) 48 (by decide)
    go_enter Try.func54, Try.ntmps54
    go_wp2_with fail
    go_ret
    exact ⟨rfl, hb.out _⟩
  · have hc := dec_conv w 1 (by decide) 49 (by decide)
    go_enter Try.func54, Try.ntmps54
    go_wp2_with fail
    go_ret
    exact ⟨rfl, hb.out _⟩
  · have hc := dec_conv w 2 (by decide) 50 (by decide)
    go_enter Try.func54, Try.ntmps54
    go_wp2_with fail
    go_ret
    exact ⟨rfl, hb.out _⟩
  · have hc := dec_conv w 3 (by decide) 51 (by decide)
    go_enter Try.func54, Try.ntmps54
    go_wp2_with fail
    go_ret
    exact ⟨rfl, hb.out _⟩
  · have hc := dec_conv w 4 (by decide) 52 (by decide)
    go_enter Try.func54, Try.ntmps54
    go_wp2_with fail
    go_ret
    exact ⟨rfl, hb.out _⟩
  · have hc := dec_conv w 5 (by decide) 53 (by decide)
    go_enter Try.func54, Try.ntmps54
    go_wp2_with fail
    go_ret
    exact ⟨rfl, hb.out _⟩
  · have hc := dec_conv w 6 (by decide) 54 (by decide)
    go_enter Try.func54, Try.ntmps54
    go_wp2_with fail
    go_ret
    exact ⟨rfl, hb.out _⟩
  · have hc := dec_conv w 7 (by decide) 55 (by decide)
    go_enter Try.func54, Try.ntmps54
    go_wp2_with fail
    go_ret
    exact ⟨rfl, hb.out _⟩
  · have hc := dec_conv w 8 (by decide) 56 (by decide)
    go_enter Try.func54, Try.ntmps54
    go_wp2_with fail
    go_ret
    exact ⟨rfl, hb.out _⟩
  · have hc := dec_conv w 9 (by decide) 57 (by decide)
    go_enter Try.func54, Try.ntmps54
    go_wp2_with fail
    go_ret
    exact ⟨rfl, hb.out _⟩

theorem eventK_add : ∀ k : Fin 9, (⟨#[36, 101]⟩ : ByteArray) ++ strOf [UInt8.ofNat (48 + k.val)] = eventK k.val := by decide +kernel
set_option maxHeartbeats 800000 in
theorem eventOf_any (n : Int) (w : World) (h0 : -9223372036854775808 ≤ n) (h1 : n ≤ 9223372036854775807) :
    Calls Try.prog 30 #[.int .i64 n] w fun e w' => e = .returned (.string (eventS n)) ∧ Below w.heap.size w w' := by
  have hk := aroundN_lt n (m := 9) (by decide)
  have ha := around_nat n (m := 9) (by decide)
  unfold eventS
  simp only [Int.cast_ofNat_Int] at hk ha
  generalize aroundN n 9 = k at *
  have hd := add_any ⟨#[36, 101]⟩ (strOf [UInt8.ofNat (48 + k)]) (by decide) (by rw [strOf_size]; exact (by decide : 1 ≤ 10000))
  rw [show (⟨#[36, 101]⟩ : ByteArray) ++ strOf [UInt8.ofNat (48 + k)] = eventK k from eventK_add ⟨k, hk⟩] at hd
  have HD := Lib.hid (fun w => decimal_any k w (by omega))
  generalize strOf [UInt8.ofNat (48 + k)] = sd at *
  generalize eventK k = ek at *
  go_enter Try.func30, Try.ntmps30
  go_wp2_with fail
  refine (around_any n 9 _ h0 h1 (by decide) (by decide)).mono ?_
  rintro e wx ⟨rfl, rfl⟩
  rw [ha]
  go_wp2_with fail
  refine (HD.out _).mono ?_
  rintro e w1 ⟨rfl, hb⟩
  replace hb := Lib.hid hb
  go_wp2_with fail
  go_ret
  exact ⟨rfl, hb.out⟩

set_option maxHeartbeats 800000 in
theorem threadOf_any (n : Int) (w : World) (h0 : -9223372036854775808 ≤ n) (h1 : n ≤ 9223372036854775807) :
    Calls Try.prog 31 #[.int .i64 n] w fun e w' => e = .returned (.string (threadS n)) ∧ Below w.heap.size w w' := by
  have hk := aroundN_lt n (m := 11) (by decide)
  have ha := around_nat n (m := 11) (by decide)
  unfold threadS
  simp only [Int.cast_ofNat_Int] at hk ha
  generalize aroundN n 11 = k at *
  have hz := Lib.hid (Below.refl w.heap.size w)
  go_enter Try.func31, Try.ntmps31
  go_wp2_with fail
  refine (around_any n 11 _ h0 h1 (by decide) (by decide)).mono ?_
  rintro e wx ⟨rfl, rfl⟩
  rw [ha]
  by_cases h9 : k = 9
  · subst h9
    go_wp2_with fail
    go_ret
    exact ⟨rfl, hz.out⟩
  · have q9 : ((k : Int) == 9) = false := by rw [beq_eq_false_iff_ne]; omega
    by_cases h10 : k = 10
    · subst h10
      go_wp2_with fail
      go_ret
      exact ⟨rfl, hz.out⟩
    · have q10 : ((k : Int) == 10) = false := by rw [beq_eq_false_iff_ne]; omega
      have HE := Lib.hid (fun w => eventOf_any (k : Int) w (by omega) (by omega))
      unfold eventS at HE
      rw [show aroundN (k : Int) 9 = k from around_self9 ⟨k, by omega⟩] at HE
      have ht : threadK k = eventK k := by unfold threadK; rw [if_neg h9, if_neg h10]
      go_wp2_with fail
      refine (HE.out _).mono ?_
      rintro e w1 ⟨rfl, hb⟩
      replace hb := Lib.hid hb
      go_wp2_with fail
      go_ret
      exact ⟨by rw [ht]; rfl, hb.out⟩
end Go.Proofs.Ytahgkhcmchbpbaa
