/-
  What the statements stand on, part ZA19.
-/
import Derived.Test.YtnnapkakbdpkaaaGreatZA17
set_option linter.unusedVariables false
set_option linter.unusedSimpArgs false
namespace Go.Proofs.YtnnapkakbdpkaaaGreat
open Go.RowKit
set_option maxRecDepth 20000
theorem within_any (n a b : Int) (w : World) :
  Calls Tryz.prog 69 #[.int .i64 n, .int .i64 a, .int .i64 b] w fun e w' => e = .returned (.bool (decide (a ≤ n ∧ n ≤ b))) ∧ w = w' := by
 by_cases h1 : a ≤ n
 ·by_cases h2 : n ≤ b
  ·have q1 : decide (a ≤ n) = true := decide_eq_true h1
   have q2 : decide (n ≤ b) = true := decide_eq_true h2
   go_enter Tryz.func69, Tryz.ntmps69
   go_wp2
   go_ret
   simp [h1, h2]
  ·have q1 : decide (a ≤ n) = true := decide_eq_true h1
   have q2 : decide (n ≤ b) = false := decide_eq_false h2
   go_enter Tryz.func69, Tryz.ntmps69
   go_wp2
   go_ret
   simp [h1, h2]
 ·have q1 : decide (a ≤ n) = false := decide_eq_false h1
  go_enter Tryz.func69, Tryz.ntmps69
  go_wp2
  go_ret
  simp [h1]
def eduV (k : Int) (r u v t : ByteArray) (p o : Bool) (s z c m : Int) : Value := .agg #[.int .i64 k, .string r, .string u, .string v, .string t, .bool p, .bool o, .int .i64 s, .int .i64 z, .int .i64 c, .int .i64 m]
theorem at_three {w W : World} (a b d : Obj) (h : ((w.alloc a).alloc b).alloc d = W) : W.heap[w.heap.size]? = some a ∧ W.heap[w.heap.size + 1]? = some b ∧ W.heap[w.heap.size + 1 + 1]? = some d ∧ Below w.heap.size w W ∧ (w.heap.size < W.heap.size ∧ w.heap.size + 1 < W.heap.size ∧ w.heap.size + 1 + 1 < W.heap.size) := by
 subst h
 obtain ⟨e0, e1, hb, z0, z1⟩ := at_two a b rfl (w := w)
 have h1 := size_alloc1 w a
 have h2 := size_alloc1 (w.alloc a) b
 have h3 := size_alloc1 ((w.alloc a).alloc b) d
 have e2 := heap_alloc_new ((w.alloc a).alloc b) d
 rw [h2, h1] at e2
 have hn := below_new ((w.alloc a).alloc b) d
 exact ⟨(hn.block _ (by omega)).trans e0, (hn.block _ (by omega)).trans e1, e2, hb.alloc (by omega) _, by omega, by omega, by omega⟩
def Three (w : World) (box named : Array Value) (w' : World) : Prop := Below w.heap.size w w' ∧ w'.heap[w.heap.size]? = some (.cells box 43 (0, 0)) ∧ (∃ X : Array Value, X.size = 11 ∧ w'.heap[w.heap.size + 1]? = some (.cells X 43 (0, 0))) ∧ w'.heap[w.heap.size + 1 + 1]? = some (.cells named 43 (0, 0))
theorem Three.later {w w' w'' : World} {box named : Array Value} (h : Three w box named w') (hb : Below w'.heap.size w' w'') : Three w box named w'' := by
 obtain ⟨h1, h2, ⟨X, hX, h3⟩, h4⟩ := h
 exact ⟨Go.Proofs.YtnnapkakbdpkaaaGreat.later h1 hb, (hb.block _ (heap_lt h2)).trans h2, ⟨X, hX, (hb.block _ (heap_lt h3)).trans h3⟩, (hb.block _ (heap_lt h4)).trans h4⟩
theorem Three.drew {w w' : World} {box named : Array Value} (h : Three w box named w') : Three w box named w'.drew := ⟨h.1.drew, h.2⟩
theorem Three.set {w w' : World} {box named new : Array Value} (h : Three w box named w') (hn : new.size = 11) : Three w box named (w'.setRow (w.heap.size + 1) new) := by
 obtain ⟨h1, h2, ⟨X, hX, h3⟩, h4⟩ := h
 exact ⟨below_setRow h1 (by omega) _, by rw [setRow_other _ _ _ _ (by omega)]; exact h2, ⟨new, hn, setRow_heap _ _ _ _ _ _ h3⟩, by rw [setRow_other _ _ _ _ (by omega)]; exact h4⟩
theorem three_new {w W : World} {a b d : Array Value} (h : ((w.alloc (.cells a 43)).alloc (.cells b 43)).alloc (.cells d 43) = W) (hb : b.size = 11) : Three w a d W := by
 obtain ⟨e0, e1, e2, h1, _⟩ := at_three _ _ _ h
 exact ⟨h1, e0, ⟨b, hb, e1⟩, e2⟩
theorem asks4_any (k : Int) (r u v t : ByteArray) (p o : Bool) (s z c m : Int) (w : World) :
  Calls Tryz.prog 99 #[.agg #[.int .i64 k, .string r, .string u, .string v, .string t, .bool p, .bool o, .int .i64 s, .int .i64 z, .int .i64 c, .int .i64 m]] w fun e w' => e = .returned (.tuple #[eduV 0 ⟨#[]⟩ ⟨#[]⟩ ⟨#[]⟩ ⟨#[]⟩ false false 0 0 0 0, .bool false]) ∧ Below w.heap.size w w' := by
 go_enter Tryz.func99, Tryz.ntmps99
 go_wp2
 refine bodyPost_ret (v := .tuple #[eduV 0 ⟨#[]⟩ ⟨#[]⟩ ⟨#[]⟩ ⟨#[]⟩ false false 0 0 0 0, .bool false]) ?_ rfl ⟨rfl, ?_⟩
 ·simp [results, Tryz.results99, go_sem, eduV]
 ·exact ((Below.refl _ w).alloc (Nat.le_refl _) _).alloc (by simp) _
set_option maxHeartbeats 3200000 in
theorem asks1_any (k : Int) (r u v t : ByteArray) (p o : Bool) (s z c m : Int) (w : World) (hr : r.size ≤ maxLen) (hu : u.size ≤ maxLen) (hv : v.size ≤ maxLen) (ht : t.size ≤ maxLen) :
  Calls Tryz.prog 92 #[.agg #[.int .i64 k, .string r, .string u, .string v, .string t, .bool p, .bool o, .int .i64 s, .int .i64 z, .int .i64 c, .int .i64 m]] w fun e w' => e = .returned (.tuple #[.agg #[.int .i64 0, .string r, .string u, .string v, .string t, .bool p, .bool false, .int .i64 0, .int .i64 0, .int .i64 0, .int .i64 0], .bool (namedB 33 r && namedB 64 u && eventB v && threadB t)]) ∧ Below w.heap.size w w' := by
 go_enter Tryz.func92, Tryz.ntmps92
 go_wp2_with fail
 generalize hW : (((w.alloc (.cells #[.int .i64 k, .string r, .string u, .string v, .string t, .bool p, .bool o, .int .i64 s, .int .i64 z, .int .i64 c, .int .i64 m] 43)).alloc (.cells #[.int .i64 0, .string ⟨#[]⟩, .string ⟨#[]⟩, .string ⟨#[]⟩, .string ⟨#[]⟩, .bool false, .bool false, .int .i64 0, .int .i64 0, .int .i64 0, .int .i64 0] 43)).alloc (.cells #[.int .i64 0, .string r, .string u, .string v, .string t, .bool p, .bool false, .int .i64 0, .int .i64 0, .int .i64 0, .int .i64 0] 43)) = W
 have hT := (three_new hW rfl).drew
 clear hW
 have hd : namedB 33 r = false ∨ (namedB 33 r = true ∧ namedB 64 u = false) ∨ (namedB 33 r = true ∧ namedB 64 u = true ∧ eventB v = false) ∨ (namedB 33 r = true ∧ namedB 64 u = true ∧ eventB v = true ∧ threadB t = false) ∨ (namedB 33 r = true ∧ namedB 64 u = true ∧ eventB v = true ∧ threadB t = true) := by
  cases namedB 33 r <;> cases namedB 64 u <;> cases eventB v <;> cases threadB t <;> simp
 rcases hd with h1 | ⟨h1, h2⟩ | ⟨h1, h2, h3⟩ | ⟨h1, h2, h3, h4⟩ | ⟨h1, h2, h3, h4⟩
 ·refine wp_region_held_drew (S := fun w' => Three w #[.int .i64 k, .string r, .string u, .string v, .string t, .bool p, .bool o, .int .i64 s, .int .i64 z, .int .i64 c, .int .i64 m] #[.int .i64 0, .string r, .string u, .string v, .string t, .bool p, .bool false, .int .i64 0, .int .i64 0, .int .i64 0, .int .i64 0] w') (by kernel_rfl) hT (fun hHeld => ?_)
  clear hT
  refine wpAnyH_take (i := 0) (oi := ⟨some 16, _, _, _, _, _⟩) (v := ?va0) rfl (by kernel_rfl) (by kernel_rfl) (by kernel_rfl) (fun _ _ _ h => h) (Or.inl ⟨by rfl, ?ya0⟩) hHeld ?ra0
  case ya0 =>
   intro wx hSx
   have d := cells11 hSx.2.2.2
   obtain ⟨d0, d1, d2, d3, d4, d5, d6, d7, d8, d9, d10⟩ := d
   go_simp
   try with_reducible rfl
  try simp only [actS]
  refine wpAnyH_take (i := 1) (oi := ⟨some 17, _, _, _, _, _⟩) (v := ?va1) rfl (by kernel_rfl) (by kernel_rfl) (by kernel_rfl) (fun _ _ _ h => h) (Or.inl ⟨by rfl, ?ya1⟩) hHeld ?ra1
  case ya1 =>
   intro wx hSx
   go_simp
   try with_reducible rfl
  try simp only [actS]
  refine wpAnyH_take (i := 2) (oi := ⟨some 18, _, _, _, _, _⟩) (v := ?va2) rfl (by kernel_rfl) (by kernel_rfl) (by kernel_rfl) (fun _ _ _ h => h) (Or.inl ⟨by rfl, ?ya2⟩) hHeld ?ra2
  case ya2 =>
   intro wx hSx
   have d := cells11 hSx.2.1
   obtain ⟨d0, d1, d2, d3, d4, d5, d6, d7, d8, d9, d10⟩ := d
   go_simp
   try with_reducible rfl
  try simp only [actS]
  refine wpAnyH_ready (rs := [3]) (by kernel_rfl) (by simp) ?_
  refine AllReadyH.cons (o := ⟨some 19, _, _, _, _, _⟩) rfl (fun K hK => ?_) AllReadyH.nil
  go_simp
  refine (room_any r _ hr).mono ?_
  rintro e wna3 ⟨rfl, hbn⟩
  refine hK.out _ _ (hHeld.later hbn) (fun hH => ?_)
  replace hHeld := hH
  clear hK K hbn hH
  try simp only [actS]
  rw [h1]
  refine wpAnyH_take (i := 4) (oi := ⟨some 20, _, _, _, _, _⟩) (v := ?va4) rfl (by kernel_rfl) (by kernel_rfl) (by kernel_rfl) (fun _ _ _ h => h) (Or.inl ⟨by rfl, ?ya4⟩) hHeld ?ra4
  case ya4 =>
   intro wx hSx
   go_simp
   try with_reducible rfl
  try simp only [actS]
  refine wpAnyH_take (i := 5) (oi := ⟨some 21, _, _, _, _, _⟩) (v := undef) rfl (by kernel_rfl) (by kernel_rfl) (by kernel_rfl) (fun _ _ _ h => h) (Or.inr ⟨by rfl, rfl⟩) hHeld ?ra5
  try simp only [actS]
  refine wpAnyH_take (i := 6) (oi := ⟨some 22, _, _, _, _, _⟩) (v := undef) rfl (by kernel_rfl) (by kernel_rfl) (by kernel_rfl) (fun _ _ _ h => h) (Or.inr ⟨by rfl, rfl⟩) hHeld ?ra6
  try simp only [actS]
  refine wpAnyH_take (i := 7) (oi := ⟨some 23, _, _, _, _, _⟩) (v := undef) rfl (by kernel_rfl) (by kernel_rfl) (by kernel_rfl) (fun _ _ _ h => h) (Or.inr ⟨by rfl, rfl⟩) hHeld ?ra7
  try simp only [actS]
  refine wpAnyH_take (i := 8) (oi := ⟨some 24, _, _, _, _, _⟩) (v := ?va8) rfl (by kernel_rfl) (by kernel_rfl) (by kernel_rfl) (fun _ _ _ h => h) (Or.inl ⟨by rfl, ?ya8⟩) hHeld ?ra8
  case ya8 =>
   intro wx hSx
   go_simp
   try with_reducible rfl
  try simp only [actS]
  refine wpAnyH_take (i := 9) (oi := ⟨some 25, _, _, _, _, _⟩) (v := ?va9) rfl (by kernel_rfl) (by kernel_rfl) (by kernel_rfl) (fun _ _ _ h => h) (Or.inl ⟨by rfl, ?ya9⟩) hHeld ?ra9
  case ya9 =>
   intro wx hSx
   go_simp
   try with_reducible rfl
  try simp only [actS]
  refine wpAnyH_take (i := 10) (oi := ⟨some 26, _, _, _, _, _⟩) (v := undef) rfl (by kernel_rfl) (by kernel_rfl) (by kernel_rfl) (fun _ _ _ h => h) (Or.inr ⟨by rfl, rfl⟩) hHeld ?ra10
  try simp only [actS]
  refine wpAnyH_take (i := 11) (oi := ⟨some 27, _, _, _, _, _⟩) (v := undef) rfl (by kernel_rfl) (by kernel_rfl) (by kernel_rfl) (fun _ _ _ h => h) (Or.inr ⟨by rfl, rfl⟩) hHeld ?ra11
  try simp only [actS]
  refine wpAnyH_take (i := 12) (oi := ⟨some 28, _, _, _, _, _⟩) (v := undef) rfl (by kernel_rfl) (by kernel_rfl) (by kernel_rfl) (fun _ _ _ h => h) (Or.inr ⟨by rfl, rfl⟩) hHeld ?ra12
  try simp only [actS]
  refine wpAnyH_take (i := 13) (oi := ⟨some 29, _, _, _, _, _⟩) (v := ?va13) rfl (by kernel_rfl) (by kernel_rfl) (by kernel_rfl) (fun _ _ _ h => h) (Or.inl ⟨by rfl, ?ya13⟩) hHeld ?ra13
  case ya13 =>
   intro wx hSx
   go_simp
   try with_reducible rfl
  try simp only [actS]
  refine wpAnyH_take (i := 14) (oi := ⟨some 30, _, _, _, _, _⟩) (v := ?va14) rfl (by kernel_rfl) (by kernel_rfl) (by kernel_rfl) (fun _ _ _ h => h) (Or.inl ⟨by rfl, ?ya14⟩) hHeld ?ra14
  case ya14 =>
   intro wx hSx
   go_simp
   try with_reducible rfl
  try simp only [actS]
  refine wpAnyH_take (i := 15) (oi := ⟨some 31, _, _, _, _, _⟩) (v := undef) rfl (by kernel_rfl) (by kernel_rfl) (by kernel_rfl) (fun _ _ _ h => h) (Or.inr ⟨by rfl, rfl⟩) hHeld ?ra15
  try simp only [actS]
  refine wpAnyH_take (i := 16) (oi := ⟨some 32, _, _, _, _, _⟩) (v := undef) rfl (by kernel_rfl) (by kernel_rfl) (by kernel_rfl) (fun _ _ _ h => h) (Or.inr ⟨by rfl, rfl⟩) hHeld ?ra16
  try simp only [actS]
  refine wpAnyH_take (i := 17) (oi := ⟨some 33, _, _, _, _, _⟩) (v := undef) rfl (by kernel_rfl) (by kernel_rfl) (by kernel_rfl) (fun _ _ _ h => h) (Or.inr ⟨by rfl, rfl⟩) hHeld ?ra17
  try simp only [actS]
  refine wpAnyH_take (i := 18) (oi := ⟨some 34, _, _, _, _, _⟩) (v := ?va18) rfl (by kernel_rfl) (by kernel_rfl) (by kernel_rfl) (fun _ _ _ h => h) (Or.inl ⟨by rfl, ?ya18⟩) hHeld ?ra18
  case ya18 =>
   intro wx hSx
   go_simp
   try with_reducible rfl
  try simp only [actS]
  obtain ⟨X, hX, hx3⟩ := hHeld.2.2.1
  refine wpAnyH_ready (rs := [19]) (by kernel_rfl) (by simp) ?_
  refine AllReadyH.cons (o := ⟨none, _, _, _, _, _⟩) rfl (fun K hK => ?_) AllReadyH.nil
  rw [if_pos (by rfl)]
  refine wp_store_row 43 (.tmp 2) (.tmp 16) rfl (w.heap.size + 1) #[.int .i64 0, .string r, .string u, .string v, .string t, .bool p, .bool false, .int .i64 0, .int .i64 0, .int .i64 0, .int .i64 0] rfl rfl 43 X hx3 edu_info (hX.trans rfl) (one11 _ _ _ _ _ _ _ _ _ _ _) ?_
  have hset := setRow_heap _ _ _ #[.int .i64 0, .string r, .string u, .string v, .string t, .bool p, .bool false, .int .i64 0, .int .i64 0, .int .i64 0, .int .i64 0] _ _ hx3
  have hH := hHeld.set (new := #[.int .i64 0, .string r, .string u, .string v, .string t, .bool p, .bool false, .int .i64 0, .int .i64 0, .int .i64 0, .int .i64 0]) rfl
  refine hK.out _ _ hH (fun hHeld => ?_)
  clear hK K hH hx3 hX X
  try simp only [actS]
  generalize hW2 : World.setRow _ _ _ = W2 at hset hHeld ⊢
  clear hW2
  refine wpAnyH_take (i := 20) (oi := ⟨some 3, _, _, _, _, _⟩) (v := ?va20) rfl (by kernel_rfl) (by kernel_rfl) (by kernel_rfl) (fun _ _ _ h => h) (Or.inl ⟨by rfl, ?ya20⟩) hHeld ?ra20
  case ya20 =>
   intro wx hSx
   go_simp
   try with_reducible rfl
  try simp only [actS]
  refine wpAnyH_done (by kernel_rfl) ?_ _
  have HB := Lib.hid hHeld.1
  have d := cells11 hset
  obtain ⟨d0, d1, d2, d3, d4, d5, d6, d7, d8, d9, d10⟩ := d
  clear hHeld hset
  go_wp2_with fail
  refine bodyPost_ret (v := .tuple #[.agg #[.int .i64 0, .string r, .string u, .string v, .string t, .bool p, .bool false, .int .i64 0, .int .i64 0, .int .i64 0, .int .i64 0], .bool false]) ?_ rfl ⟨?_, HB.out⟩
  ·simp [results, Tryz.results92, go_sem, d0, d1, d2, d3, d4, d5, d6, d7, d8, d9, d10]
  ·simp [h1]
 ·refine wp_region_held_drew (S := fun w' => Three w #[.int .i64 k, .string r, .string u, .string v, .string t, .bool p, .bool o, .int .i64 s, .int .i64 z, .int .i64 c, .int .i64 m] #[.int .i64 0, .string r, .string u, .string v, .string t, .bool p, .bool false, .int .i64 0, .int .i64 0, .int .i64 0, .int .i64 0] w') (by kernel_rfl) hT (fun hHeld => ?_)
  clear hT
  refine wpAnyH_take (i := 0) (oi := ⟨some 16, _, _, _, _, _⟩) (v := ?vb0) rfl (by kernel_rfl) (by kernel_rfl) (by kernel_rfl) (fun _ _ _ h => h) (Or.inl ⟨by rfl, ?yb0⟩) hHeld ?rb0
  case yb0 =>
   intro wx hSx
   have d := cells11 hSx.2.2.2
   obtain ⟨d0, d1, d2, d3, d4, d5, d6, d7, d8, d9, d10⟩ := d
   go_simp
   try with_reducible rfl
  try simp only [actS]
  refine wpAnyH_take (i := 1) (oi := ⟨some 17, _, _, _, _, _⟩) (v := ?vb1) rfl (by kernel_rfl) (by kernel_rfl) (by kernel_rfl) (fun _ _ _ h => h) (Or.inl ⟨by rfl, ?yb1⟩) hHeld ?rb1
  case yb1 =>
   intro wx hSx
   go_simp
   try with_reducible rfl
  try simp only [actS]
  refine wpAnyH_take (i := 2) (oi := ⟨some 18, _, _, _, _, _⟩) (v := ?vb2) rfl (by kernel_rfl) (by kernel_rfl) (by kernel_rfl) (fun _ _ _ h => h) (Or.inl ⟨by rfl, ?yb2⟩) hHeld ?rb2
  case yb2 =>
   intro wx hSx
   have d := cells11 hSx.2.1
   obtain ⟨d0, d1, d2, d3, d4, d5, d6, d7, d8, d9, d10⟩ := d
   go_simp
   try with_reducible rfl
  try simp only [actS]
  refine wpAnyH_ready (rs := [3]) (by kernel_rfl) (by simp) ?_
  refine AllReadyH.cons (o := ⟨some 19, _, _, _, _, _⟩) rfl (fun K hK => ?_) AllReadyH.nil
  go_simp
  refine (room_any r _ hr).mono ?_
  rintro e wnb3 ⟨rfl, hbn⟩
  refine hK.out _ _ (hHeld.later hbn) (fun hH => ?_)
  replace hHeld := hH
  clear hK K hbn hH
  try simp only [actS]
  rw [h1]
  refine wpAnyH_take (i := 4) (oi := ⟨some 20, _, _, _, _, _⟩) (v := ?vb4) rfl (by kernel_rfl) (by kernel_rfl) (by kernel_rfl) (fun _ _ _ h => h) (Or.inl ⟨by rfl, ?yb4⟩) hHeld ?rb4
  case yb4 =>
   intro wx hSx
   go_simp
   try with_reducible rfl
  try simp only [actS]
  refine wpAnyH_take (i := 5) (oi := ⟨some 21, _, _, _, _, _⟩) (v := ?vb5) rfl (by kernel_rfl) (by kernel_rfl) (by kernel_rfl) (fun _ _ _ h => h) (Or.inl ⟨by rfl, ?yb5⟩) hHeld ?rb5
  case yb5 =>
   intro wx hSx
   go_simp
   try with_reducible rfl
  try simp only [actS]
  refine wpAnyH_take (i := 6) (oi := ⟨some 22, _, _, _, _, _⟩) (v := ?vb6) rfl (by kernel_rfl) (by kernel_rfl) (by kernel_rfl) (fun _ _ _ h => h) (Or.inl ⟨by rfl, ?yb6⟩) hHeld ?rb6
  case yb6 =>
   intro wx hSx
   have d := cells11 hSx.2.1
   obtain ⟨d0, d1, d2, d3, d4, d5, d6, d7, d8, d9, d10⟩ := d
   go_simp
   try with_reducible rfl
  try simp only [actS]
  refine wpAnyH_ready (rs := [7]) (by kernel_rfl) (by simp) ?_
  refine AllReadyH.cons (o := ⟨some 23, _, _, _, _, _⟩) rfl (fun K hK => ?_) AllReadyH.nil
  go_simp
  refine (user_any u _ hu).mono ?_
  rintro e wnb7 ⟨rfl, hbn⟩
  refine hK.out _ _ (hHeld.later hbn) (fun hH => ?_)
  replace hHeld := hH
  clear hK K hbn hH
  try simp only [actS]
  rw [h2]
  refine wpAnyH_take (i := 8) (oi := ⟨some 24, _, _, _, _, _⟩) (v := ?vb8) rfl (by kernel_rfl) (by kernel_rfl) (by kernel_rfl) (fun _ _ _ h => h) (Or.inl ⟨by rfl, ?yb8⟩) hHeld ?rb8
  case yb8 =>
   intro wx hSx
   go_simp
   try with_reducible rfl
  try simp only [actS]
  refine wpAnyH_take (i := 9) (oi := ⟨some 25, _, _, _, _, _⟩) (v := ?vb9) rfl (by kernel_rfl) (by kernel_rfl) (by kernel_rfl) (fun _ _ _ h => h) (Or.inl ⟨by rfl, ?yb9⟩) hHeld ?rb9
  case yb9 =>
   intro wx hSx
   go_simp
   try with_reducible rfl
  try simp only [actS]
  refine wpAnyH_take (i := 10) (oi := ⟨some 26, _, _, _, _, _⟩) (v := undef) rfl (by kernel_rfl) (by kernel_rfl) (by kernel_rfl) (fun _ _ _ h => h) (Or.inr ⟨by rfl, rfl⟩) hHeld ?rb10
  try simp only [actS]
  refine wpAnyH_take (i := 11) (oi := ⟨some 27, _, _, _, _, _⟩) (v := undef) rfl (by kernel_rfl) (by kernel_rfl) (by kernel_rfl) (fun _ _ _ h => h) (Or.inr ⟨by rfl, rfl⟩) hHeld ?rb11
  try simp only [actS]
  refine wpAnyH_take (i := 12) (oi := ⟨some 28, _, _, _, _, _⟩) (v := undef) rfl (by kernel_rfl) (by kernel_rfl) (by kernel_rfl) (fun _ _ _ h => h) (Or.inr ⟨by rfl, rfl⟩) hHeld ?rb12
  try simp only [actS]
  refine wpAnyH_take (i := 13) (oi := ⟨some 29, _, _, _, _, _⟩) (v := ?vb13) rfl (by kernel_rfl) (by kernel_rfl) (by kernel_rfl) (fun _ _ _ h => h) (Or.inl ⟨by rfl, ?yb13⟩) hHeld ?rb13
  case yb13 =>
   intro wx hSx
   go_simp
   try with_reducible rfl
  try simp only [actS]
  refine wpAnyH_take (i := 14) (oi := ⟨some 30, _, _, _, _, _⟩) (v := ?vb14) rfl (by kernel_rfl) (by kernel_rfl) (by kernel_rfl) (fun _ _ _ h => h) (Or.inl ⟨by rfl, ?yb14⟩) hHeld ?rb14
  case yb14 =>
   intro wx hSx
   go_simp
   try with_reducible rfl
  try simp only [actS]
  refine wpAnyH_take (i := 15) (oi := ⟨some 31, _, _, _, _, _⟩) (v := undef) rfl (by kernel_rfl) (by kernel_rfl) (by kernel_rfl) (fun _ _ _ h => h) (Or.inr ⟨by rfl, rfl⟩) hHeld ?rb15
  try simp only [actS]
  refine wpAnyH_take (i := 16) (oi := ⟨some 32, _, _, _, _, _⟩) (v := undef) rfl (by kernel_rfl) (by kernel_rfl) (by kernel_rfl) (fun _ _ _ h => h) (Or.inr ⟨by rfl, rfl⟩) hHeld ?rb16
  try simp only [actS]
  refine wpAnyH_take (i := 17) (oi := ⟨some 33, _, _, _, _, _⟩) (v := undef) rfl (by kernel_rfl) (by kernel_rfl) (by kernel_rfl) (fun _ _ _ h => h) (Or.inr ⟨by rfl, rfl⟩) hHeld ?rb17
  try simp only [actS]
  refine wpAnyH_take (i := 18) (oi := ⟨some 34, _, _, _, _, _⟩) (v := ?vb18) rfl (by kernel_rfl) (by kernel_rfl) (by kernel_rfl) (fun _ _ _ h => h) (Or.inl ⟨by rfl, ?yb18⟩) hHeld ?rb18
  case yb18 =>
   intro wx hSx
   go_simp
   try with_reducible rfl
  try simp only [actS]
  obtain ⟨X, hX, hx3⟩ := hHeld.2.2.1
  refine wpAnyH_ready (rs := [19]) (by kernel_rfl) (by simp) ?_
  refine AllReadyH.cons (o := ⟨none, _, _, _, _, _⟩) rfl (fun K hK => ?_) AllReadyH.nil
  rw [if_pos (by rfl)]
  refine wp_store_row 43 (.tmp 2) (.tmp 16) rfl (w.heap.size + 1) #[.int .i64 0, .string r, .string u, .string v, .string t, .bool p, .bool false, .int .i64 0, .int .i64 0, .int .i64 0, .int .i64 0] rfl rfl 43 X hx3 edu_info (hX.trans rfl) (one11 _ _ _ _ _ _ _ _ _ _ _) ?_
  have hset := setRow_heap _ _ _ #[.int .i64 0, .string r, .string u, .string v, .string t, .bool p, .bool false, .int .i64 0, .int .i64 0, .int .i64 0, .int .i64 0] _ _ hx3
  have hH := hHeld.set (new := #[.int .i64 0, .string r, .string u, .string v, .string t, .bool p, .bool false, .int .i64 0, .int .i64 0, .int .i64 0, .int .i64 0]) rfl
  refine hK.out _ _ hH (fun hHeld => ?_)
  clear hK K hH hx3 hX X
  try simp only [actS]
  generalize hW2 : World.setRow _ _ _ = W2 at hset hHeld ⊢
  clear hW2
  refine wpAnyH_take (i := 20) (oi := ⟨some 3, _, _, _, _, _⟩) (v := ?vb20) rfl (by kernel_rfl) (by kernel_rfl) (by kernel_rfl) (fun _ _ _ h => h) (Or.inl ⟨by rfl, ?yb20⟩) hHeld ?rb20
  case yb20 =>
   intro wx hSx
   go_simp
   try with_reducible rfl
  try simp only [actS]
  refine wpAnyH_done (by kernel_rfl) ?_ _
  have HB := Lib.hid hHeld.1
  have d := cells11 hset
  obtain ⟨d0, d1, d2, d3, d4, d5, d6, d7, d8, d9, d10⟩ := d
  clear hHeld hset
  go_wp2_with fail
  refine bodyPost_ret (v := .tuple #[.agg #[.int .i64 0, .string r, .string u, .string v, .string t, .bool p, .bool false, .int .i64 0, .int .i64 0, .int .i64 0, .int .i64 0], .bool false]) ?_ rfl ⟨?_, HB.out⟩
  ·simp [results, Tryz.results92, go_sem, d0, d1, d2, d3, d4, d5, d6, d7, d8, d9, d10]
  ·simp [h1, h2]
 ·refine wp_region_held_drew (S := fun w' => Three w #[.int .i64 k, .string r, .string u, .string v, .string t, .bool p, .bool o, .int .i64 s, .int .i64 z, .int .i64 c, .int .i64 m] #[.int .i64 0, .string r, .string u, .string v, .string t, .bool p, .bool false, .int .i64 0, .int .i64 0, .int .i64 0, .int .i64 0] w') (by kernel_rfl) hT (fun hHeld => ?_)
  clear hT
  refine wpAnyH_take (i := 0) (oi := ⟨some 16, _, _, _, _, _⟩) (v := ?vc0) rfl (by kernel_rfl) (by kernel_rfl) (by kernel_rfl) (fun _ _ _ h => h) (Or.inl ⟨by rfl, ?yc0⟩) hHeld ?rc0
  case yc0 =>
   intro wx hSx
   have d := cells11 hSx.2.2.2
   obtain ⟨d0, d1, d2, d3, d4, d5, d6, d7, d8, d9, d10⟩ := d
   go_simp
   try with_reducible rfl
  try simp only [actS]
  refine wpAnyH_take (i := 1) (oi := ⟨some 17, _, _, _, _, _⟩) (v := ?vc1) rfl (by kernel_rfl) (by kernel_rfl) (by kernel_rfl) (fun _ _ _ h => h) (Or.inl ⟨by rfl, ?yc1⟩) hHeld ?rc1
  case yc1 =>
   intro wx hSx
   go_simp
   try with_reducible rfl
  try simp only [actS]
  refine wpAnyH_take (i := 2) (oi := ⟨some 18, _, _, _, _, _⟩) (v := ?vc2) rfl (by kernel_rfl) (by kernel_rfl) (by kernel_rfl) (fun _ _ _ h => h) (Or.inl ⟨by rfl, ?yc2⟩) hHeld ?rc2
  case yc2 =>
   intro wx hSx
   have d := cells11 hSx.2.1
   obtain ⟨d0, d1, d2, d3, d4, d5, d6, d7, d8, d9, d10⟩ := d
   go_simp
   try with_reducible rfl
  try simp only [actS]
  refine wpAnyH_ready (rs := [3]) (by kernel_rfl) (by simp) ?_
  refine AllReadyH.cons (o := ⟨some 19, _, _, _, _, _⟩) rfl (fun K hK => ?_) AllReadyH.nil
  go_simp
  refine (room_any r _ hr).mono ?_
  rintro e wnc3 ⟨rfl, hbn⟩
  refine hK.out _ _ (hHeld.later hbn) (fun hH => ?_)
  replace hHeld := hH
  clear hK K hbn hH
  try simp only [actS]
  rw [h1]
  refine wpAnyH_take (i := 4) (oi := ⟨some 20, _, _, _, _, _⟩) (v := ?vc4) rfl (by kernel_rfl) (by kernel_rfl) (by kernel_rfl) (fun _ _ _ h => h) (Or.inl ⟨by rfl, ?yc4⟩) hHeld ?rc4
  case yc4 =>
   intro wx hSx
   go_simp
   try with_reducible rfl
  try simp only [actS]
  refine wpAnyH_take (i := 5) (oi := ⟨some 21, _, _, _, _, _⟩) (v := ?vc5) rfl (by kernel_rfl) (by kernel_rfl) (by kernel_rfl) (fun _ _ _ h => h) (Or.inl ⟨by rfl, ?yc5⟩) hHeld ?rc5
  case yc5 =>
   intro wx hSx
   go_simp
   try with_reducible rfl
  try simp only [actS]
  refine wpAnyH_take (i := 6) (oi := ⟨some 22, _, _, _, _, _⟩) (v := ?vc6) rfl (by kernel_rfl) (by kernel_rfl) (by kernel_rfl) (fun _ _ _ h => h) (Or.inl ⟨by rfl, ?yc6⟩) hHeld ?rc6
  case yc6 =>
   intro wx hSx
   have d := cells11 hSx.2.1
   obtain ⟨d0, d1, d2, d3, d4, d5, d6, d7, d8, d9, d10⟩ := d
   go_simp
   try with_reducible rfl
  try simp only [actS]
  refine wpAnyH_ready (rs := [7]) (by kernel_rfl) (by simp) ?_
  refine AllReadyH.cons (o := ⟨some 23, _, _, _, _, _⟩) rfl (fun K hK => ?_) AllReadyH.nil
  go_simp
  refine (user_any u _ hu).mono ?_
  rintro e wnc7 ⟨rfl, hbn⟩
  refine hK.out _ _ (hHeld.later hbn) (fun hH => ?_)
  replace hHeld := hH
  clear hK K hbn hH
  try simp only [actS]
  rw [h2]
  refine wpAnyH_take (i := 8) (oi := ⟨some 24, _, _, _, _, _⟩) (v := ?vc8) rfl (by kernel_rfl) (by kernel_rfl) (by kernel_rfl) (fun _ _ _ h => h) (Or.inl ⟨by rfl, ?yc8⟩) hHeld ?rc8
  case yc8 =>
   intro wx hSx
   go_simp
   try with_reducible rfl
  try simp only [actS]
  refine wpAnyH_take (i := 9) (oi := ⟨some 25, _, _, _, _, _⟩) (v := ?vc9) rfl (by kernel_rfl) (by kernel_rfl) (by kernel_rfl) (fun _ _ _ h => h) (Or.inl ⟨by rfl, ?yc9⟩) hHeld ?rc9
  case yc9 =>
   intro wx hSx
   go_simp
   try with_reducible rfl
  try simp only [actS]
  refine wpAnyH_take (i := 10) (oi := ⟨some 26, _, _, _, _, _⟩) (v := ?vc10) rfl (by kernel_rfl) (by kernel_rfl) (by kernel_rfl) (fun _ _ _ h => h) (Or.inl ⟨by rfl, ?yc10⟩) hHeld ?rc10
  case yc10 =>
   intro wx hSx
   go_simp
   try with_reducible rfl
  try simp only [actS]
  refine wpAnyH_take (i := 11) (oi := ⟨some 27, _, _, _, _, _⟩) (v := ?vc11) rfl (by kernel_rfl) (by kernel_rfl) (by kernel_rfl) (fun _ _ _ h => h) (Or.inl ⟨by rfl, ?yc11⟩) hHeld ?rc11
  case yc11 =>
   intro wx hSx
   have d := cells11 hSx.2.1
   obtain ⟨d0, d1, d2, d3, d4, d5, d6, d7, d8, d9, d10⟩ := d
   go_simp
   try with_reducible rfl
  try simp only [actS]
  refine wpAnyH_ready (rs := [12]) (by kernel_rfl) (by simp) ?_
  refine AllReadyH.cons (o := ⟨some 28, _, _, _, _, _⟩) rfl (fun K hK => ?_) AllReadyH.nil
  go_simp
  refine (event_code v _ hv).mono ?_
  rintro e wnc12 ⟨rfl, hbn⟩
  refine hK.out _ _ (hHeld.later hbn) (fun hH => ?_)
  replace hHeld := hH
  clear hK K hbn hH
  try simp only [actS]
  rw [h3]
  refine wpAnyH_take (i := 13) (oi := ⟨some 29, _, _, _, _, _⟩) (v := ?vc13) rfl (by kernel_rfl) (by kernel_rfl) (by kernel_rfl) (fun _ _ _ h => h) (Or.inl ⟨by rfl, ?yc13⟩) hHeld ?rc13
  case yc13 =>
   intro wx hSx
   go_simp
   try with_reducible rfl
  try simp only [actS]
  refine wpAnyH_take (i := 14) (oi := ⟨some 30, _, _, _, _, _⟩) (v := ?vc14) rfl (by kernel_rfl) (by kernel_rfl) (by kernel_rfl) (fun _ _ _ h => h) (Or.inl ⟨by rfl, ?yc14⟩) hHeld ?rc14
  case yc14 =>
   intro wx hSx
   go_simp
   try with_reducible rfl
  try simp only [actS]
  refine wpAnyH_take (i := 15) (oi := ⟨some 31, _, _, _, _, _⟩) (v := undef) rfl (by kernel_rfl) (by kernel_rfl) (by kernel_rfl) (fun _ _ _ h => h) (Or.inr ⟨by rfl, rfl⟩) hHeld ?rc15
  try simp only [actS]
  refine wpAnyH_take (i := 16) (oi := ⟨some 32, _, _, _, _, _⟩) (v := undef) rfl (by kernel_rfl) (by kernel_rfl) (by kernel_rfl) (fun _ _ _ h => h) (Or.inr ⟨by rfl, rfl⟩) hHeld ?rc16
  try simp only [actS]
  refine wpAnyH_take (i := 17) (oi := ⟨some 33, _, _, _, _, _⟩) (v := undef) rfl (by kernel_rfl) (by kernel_rfl) (by kernel_rfl) (fun _ _ _ h => h) (Or.inr ⟨by rfl, rfl⟩) hHeld ?rc17
  try simp only [actS]
  refine wpAnyH_take (i := 18) (oi := ⟨some 34, _, _, _, _, _⟩) (v := ?vc18) rfl (by kernel_rfl) (by kernel_rfl) (by kernel_rfl) (fun _ _ _ h => h) (Or.inl ⟨by rfl, ?yc18⟩) hHeld ?rc18
  case yc18 =>
   intro wx hSx
   go_simp
   try with_reducible rfl
  try simp only [actS]
  obtain ⟨X, hX, hx3⟩ := hHeld.2.2.1
  refine wpAnyH_ready (rs := [19]) (by kernel_rfl) (by simp) ?_
  refine AllReadyH.cons (o := ⟨none, _, _, _, _, _⟩) rfl (fun K hK => ?_) AllReadyH.nil
  rw [if_pos (by rfl)]
  refine wp_store_row 43 (.tmp 2) (.tmp 16) rfl (w.heap.size + 1) #[.int .i64 0, .string r, .string u, .string v, .string t, .bool p, .bool false, .int .i64 0, .int .i64 0, .int .i64 0, .int .i64 0] rfl rfl 43 X hx3 edu_info (hX.trans rfl) (one11 _ _ _ _ _ _ _ _ _ _ _) ?_
  have hset := setRow_heap _ _ _ #[.int .i64 0, .string r, .string u, .string v, .string t, .bool p, .bool false, .int .i64 0, .int .i64 0, .int .i64 0, .int .i64 0] _ _ hx3
  have hH := hHeld.set (new := #[.int .i64 0, .string r, .string u, .string v, .string t, .bool p, .bool false, .int .i64 0, .int .i64 0, .int .i64 0, .int .i64 0]) rfl
  refine hK.out _ _ hH (fun hHeld => ?_)
  clear hK K hH hx3 hX X
  try simp only [actS]
  generalize hW2 : World.setRow _ _ _ = W2 at hset hHeld ⊢
  clear hW2
  refine wpAnyH_take (i := 20) (oi := ⟨some 3, _, _, _, _, _⟩) (v := ?vc20) rfl (by kernel_rfl) (by kernel_rfl) (by kernel_rfl) (fun _ _ _ h => h) (Or.inl ⟨by rfl, ?yc20⟩) hHeld ?rc20
  case yc20 =>
   intro wx hSx
   go_simp
   try with_reducible rfl
  try simp only [actS]
  refine wpAnyH_done (by kernel_rfl) ?_ _
  have HB := Lib.hid hHeld.1
  have d := cells11 hset
  obtain ⟨d0, d1, d2, d3, d4, d5, d6, d7, d8, d9, d10⟩ := d
  clear hHeld hset
  go_wp2_with fail
  refine bodyPost_ret (v := .tuple #[.agg #[.int .i64 0, .string r, .string u, .string v, .string t, .bool p, .bool false, .int .i64 0, .int .i64 0, .int .i64 0, .int .i64 0], .bool false]) ?_ rfl ⟨?_, HB.out⟩
  ·simp [results, Tryz.results92, go_sem, d0, d1, d2, d3, d4, d5, d6, d7, d8, d9, d10]
  ·simp [h1, h2, h3]
 ·refine wp_region_held_drew (S := fun w' => Three w #[.int .i64 k, .string r, .string u, .string v, .string t, .bool p, .bool o, .int .i64 s, .int .i64 z, .int .i64 c, .int .i64 m] #[.int .i64 0, .string r, .string u, .string v, .string t, .bool p, .bool false, .int .i64 0, .int .i64 0, .int .i64 0, .int .i64 0] w') (by kernel_rfl) hT (fun hHeld => ?_)
  clear hT
  refine wpAnyH_take (i := 0) (oi := ⟨some 16, _, _, _, _, _⟩) (v := ?vd0) rfl (by kernel_rfl) (by kernel_rfl) (by kernel_rfl) (fun _ _ _ h => h) (Or.inl ⟨by rfl, ?yd0⟩) hHeld ?rd0
  case yd0 =>
   intro wx hSx
   have d := cells11 hSx.2.2.2
   obtain ⟨d0, d1, d2, d3, d4, d5, d6, d7, d8, d9, d10⟩ := d
   go_simp
   try with_reducible rfl
  try simp only [actS]
  refine wpAnyH_take (i := 1) (oi := ⟨some 17, _, _, _, _, _⟩) (v := ?vd1) rfl (by kernel_rfl) (by kernel_rfl) (by kernel_rfl) (fun _ _ _ h => h) (Or.inl ⟨by rfl, ?yd1⟩) hHeld ?rd1
  case yd1 =>
   intro wx hSx
   go_simp
   try with_reducible rfl
  try simp only [actS]
  refine wpAnyH_take (i := 2) (oi := ⟨some 18, _, _, _, _, _⟩) (v := ?vd2) rfl (by kernel_rfl) (by kernel_rfl) (by kernel_rfl) (fun _ _ _ h => h) (Or.inl ⟨by rfl, ?yd2⟩) hHeld ?rd2
  case yd2 =>
   intro wx hSx
   have d := cells11 hSx.2.1
   obtain ⟨d0, d1, d2, d3, d4, d5, d6, d7, d8, d9, d10⟩ := d
   go_simp
   try with_reducible rfl
  try simp only [actS]
  refine wpAnyH_ready (rs := [3]) (by kernel_rfl) (by simp) ?_
  refine AllReadyH.cons (o := ⟨some 19, _, _, _, _, _⟩) rfl (fun K hK => ?_) AllReadyH.nil
  go_simp
  refine (room_any r _ hr).mono ?_
  rintro e wnd3 ⟨rfl, hbn⟩
  refine hK.out _ _ (hHeld.later hbn) (fun hH => ?_)
  replace hHeld := hH
  clear hK K hbn hH
  try simp only [actS]
  rw [h1]
  refine wpAnyH_take (i := 4) (oi := ⟨some 20, _, _, _, _, _⟩) (v := ?vd4) rfl (by kernel_rfl) (by kernel_rfl) (by kernel_rfl) (fun _ _ _ h => h) (Or.inl ⟨by rfl, ?yd4⟩) hHeld ?rd4
  case yd4 =>
   intro wx hSx
   go_simp
   try with_reducible rfl
  try simp only [actS]
  refine wpAnyH_take (i := 5) (oi := ⟨some 21, _, _, _, _, _⟩) (v := ?vd5) rfl (by kernel_rfl) (by kernel_rfl) (by kernel_rfl) (fun _ _ _ h => h) (Or.inl ⟨by rfl, ?yd5⟩) hHeld ?rd5
  case yd5 =>
   intro wx hSx
   go_simp
   try with_reducible rfl
  try simp only [actS]
  refine wpAnyH_take (i := 6) (oi := ⟨some 22, _, _, _, _, _⟩) (v := ?vd6) rfl (by kernel_rfl) (by kernel_rfl) (by kernel_rfl) (fun _ _ _ h => h) (Or.inl ⟨by rfl, ?yd6⟩) hHeld ?rd6
  case yd6 =>
   intro wx hSx
   have d := cells11 hSx.2.1
   obtain ⟨d0, d1, d2, d3, d4, d5, d6, d7, d8, d9, d10⟩ := d
   go_simp
   try with_reducible rfl
  try simp only [actS]
  refine wpAnyH_ready (rs := [7]) (by kernel_rfl) (by simp) ?_
  refine AllReadyH.cons (o := ⟨some 23, _, _, _, _, _⟩) rfl (fun K hK => ?_) AllReadyH.nil
  go_simp
  refine (user_any u _ hu).mono ?_
  rintro e wnd7 ⟨rfl, hbn⟩
  refine hK.out _ _ (hHeld.later hbn) (fun hH => ?_)
  replace hHeld := hH
  clear hK K hbn hH
  try simp only [actS]
  rw [h2]
  refine wpAnyH_take (i := 8) (oi := ⟨some 24, _, _, _, _, _⟩) (v := ?vd8) rfl (by kernel_rfl) (by kernel_rfl) (by kernel_rfl) (fun _ _ _ h => h) (Or.inl ⟨by rfl, ?yd8⟩) hHeld ?rd8
  case yd8 =>
   intro wx hSx
   go_simp
   try with_reducible rfl
  try simp only [actS]
  refine wpAnyH_take (i := 9) (oi := ⟨some 25, _, _, _, _, _⟩) (v := ?vd9) rfl (by kernel_rfl) (by kernel_rfl) (by kernel_rfl) (fun _ _ _ h => h) (Or.inl ⟨by rfl, ?yd9⟩) hHeld ?rd9
  case yd9 =>
   intro wx hSx
   go_simp
   try with_reducible rfl
  try simp only [actS]
  refine wpAnyH_take (i := 10) (oi := ⟨some 26, _, _, _, _, _⟩) (v := ?vd10) rfl (by kernel_rfl) (by kernel_rfl) (by kernel_rfl) (fun _ _ _ h => h) (Or.inl ⟨by rfl, ?yd10⟩) hHeld ?rd10
  case yd10 =>
   intro wx hSx
   go_simp
   try with_reducible rfl
  try simp only [actS]
  refine wpAnyH_take (i := 11) (oi := ⟨some 27, _, _, _, _, _⟩) (v := ?vd11) rfl (by kernel_rfl) (by kernel_rfl) (by kernel_rfl) (fun _ _ _ h => h) (Or.inl ⟨by rfl, ?yd11⟩) hHeld ?rd11
  case yd11 =>
   intro wx hSx
   have d := cells11 hSx.2.1
   obtain ⟨d0, d1, d2, d3, d4, d5, d6, d7, d8, d9, d10⟩ := d
   go_simp
   try with_reducible rfl
  try simp only [actS]
  refine wpAnyH_ready (rs := [12]) (by kernel_rfl) (by simp) ?_
  refine AllReadyH.cons (o := ⟨some 28, _, _, _, _, _⟩) rfl (fun K hK => ?_) AllReadyH.nil
  go_simp
  refine (event_code v _ hv).mono ?_
  rintro e wnd12 ⟨rfl, hbn⟩
  refine hK.out _ _ (hHeld.later hbn) (fun hH => ?_)
  replace hHeld := hH
  clear hK K hbn hH
  try simp only [actS]
  rw [h3]
  refine wpAnyH_take (i := 13) (oi := ⟨some 29, _, _, _, _, _⟩) (v := ?vd13) rfl (by kernel_rfl) (by kernel_rfl) (by kernel_rfl) (fun _ _ _ h => h) (Or.inl ⟨by rfl, ?yd13⟩) hHeld ?rd13
  case yd13 =>
   intro wx hSx
   go_simp
   try with_reducible rfl
  try simp only [actS]
  refine wpAnyH_take (i := 14) (oi := ⟨some 30, _, _, _, _, _⟩) (v := ?vd14) rfl (by kernel_rfl) (by kernel_rfl) (by kernel_rfl) (fun _ _ _ h => h) (Or.inl ⟨by rfl, ?yd14⟩) hHeld ?rd14
  case yd14 =>
   intro wx hSx
   go_simp
   try with_reducible rfl
  try simp only [actS]
  refine wpAnyH_take (i := 15) (oi := ⟨some 31, _, _, _, _, _⟩) (v := ?vd15) rfl (by kernel_rfl) (by kernel_rfl) (by kernel_rfl) (fun _ _ _ h => h) (Or.inl ⟨by rfl, ?yd15⟩) hHeld ?rd15
  case yd15 =>
   intro wx hSx
   go_simp
   try with_reducible rfl
  try simp only [actS]
  refine wpAnyH_take (i := 16) (oi := ⟨some 32, _, _, _, _, _⟩) (v := ?vd16) rfl (by kernel_rfl) (by kernel_rfl) (by kernel_rfl) (fun _ _ _ h => h) (Or.inl ⟨by rfl, ?yd16⟩) hHeld ?rd16
  case yd16 =>
   intro wx hSx
   have d := cells11 hSx.2.1
   obtain ⟨d0, d1, d2, d3, d4, d5, d6, d7, d8, d9, d10⟩ := d
   go_simp
   try with_reducible rfl
  try simp only [actS]
  refine wpAnyH_ready (rs := [17]) (by kernel_rfl) (by simp) ?_
  refine AllReadyH.cons (o := ⟨some 33, _, _, _, _, _⟩) rfl (fun K hK => ?_) AllReadyH.nil
  go_simp
  refine (thread_code t _ ht).mono ?_
  rintro e wnd17 ⟨rfl, hbn⟩
  refine hK.out _ _ (hHeld.later hbn) (fun hH => ?_)
  replace hHeld := hH
  clear hK K hbn hH
  try simp only [actS]
  rw [h4]
  refine wpAnyH_take (i := 18) (oi := ⟨some 34, _, _, _, _, _⟩) (v := ?vd18) rfl (by kernel_rfl) (by kernel_rfl) (by kernel_rfl) (fun _ _ _ h => h) (Or.inl ⟨by rfl, ?yd18⟩) hHeld ?rd18
  case yd18 =>
   intro wx hSx
   go_simp
   try with_reducible rfl
  try simp only [actS]
  obtain ⟨X, hX, hx3⟩ := hHeld.2.2.1
  refine wpAnyH_ready (rs := [19]) (by kernel_rfl) (by simp) ?_
  refine AllReadyH.cons (o := ⟨none, _, _, _, _, _⟩) rfl (fun K hK => ?_) AllReadyH.nil
  rw [if_pos (by rfl)]
  refine wp_store_row 43 (.tmp 2) (.tmp 16) rfl (w.heap.size + 1) #[.int .i64 0, .string r, .string u, .string v, .string t, .bool p, .bool false, .int .i64 0, .int .i64 0, .int .i64 0, .int .i64 0] rfl rfl 43 X hx3 edu_info (hX.trans rfl) (one11 _ _ _ _ _ _ _ _ _ _ _) ?_
  have hset := setRow_heap _ _ _ #[.int .i64 0, .string r, .string u, .string v, .string t, .bool p, .bool false, .int .i64 0, .int .i64 0, .int .i64 0, .int .i64 0] _ _ hx3
  have hH := hHeld.set (new := #[.int .i64 0, .string r, .string u, .string v, .string t, .bool p, .bool false, .int .i64 0, .int .i64 0, .int .i64 0, .int .i64 0]) rfl
  refine hK.out _ _ hH (fun hHeld => ?_)
  clear hK K hH hx3 hX X
  try simp only [actS]
  generalize hW2 : World.setRow _ _ _ = W2 at hset hHeld ⊢
  clear hW2
  refine wpAnyH_take (i := 20) (oi := ⟨some 3, _, _, _, _, _⟩) (v := ?vd20) rfl (by kernel_rfl) (by kernel_rfl) (by kernel_rfl) (fun _ _ _ h => h) (Or.inl ⟨by rfl, ?yd20⟩) hHeld ?rd20
  case yd20 =>
   intro wx hSx
   go_simp
   try with_reducible rfl
  try simp only [actS]
  refine wpAnyH_done (by kernel_rfl) ?_ _
  have HB := Lib.hid hHeld.1
  have d := cells11 hset
  obtain ⟨d0, d1, d2, d3, d4, d5, d6, d7, d8, d9, d10⟩ := d
  clear hHeld hset
  go_wp2_with fail
  refine bodyPost_ret (v := .tuple #[.agg #[.int .i64 0, .string r, .string u, .string v, .string t, .bool p, .bool false, .int .i64 0, .int .i64 0, .int .i64 0, .int .i64 0], .bool false]) ?_ rfl ⟨?_, HB.out⟩
  ·simp [results, Tryz.results92, go_sem, d0, d1, d2, d3, d4, d5, d6, d7, d8, d9, d10]
  ·simp [h1, h2, h3, h4]
 ·refine wp_region_held_drew (S := fun w' => Three w #[.int .i64 k, .string r, .string u, .string v, .string t, .bool p, .bool o, .int .i64 s, .int .i64 z, .int .i64 c, .int .i64 m] #[.int .i64 0, .string r, .string u, .string v, .string t, .bool p, .bool false, .int .i64 0, .int .i64 0, .int .i64 0, .int .i64 0] w') (by kernel_rfl) hT (fun hHeld => ?_)
  clear hT
  refine wpAnyH_take (i := 0) (oi := ⟨some 16, _, _, _, _, _⟩) (v := ?ve0) rfl (by kernel_rfl) (by kernel_rfl) (by kernel_rfl) (fun _ _ _ h => h) (Or.inl ⟨by rfl, ?ye0⟩) hHeld ?re0
  case ye0 =>
   intro wx hSx
   have d := cells11 hSx.2.2.2
   obtain ⟨d0, d1, d2, d3, d4, d5, d6, d7, d8, d9, d10⟩ := d
   go_simp
   try with_reducible rfl
  try simp only [actS]
  refine wpAnyH_take (i := 1) (oi := ⟨some 17, _, _, _, _, _⟩) (v := ?ve1) rfl (by kernel_rfl) (by kernel_rfl) (by kernel_rfl) (fun _ _ _ h => h) (Or.inl ⟨by rfl, ?ye1⟩) hHeld ?re1
  case ye1 =>
   intro wx hSx
   go_simp
   try with_reducible rfl
  try simp only [actS]
  refine wpAnyH_take (i := 2) (oi := ⟨some 18, _, _, _, _, _⟩) (v := ?ve2) rfl (by kernel_rfl) (by kernel_rfl) (by kernel_rfl) (fun _ _ _ h => h) (Or.inl ⟨by rfl, ?ye2⟩) hHeld ?re2
  case ye2 =>
   intro wx hSx
   have d := cells11 hSx.2.1
   obtain ⟨d0, d1, d2, d3, d4, d5, d6, d7, d8, d9, d10⟩ := d
   go_simp
   try with_reducible rfl
  try simp only [actS]
  refine wpAnyH_ready (rs := [3]) (by kernel_rfl) (by simp) ?_
  refine AllReadyH.cons (o := ⟨some 19, _, _, _, _, _⟩) rfl (fun K hK => ?_) AllReadyH.nil
  go_simp
  refine (room_any r _ hr).mono ?_
  rintro e wne3 ⟨rfl, hbn⟩
  refine hK.out _ _ (hHeld.later hbn) (fun hH => ?_)
  replace hHeld := hH
  clear hK K hbn hH
  try simp only [actS]
  rw [h1]
  refine wpAnyH_take (i := 4) (oi := ⟨some 20, _, _, _, _, _⟩) (v := ?ve4) rfl (by kernel_rfl) (by kernel_rfl) (by kernel_rfl) (fun _ _ _ h => h) (Or.inl ⟨by rfl, ?ye4⟩) hHeld ?re4
  case ye4 =>
   intro wx hSx
   go_simp
   try with_reducible rfl
  try simp only [actS]
  refine wpAnyH_take (i := 5) (oi := ⟨some 21, _, _, _, _, _⟩) (v := ?ve5) rfl (by kernel_rfl) (by kernel_rfl) (by kernel_rfl) (fun _ _ _ h => h) (Or.inl ⟨by rfl, ?ye5⟩) hHeld ?re5
  case ye5 =>
   intro wx hSx
   go_simp
   try with_reducible rfl
  try simp only [actS]
  refine wpAnyH_take (i := 6) (oi := ⟨some 22, _, _, _, _, _⟩) (v := ?ve6) rfl (by kernel_rfl) (by kernel_rfl) (by kernel_rfl) (fun _ _ _ h => h) (Or.inl ⟨by rfl, ?ye6⟩) hHeld ?re6
  case ye6 =>
   intro wx hSx
   have d := cells11 hSx.2.1
   obtain ⟨d0, d1, d2, d3, d4, d5, d6, d7, d8, d9, d10⟩ := d
   go_simp
   try with_reducible rfl
  try simp only [actS]
  refine wpAnyH_ready (rs := [7]) (by kernel_rfl) (by simp) ?_
  refine AllReadyH.cons (o := ⟨some 23, _, _, _, _, _⟩) rfl (fun K hK => ?_) AllReadyH.nil
  go_simp
  refine (user_any u _ hu).mono ?_
  rintro e wne7 ⟨rfl, hbn⟩
  refine hK.out _ _ (hHeld.later hbn) (fun hH => ?_)
  replace hHeld := hH
  clear hK K hbn hH
  try simp only [actS]
  rw [h2]
  refine wpAnyH_take (i := 8) (oi := ⟨some 24, _, _, _, _, _⟩) (v := ?ve8) rfl (by kernel_rfl) (by kernel_rfl) (by kernel_rfl) (fun _ _ _ h => h) (Or.inl ⟨by rfl, ?ye8⟩) hHeld ?re8
  case ye8 =>
   intro wx hSx
   go_simp
   try with_reducible rfl
  try simp only [actS]
  refine wpAnyH_take (i := 9) (oi := ⟨some 25, _, _, _, _, _⟩) (v := ?ve9) rfl (by kernel_rfl) (by kernel_rfl) (by kernel_rfl) (fun _ _ _ h => h) (Or.inl ⟨by rfl, ?ye9⟩) hHeld ?re9
  case ye9 =>
   intro wx hSx
   go_simp
   try with_reducible rfl
  try simp only [actS]
  refine wpAnyH_take (i := 10) (oi := ⟨some 26, _, _, _, _, _⟩) (v := ?ve10) rfl (by kernel_rfl) (by kernel_rfl) (by kernel_rfl) (fun _ _ _ h => h) (Or.inl ⟨by rfl, ?ye10⟩) hHeld ?re10
  case ye10 =>
   intro wx hSx
   go_simp
   try with_reducible rfl
  try simp only [actS]
  refine wpAnyH_take (i := 11) (oi := ⟨some 27, _, _, _, _, _⟩) (v := ?ve11) rfl (by kernel_rfl) (by kernel_rfl) (by kernel_rfl) (fun _ _ _ h => h) (Or.inl ⟨by rfl, ?ye11⟩) hHeld ?re11
  case ye11 =>
   intro wx hSx
   have d := cells11 hSx.2.1
   obtain ⟨d0, d1, d2, d3, d4, d5, d6, d7, d8, d9, d10⟩ := d
   go_simp
   try with_reducible rfl
  try simp only [actS]
  refine wpAnyH_ready (rs := [12]) (by kernel_rfl) (by simp) ?_
  refine AllReadyH.cons (o := ⟨some 28, _, _, _, _, _⟩) rfl (fun K hK => ?_) AllReadyH.nil
  go_simp
  refine (event_code v _ hv).mono ?_
  rintro e wne12 ⟨rfl, hbn⟩
  refine hK.out _ _ (hHeld.later hbn) (fun hH => ?_)
  replace hHeld := hH
  clear hK K hbn hH
  try simp only [actS]
  rw [h3]
  refine wpAnyH_take (i := 13) (oi := ⟨some 29, _, _, _, _, _⟩) (v := ?ve13) rfl (by kernel_rfl) (by kernel_rfl) (by kernel_rfl) (fun _ _ _ h => h) (Or.inl ⟨by rfl, ?ye13⟩) hHeld ?re13
  case ye13 =>
   intro wx hSx
   go_simp
   try with_reducible rfl
  try simp only [actS]
  refine wpAnyH_take (i := 14) (oi := ⟨some 30, _, _, _, _, _⟩) (v := ?ve14) rfl (by kernel_rfl) (by kernel_rfl) (by kernel_rfl) (fun _ _ _ h => h) (Or.inl ⟨by rfl, ?ye14⟩) hHeld ?re14
  case ye14 =>
   intro wx hSx
   go_simp
   try with_reducible rfl
  try simp only [actS]
  refine wpAnyH_take (i := 15) (oi := ⟨some 31, _, _, _, _, _⟩) (v := ?ve15) rfl (by kernel_rfl) (by kernel_rfl) (by kernel_rfl) (fun _ _ _ h => h) (Or.inl ⟨by rfl, ?ye15⟩) hHeld ?re15
  case ye15 =>
   intro wx hSx
   go_simp
   try with_reducible rfl
  try simp only [actS]
  refine wpAnyH_take (i := 16) (oi := ⟨some 32, _, _, _, _, _⟩) (v := ?ve16) rfl (by kernel_rfl) (by kernel_rfl) (by kernel_rfl) (fun _ _ _ h => h) (Or.inl ⟨by rfl, ?ye16⟩) hHeld ?re16
  case ye16 =>
   intro wx hSx
   have d := cells11 hSx.2.1
   obtain ⟨d0, d1, d2, d3, d4, d5, d6, d7, d8, d9, d10⟩ := d
   go_simp
   try with_reducible rfl
  try simp only [actS]
  refine wpAnyH_ready (rs := [17]) (by kernel_rfl) (by simp) ?_
  refine AllReadyH.cons (o := ⟨some 33, _, _, _, _, _⟩) rfl (fun K hK => ?_) AllReadyH.nil
  go_simp
  refine (thread_code t _ ht).mono ?_
  rintro e wne17 ⟨rfl, hbn⟩
  refine hK.out _ _ (hHeld.later hbn) (fun hH => ?_)
  replace hHeld := hH
  clear hK K hbn hH
  try simp only [actS]
  rw [h4]
  refine wpAnyH_take (i := 18) (oi := ⟨some 34, _, _, _, _, _⟩) (v := ?ve18) rfl (by kernel_rfl) (by kernel_rfl) (by kernel_rfl) (fun _ _ _ h => h) (Or.inl ⟨by rfl, ?ye18⟩) hHeld ?re18
  case ye18 =>
   intro wx hSx
   go_simp
   try with_reducible rfl
  try simp only [actS]
  obtain ⟨X, hX, hx3⟩ := hHeld.2.2.1
  refine wpAnyH_ready (rs := [19]) (by kernel_rfl) (by simp) ?_
  refine AllReadyH.cons (o := ⟨none, _, _, _, _, _⟩) rfl (fun K hK => ?_) AllReadyH.nil
  rw [if_pos (by rfl)]
  refine wp_store_row 43 (.tmp 2) (.tmp 16) rfl (w.heap.size + 1) #[.int .i64 0, .string r, .string u, .string v, .string t, .bool p, .bool false, .int .i64 0, .int .i64 0, .int .i64 0, .int .i64 0] rfl rfl 43 X hx3 edu_info (hX.trans rfl) (one11 _ _ _ _ _ _ _ _ _ _ _) ?_
  have hset := setRow_heap _ _ _ #[.int .i64 0, .string r, .string u, .string v, .string t, .bool p, .bool false, .int .i64 0, .int .i64 0, .int .i64 0, .int .i64 0] _ _ hx3
  have hH := hHeld.set (new := #[.int .i64 0, .string r, .string u, .string v, .string t, .bool p, .bool false, .int .i64 0, .int .i64 0, .int .i64 0, .int .i64 0]) rfl
  refine hK.out _ _ hH (fun hHeld => ?_)
  clear hK K hH hx3 hX X
  try simp only [actS]
  generalize hW2 : World.setRow _ _ _ = W2 at hset hHeld ⊢
  clear hW2
  refine wpAnyH_take (i := 20) (oi := ⟨some 3, _, _, _, _, _⟩) (v := ?ve20) rfl (by kernel_rfl) (by kernel_rfl) (by kernel_rfl) (fun _ _ _ h => h) (Or.inl ⟨by rfl, ?ye20⟩) hHeld ?re20
  case ye20 =>
   intro wx hSx
   go_simp
   try with_reducible rfl
  try simp only [actS]
  refine wpAnyH_done (by kernel_rfl) ?_ _
  have HB := Lib.hid hHeld.1
  have d := cells11 hset
  obtain ⟨d0, d1, d2, d3, d4, d5, d6, d7, d8, d9, d10⟩ := d
  clear hHeld hset
  go_wp2_with fail
  refine bodyPost_ret (v := .tuple #[.agg #[.int .i64 0, .string r, .string u, .string v, .string t, .bool p, .bool false, .int .i64 0, .int .i64 0, .int .i64 0, .int .i64 0], .bool true]) ?_ rfl ⟨?_, HB.out⟩
  ·simp [results, Tryz.results92, go_sem, d0, d1, d2, d3, d4, d5, d6, d7, d8, d9, d10]
  ·simp [h1, h2, h3, h4]
end Go.Proofs.YtnnapkakbdpkaaaGreat
namespace Go.Proofs.YtnnapkakbdpkaaaGreat
open Go.RowKit
set_option maxRecDepth 20000
set_option maxHeartbeats 3200000 in
theorem asks3_any (k : Int) (r u v t : ByteArray) (p o : Bool) (s z c m : Int) (w : World) (hr : r.size ≤ maxLen) (hu : u.size ≤ maxLen) (hv : v.size ≤ maxLen) (ht : t.size ≤ maxLen) :
  Calls Tryz.prog 98 #[.agg #[.int .i64 k, .string r, .string u, .string v, .string t, .bool p, .bool o, .int .i64 s, .int .i64 z, .int .i64 c, .int .i64 m]] w fun e w' => e = .returned (.tuple #[.agg #[.int .i64 0, .string ⟨#[]⟩, .string u, .string ⟨#[]⟩, .string ⟨#[]⟩, .bool false, .bool false, .int .i64 0, .int .i64 z, .int .i64 0, .int .i64 0], .bool (namedB 64 u && decide (0 ≤ z ∧ z ≤ 2))]) ∧ Below w.heap.size w w' := by
 go_enter Tryz.func98, Tryz.ntmps98
 go_wp2_with fail
 generalize hW : ((w.alloc (.cells #[.int .i64 k, .string r, .string u, .string v, .string t, .bool p, .bool o, .int .i64 s, .int .i64 z, .int .i64 c, .int .i64 m] 43)).alloc (.cells #[.int .i64 0, .string ⟨#[]⟩, .string ⟨#[]⟩, .string ⟨#[]⟩, .string ⟨#[]⟩, .bool false, .bool false, .int .i64 0, .int .i64 0, .int .i64 0, .int .i64 0] 43)) = W
 have hT := (two_new hW rfl).drew
 clear hW
 cases h1 : namedB 64 u
 ·refine wp_region_held_drew (S := fun w' => Two w #[.int .i64 k, .string r, .string u, .string v, .string t, .bool p, .bool o, .int .i64 s, .int .i64 z, .int .i64 c, .int .i64 m] w') (by kernel_rfl) hT (fun hHeld => ?_)
  clear hT
  refine wpAnyH_take (i := 0) (oi := ⟨some 4, _, _, _, _, _⟩) (v := ?vn0) rfl (by kernel_rfl) (by kernel_rfl) (by kernel_rfl) (fun _ _ _ h => h) (Or.inl ⟨by rfl, ?yn0⟩) hHeld ?rn0
  case yn0 =>
   intro wx hSx
   go_simp
   try with_reducible rfl
  try simp only [actS]
  refine wpAnyH_take (i := 1) (oi := ⟨some 5, _, _, _, _, _⟩) (v := ?vn1) rfl (by kernel_rfl) (by kernel_rfl) (by kernel_rfl) (fun _ _ _ h => h) (Or.inl ⟨by rfl, ?yn1⟩) hHeld ?rn1
  case yn1 =>
   intro wx hSx
   have d := cells11 hSx.2.1
   obtain ⟨d0, d1, d2, d3, d4, d5, d6, d7, d8, d9, d10⟩ := d
   go_simp
   try with_reducible rfl
  try simp only [actS]
  refine wpAnyH_take (i := 2) (oi := ⟨some 6, _, _, _, _, _⟩) (v := ?vn2) rfl (by kernel_rfl) (by kernel_rfl) (by kernel_rfl) (fun _ _ _ h => h) (Or.inl ⟨by rfl, ?yn2⟩) hHeld ?rn2
  case yn2 =>
   intro wx hSx
   go_simp
   try with_reducible rfl
  try simp only [actS]
  refine wpAnyH_take (i := 3) (oi := ⟨some 7, _, _, _, _, _⟩) (v := ?vn3) rfl (by kernel_rfl) (by kernel_rfl) (by kernel_rfl) (fun _ _ _ h => h) (Or.inl ⟨by rfl, ?yn3⟩) hHeld ?rn3
  case yn3 =>
   intro wx hSx
   have d := cells11 hSx.2.1
   obtain ⟨d0, d1, d2, d3, d4, d5, d6, d7, d8, d9, d10⟩ := d
   go_simp
   try with_reducible rfl
  try simp only [actS]
  refine wpAnyH_take (i := 4) (oi := ⟨some 8, _, _, _, _, _⟩) (v := ?vn4) rfl (by kernel_rfl) (by kernel_rfl) (by kernel_rfl) (fun _ _ _ h => h) (Or.inl ⟨by rfl, ?yn4⟩) hHeld ?rn4
  case yn4 =>
   intro wx hSx
   go_simp
   try with_reducible rfl
  try simp only [actS]
  refine wpAnyH_take (i := 5) (oi := ⟨some 9, _, _, _, _, _⟩) (v := ?vn5) rfl (by kernel_rfl) (by kernel_rfl) (by kernel_rfl) (fun _ _ _ h => h) (Or.inl ⟨by rfl, ?yn5⟩) hHeld ?rn5
  case yn5 =>
   intro wx hSx
   go_simp
   try with_reducible rfl
  try simp only [actS]
  refine wpAnyH_take (i := 6) (oi := ⟨some 10, _, _, _, _, _⟩) (v := ?vn6) rfl (by kernel_rfl) (by kernel_rfl) (by kernel_rfl) (fun _ _ _ h => h) (Or.inl ⟨by rfl, ?yn6⟩) hHeld ?rn6
  case yn6 =>
   intro wx hSx
   have d := cells11 hSx.2.1
   obtain ⟨d0, d1, d2, d3, d4, d5, d6, d7, d8, d9, d10⟩ := d
   go_simp
   try with_reducible rfl
  try simp only [actS]
  refine wpAnyH_ready (rs := [7]) (by kernel_rfl) (by simp) ?_
  refine AllReadyH.cons (o := ⟨some 11, _, _, _, _, _⟩) rfl (fun K hK => ?_) AllReadyH.nil
  go_simp
  refine (user_any u _ hu).mono ?_
  rintro e wnn7 ⟨rfl, hbn⟩
  refine hK.out _ _ (hHeld.later hbn) (fun hH => ?_)
  replace hHeld := hH
  clear hK K hbn hH
  try simp only [actS]
  rw [h1]
  refine wpAnyH_take (i := 8) (oi := ⟨some 12, _, _, _, _, _⟩) (v := ?vn8) rfl (by kernel_rfl) (by kernel_rfl) (by kernel_rfl) (fun _ _ _ h => h) (Or.inl ⟨by rfl, ?yn8⟩) hHeld ?rn8
  case yn8 =>
   intro wx hSx
   go_simp
   try with_reducible rfl
  try simp only [actS]
  refine wpAnyH_take (i := 9) (oi := ⟨some 13, _, _, _, _, _⟩) (v := undef) rfl (by kernel_rfl) (by kernel_rfl) (by kernel_rfl) (fun _ _ _ h => h) (Or.inr ⟨by rfl, rfl⟩) hHeld ?rn9
  try simp only [actS]
  refine wpAnyH_take (i := 10) (oi := ⟨some 14, _, _, _, _, _⟩) (v := undef) rfl (by kernel_rfl) (by kernel_rfl) (by kernel_rfl) (fun _ _ _ h => h) (Or.inr ⟨by rfl, rfl⟩) hHeld ?rn10
  try simp only [actS]
  refine wpAnyH_take (i := 11) (oi := ⟨some 15, _, _, _, _, _⟩) (v := undef) rfl (by kernel_rfl) (by kernel_rfl) (by kernel_rfl) (fun _ _ _ h => h) (Or.inr ⟨by rfl, rfl⟩) hHeld ?rn11
  try simp only [actS]
  refine wpAnyH_take (i := 12) (oi := ⟨some 16, _, _, _, _, _⟩) (v := ?vn12) rfl (by kernel_rfl) (by kernel_rfl) (by kernel_rfl) (fun _ _ _ h => h) (Or.inl ⟨by rfl, ?yn12⟩) hHeld ?rn12
  case yn12 =>
   intro wx hSx
   go_simp
   try with_reducible rfl
  try simp only [actS]
  replace hHeld : Two w _ _ := hHeld
  obtain ⟨X, hX, hx3⟩ := hHeld.2.2
  refine wpAnyH_ready (rs := [13]) (by kernel_rfl) (by simp) ?_
  refine AllReadyH.cons (o := ⟨none, _, _, _, _, _⟩) rfl (fun K hK => ?_) AllReadyH.nil
  rw [if_pos (by rfl)]
  refine wp_store_row 43 (.tmp 2) (.tmp 8) rfl (w.heap.size + 1) #[.int .i64 0, .string ⟨#[]⟩, .string u, .string ⟨#[]⟩, .string ⟨#[]⟩, .bool false, .bool false, .int .i64 0, .int .i64 z, .int .i64 0, .int .i64 0] rfl rfl 43 X hx3 edu_info (hX.trans rfl) (one11 _ _ _ _ _ _ _ _ _ _ _) ?_
  have hset := setRow_heap _ _ _ #[.int .i64 0, .string ⟨#[]⟩, .string u, .string ⟨#[]⟩, .string ⟨#[]⟩, .bool false, .bool false, .int .i64 0, .int .i64 z, .int .i64 0, .int .i64 0] _ _ hx3
  have hH := hHeld.set (new := #[.int .i64 0, .string ⟨#[]⟩, .string u, .string ⟨#[]⟩, .string ⟨#[]⟩, .bool false, .bool false, .int .i64 0, .int .i64 z, .int .i64 0, .int .i64 0]) rfl
  refine hK.out _ _ hH (fun hHeld => ?_)
  clear hK K hH hx3 hX X
  try simp only [actS]
  generalize hW2 : World.setRow _ _ _ = W2 at hset hHeld ⊢
  clear hW2
  refine wpAnyH_take (i := 14) (oi := ⟨some 3, _, _, _, _, _⟩) (v := ?vn14) rfl (by kernel_rfl) (by kernel_rfl) (by kernel_rfl) (fun _ _ _ h => h) (Or.inl ⟨by rfl, ?yn14⟩) hHeld ?rn14
  case yn14 =>
   intro wx hSx
   go_simp
   try with_reducible rfl
  try simp only [actS]
  refine wpAnyH_done (by kernel_rfl) ?_ _
  have HB := Lib.hid hHeld.1
  have d := cells11 hset
  obtain ⟨d0, d1, d2, d3, d4, d5, d6, d7, d8, d9, d10⟩ := d
  clear hHeld hset
  go_wp2_with fail
  refine bodyPost_ret (v := .tuple #[.agg #[.int .i64 0, .string ⟨#[]⟩, .string u, .string ⟨#[]⟩, .string ⟨#[]⟩, .bool false, .bool false, .int .i64 0, .int .i64 z, .int .i64 0, .int .i64 0], .bool false]) ?_ rfl ⟨?_, HB.out⟩
  ·simp [results, Tryz.results98, go_sem, d0, d1, d2, d3, d4, d5, d6, d7, d8, d9, d10]
  ·simp [h1]
 ·refine wp_region_held_drew (S := fun w' => Two w #[.int .i64 k, .string r, .string u, .string v, .string t, .bool p, .bool o, .int .i64 s, .int .i64 z, .int .i64 c, .int .i64 m] w') (by kernel_rfl) hT (fun hHeld => ?_)
  clear hT
  refine wpAnyH_take (i := 0) (oi := ⟨some 4, _, _, _, _, _⟩) (v := ?vy0) rfl (by kernel_rfl) (by kernel_rfl) (by kernel_rfl) (fun _ _ _ h => h) (Or.inl ⟨by rfl, ?yy0⟩) hHeld ?ry0
  case yy0 =>
   intro wx hSx
   go_simp
   try with_reducible rfl
  try simp only [actS]
  refine wpAnyH_take (i := 1) (oi := ⟨some 5, _, _, _, _, _⟩) (v := ?vy1) rfl (by kernel_rfl) (by kernel_rfl) (by kernel_rfl) (fun _ _ _ h => h) (Or.inl ⟨by rfl, ?yy1⟩) hHeld ?ry1
  case yy1 =>
   intro wx hSx
   have d := cells11 hSx.2.1
   obtain ⟨d0, d1, d2, d3, d4, d5, d6, d7, d8, d9, d10⟩ := d
   go_simp
   try with_reducible rfl
  try simp only [actS]
  refine wpAnyH_take (i := 2) (oi := ⟨some 6, _, _, _, _, _⟩) (v := ?vy2) rfl (by kernel_rfl) (by kernel_rfl) (by kernel_rfl) (fun _ _ _ h => h) (Or.inl ⟨by rfl, ?yy2⟩) hHeld ?ry2
  case yy2 =>
   intro wx hSx
   go_simp
   try with_reducible rfl
  try simp only [actS]
  refine wpAnyH_take (i := 3) (oi := ⟨some 7, _, _, _, _, _⟩) (v := ?vy3) rfl (by kernel_rfl) (by kernel_rfl) (by kernel_rfl) (fun _ _ _ h => h) (Or.inl ⟨by rfl, ?yy3⟩) hHeld ?ry3
  case yy3 =>
   intro wx hSx
   have d := cells11 hSx.2.1
   obtain ⟨d0, d1, d2, d3, d4, d5, d6, d7, d8, d9, d10⟩ := d
   go_simp
   try with_reducible rfl
  try simp only [actS]
  refine wpAnyH_take (i := 4) (oi := ⟨some 8, _, _, _, _, _⟩) (v := ?vy4) rfl (by kernel_rfl) (by kernel_rfl) (by kernel_rfl) (fun _ _ _ h => h) (Or.inl ⟨by rfl, ?yy4⟩) hHeld ?ry4
  case yy4 =>
   intro wx hSx
   go_simp
   try with_reducible rfl
  try simp only [actS]
  refine wpAnyH_take (i := 5) (oi := ⟨some 9, _, _, _, _, _⟩) (v := ?vy5) rfl (by kernel_rfl) (by kernel_rfl) (by kernel_rfl) (fun _ _ _ h => h) (Or.inl ⟨by rfl, ?yy5⟩) hHeld ?ry5
  case yy5 =>
   intro wx hSx
   go_simp
   try with_reducible rfl
  try simp only [actS]
  refine wpAnyH_take (i := 6) (oi := ⟨some 10, _, _, _, _, _⟩) (v := ?vy6) rfl (by kernel_rfl) (by kernel_rfl) (by kernel_rfl) (fun _ _ _ h => h) (Or.inl ⟨by rfl, ?yy6⟩) hHeld ?ry6
  case yy6 =>
   intro wx hSx
   have d := cells11 hSx.2.1
   obtain ⟨d0, d1, d2, d3, d4, d5, d6, d7, d8, d9, d10⟩ := d
   go_simp
   try with_reducible rfl
  try simp only [actS]
  refine wpAnyH_ready (rs := [7]) (by kernel_rfl) (by simp) ?_
  refine AllReadyH.cons (o := ⟨some 11, _, _, _, _, _⟩) rfl (fun K hK => ?_) AllReadyH.nil
  go_simp
  refine (user_any u _ hu).mono ?_
  rintro e wny7 ⟨rfl, hbn⟩
  refine hK.out _ _ (hHeld.later hbn) (fun hH => ?_)
  replace hHeld := hH
  clear hK K hbn hH
  try simp only [actS]
  rw [h1]
  refine wpAnyH_take (i := 8) (oi := ⟨some 12, _, _, _, _, _⟩) (v := ?vy8) rfl (by kernel_rfl) (by kernel_rfl) (by kernel_rfl) (fun _ _ _ h => h) (Or.inl ⟨by rfl, ?yy8⟩) hHeld ?ry8
  case yy8 =>
   intro wx hSx
   go_simp
   try with_reducible rfl
  try simp only [actS]
  refine wpAnyH_take (i := 9) (oi := ⟨some 13, _, _, _, _, _⟩) (v := ?vy9) rfl (by kernel_rfl) (by kernel_rfl) (by kernel_rfl) (fun _ _ _ h => h) (Or.inl ⟨by rfl, ?yy9⟩) hHeld ?ry9
  case yy9 =>
   intro wx hSx
   go_simp
   try with_reducible rfl
  try simp only [actS]
  refine wpAnyH_take (i := 10) (oi := ⟨some 14, _, _, _, _, _⟩) (v := ?vy10) rfl (by kernel_rfl) (by kernel_rfl) (by kernel_rfl) (fun _ _ _ h => h) (Or.inl ⟨by rfl, ?yy10⟩) hHeld ?ry10
  case yy10 =>
   intro wx hSx
   have d := cells11 hSx.2.1
   obtain ⟨d0, d1, d2, d3, d4, d5, d6, d7, d8, d9, d10⟩ := d
   go_simp
   try with_reducible rfl
  try simp only [actS]
  refine anyH_asks (i := 11) (oi := ⟨some 15, _, _, _, _, _⟩) (v := .bool (decide (0 ≤ z ∧ z ≤ 2))) rfl (by kernel_rfl) (by kernel_rfl) (by kernel_rfl) (fun _ _ _ h => h) ⟨by rfl, fun wx hSx => ⟨_, _, ?ey11, within_any z 0 2 _⟩⟩ hHeld ?ry11
  case ey11 => go_simp
  try simp only [actS]
  refine wpAnyH_take (i := 12) (oi := ⟨some 16, _, _, _, _, _⟩) (v := ?vy12) rfl (by kernel_rfl) (by kernel_rfl) (by kernel_rfl) (fun _ _ _ h => h) (Or.inl ⟨by rfl, ?yy12⟩) hHeld ?ry12
  case yy12 =>
   intro wx hSx
   go_simp
   try with_reducible rfl
  try simp only [actS]
  replace hHeld : Two w _ _ := hHeld
  obtain ⟨X, hX, hx3⟩ := hHeld.2.2
  refine wpAnyH_ready (rs := [13]) (by kernel_rfl) (by simp) ?_
  refine AllReadyH.cons (o := ⟨none, _, _, _, _, _⟩) rfl (fun K hK => ?_) AllReadyH.nil
  rw [if_pos (by rfl)]
  refine wp_store_row 43 (.tmp 2) (.tmp 8) rfl (w.heap.size + 1) #[.int .i64 0, .string ⟨#[]⟩, .string u, .string ⟨#[]⟩, .string ⟨#[]⟩, .bool false, .bool false, .int .i64 0, .int .i64 z, .int .i64 0, .int .i64 0] rfl rfl 43 X hx3 edu_info (hX.trans rfl) (one11 _ _ _ _ _ _ _ _ _ _ _) ?_
  have hset := setRow_heap _ _ _ #[.int .i64 0, .string ⟨#[]⟩, .string u, .string ⟨#[]⟩, .string ⟨#[]⟩, .bool false, .bool false, .int .i64 0, .int .i64 z, .int .i64 0, .int .i64 0] _ _ hx3
  have hH := hHeld.set (new := #[.int .i64 0, .string ⟨#[]⟩, .string u, .string ⟨#[]⟩, .string ⟨#[]⟩, .bool false, .bool false, .int .i64 0, .int .i64 z, .int .i64 0, .int .i64 0]) rfl
  refine hK.out _ _ hH (fun hHeld => ?_)
  clear hK K hH hx3 hX X
  try simp only [actS]
  generalize hW2 : World.setRow _ _ _ = W2 at hset hHeld ⊢
  clear hW2
  refine wpAnyH_take (i := 14) (oi := ⟨some 3, _, _, _, _, _⟩) (v := ?vy14) rfl (by kernel_rfl) (by kernel_rfl) (by kernel_rfl) (fun _ _ _ h => h) (Or.inl ⟨by rfl, ?yy14⟩) hHeld ?ry14
  case yy14 =>
   intro wx hSx
   go_simp
   try with_reducible rfl
  try simp only [actS]
  refine wpAnyH_done (by kernel_rfl) ?_ _
  have HB := Lib.hid hHeld.1
  have d := cells11 hset
  obtain ⟨d0, d1, d2, d3, d4, d5, d6, d7, d8, d9, d10⟩ := d
  clear hHeld hset
  go_wp2_with fail
  refine bodyPost_ret (v := .tuple #[.agg #[.int .i64 0, .string ⟨#[]⟩, .string u, .string ⟨#[]⟩, .string ⟨#[]⟩, .bool false, .bool false, .int .i64 0, .int .i64 z, .int .i64 0, .int .i64 0], .bool (decide (0 ≤ z ∧ z ≤ 2))]) ?_ rfl ⟨?_, HB.out⟩
  ·simp [results, Tryz.results98, go_sem, d0, d1, d2, d3, d4, d5, d6, d7, d8, d9, d10]
  ·simp [h1]
end Go.Proofs.YtnnapkakbdpkaaaGreat
namespace Go.Proofs.YtnnapkakbdpkaaaGreat
open Go.RowKit
set_option maxRecDepth 20000
theorem Three.setS {w w' : World} {box : Array Value} {r u v t : ByteArray} {p o : Bool} {k s0 z c m : Int} (h : Three w box #[.int .i64 k, .string r, .string u, .string v, .string t, .bool p, .bool o, .int .i64 s0, .int .i64 z, .int .i64 c, .int .i64 m] w') (s : Int) : Three w box #[.int .i64 k, .string r, .string u, .string v, .string t, .bool p, .bool o, .int .i64 s, .int .i64 z, .int .i64 c, .int .i64 m] (w'.setCell ⟨w.heap.size + 1 + 1, 7, none⟩ (.int .i64 s)) := by
 obtain ⟨h1, h2, ⟨X, hX, h3⟩, h4⟩ := h
 have e0 := Below.heap_setCell w' ⟨w.heap.size + 1 + 1, 7, none⟩ (.int .i64 s) w.heap.size (by simp; omega)
 have e1 := Below.heap_setCell w' ⟨w.heap.size + 1 + 1, 7, none⟩ (.int .i64 s) (w.heap.size + 1) (by simp)
 exact ⟨h1.setCell (by simp; omega) _, e0.trans h2, ⟨X, hX, e1.trans h3⟩, heap_set h4 7 _⟩
set_option maxHeartbeats 3200000 in
theorem asks2_any (k : Int) (r u v t : ByteArray) (p o : Bool) (s z c m : Int) (w : World) (hr : r.size ≤ maxLen) (hu : u.size ≤ maxLen) (hv : v.size ≤ maxLen) (ht : t.size ≤ maxLen) :
  Calls Tryz.prog 97 #[.agg #[.int .i64 k, .string r, .string u, .string v, .string t, .bool p, .bool o, .int .i64 s, .int .i64 z, .int .i64 c, .int .i64 m]] w fun e w' => e = .returned (.tuple #[.agg #[.int .i64 0, .string r, .string u, .string ⟨#[]⟩, .string ⟨#[]⟩, .bool false, .bool o, .int .i64 (if o then s else 0), .int .i64 0, .int .i64 0, .int .i64 0], .bool (namedB 33 r && namedB 64 u && (!o || decide (1 ≤ s ∧ s ≤ 60)))]) ∧ Below w.heap.size w w' := by
 have hd : namedB 33 r = false ∨ (namedB 33 r = true ∧ namedB 64 u = false) ∨ (namedB 33 r = true ∧ namedB 64 u = true) := by cases namedB 33 r <;> cases namedB 64 u <;> simp
 rcases hd with h1 | ⟨h1, h2⟩ | ⟨h1, h2⟩
 ·cases o
  ·go_enter Tryz.func97, Tryz.ntmps97
   go_wp2_with fail
   generalize hW : (((w.alloc (.cells #[.int .i64 k, .string r, .string u, .string v, .string t, .bool p, .bool false, .int .i64 s, .int .i64 z, .int .i64 c, .int .i64 m] 43)).alloc (.cells #[.int .i64 0, .string ⟨#[]⟩, .string ⟨#[]⟩, .string ⟨#[]⟩, .string ⟨#[]⟩, .bool false, .bool false, .int .i64 0, .int .i64 0, .int .i64 0, .int .i64 0] 43)).alloc (.cells #[.int .i64 0, .string r, .string u, .string ⟨#[]⟩, .string ⟨#[]⟩, .bool false, .bool false, .int .i64 0, .int .i64 0, .int .i64 0, .int .i64 0] 43)) = W
   have hT := three_new hW rfl
   clear hW
   refine (room_any r _ hr).mono ?_
   rintro e w1 ⟨rfl, hb1⟩
   rw [h1]
   replace hT := hT.later hb1
   clear hb1
   obtain ⟨d0, d1, d2, d3, d4, d5, d6, d7, d8, d9, d10⟩ := cells11 hT.2.1
   obtain ⟨f0, f1, f2, f3, f4, f5, f6, f7, f8, f9, f10⟩ := cells11 hT.2.2.2
   have HT := Lib.hid hT
   clear hT
   obtain ⟨X, hX, hx3⟩ := HT.out.2.2.1
   have Hset := Lib.hid (setRow_heap _ _ _ #[.int .i64 0, .string r, .string u, .string ⟨#[]⟩, .string ⟨#[]⟩, .bool false, .bool false, .int .i64 0, .int .i64 0, .int .i64 0, .int .i64 0] _ _ hx3)
   have HB := Lib.hid (HT.out.set (new := #[.int .i64 0, .string r, .string u, .string ⟨#[]⟩, .string ⟨#[]⟩, .bool false, .bool false, .int .i64 0, .int .i64 0, .int .i64 0, .int .i64 0]) rfl).1
   replace hx3 := Lib.hid hx3
   go_wp2_with (refine wpList_store_row rfl 43 (.tmp 2) (.tmp 32) rfl (w.heap.size + 1) #[.int .i64 0, .string r, .string u, .string ⟨#[]⟩, .string ⟨#[]⟩, .bool false, .bool false, .int .i64 0, .int .i64 0, .int .i64 0, .int .i64 0] rfl rfl 43 X hx3.out edu_info (hX.trans rfl) (one11 _ _ _ _ _ _ _ _ _ _ _) ?_)
   generalize hW2 : World.setRow _ _ _ = W2 at Hset HB ⊢
   clear hW2 f0 f1 f2 f3 f4 f5 f6 f7 f8 f9 f10
   obtain ⟨g0, g1, g2, g3, g4, g5, g6, g7, g8, g9, g10⟩ := cells11 Hset.out
   go_wp2_with fail
   refine bodyPost_ret (v := .tuple #[.agg #[.int .i64 0, .string r, .string u, .string ⟨#[]⟩, .string ⟨#[]⟩, .bool false, .bool false, .int .i64 0, .int .i64 0, .int .i64 0, .int .i64 0], .bool false]) ?_ rfl ⟨?_, HB.out⟩
   ·simp [results, Tryz.results97, go_sem, g0, g1, g2, g3, g4, g5, g6, g7, g8, g9, g10]
   ·simp [h1]
  ·go_enter Tryz.func97, Tryz.ntmps97
   go_wp2_with fail
   generalize hW : (((w.alloc (.cells #[.int .i64 k, .string r, .string u, .string v, .string t, .bool p, .bool true, .int .i64 s, .int .i64 z, .int .i64 c, .int .i64 m] 43)).alloc (.cells #[.int .i64 0, .string ⟨#[]⟩, .string ⟨#[]⟩, .string ⟨#[]⟩, .string ⟨#[]⟩, .bool false, .bool false, .int .i64 0, .int .i64 0, .int .i64 0, .int .i64 0] 43)).alloc (.cells #[.int .i64 0, .string r, .string u, .string ⟨#[]⟩, .string ⟨#[]⟩, .bool false, .bool true, .int .i64 0, .int .i64 0, .int .i64 0, .int .i64 0] 43)) = W
   have hT := three_new hW rfl
   clear hW
   refine (room_any r _ hr).mono ?_
   rintro e w1 ⟨rfl, hb1⟩
   rw [h1]
   replace hT := hT.later hb1
   clear hb1
   obtain ⟨d0, d1, d2, d3, d4, d5, d6, d7, d8, d9, d10⟩ := cells11 hT.2.1
   obtain ⟨f0, f1, f2, f3, f4, f5, f6, f7, f8, f9, f10⟩ := cells11 hT.2.2.2
   have HT := Lib.hid hT
   clear hT
   have hfr := free_at HT.out.2.2.2 7
   go_upto_region 6 with (fail)
   have hG := HT.out.setS s
   generalize hW7 : w1.setCell ⟨w.heap.size + 1 + 1, 7, none⟩ (.int .i64 s) = w7 at hG ⊢
   clear hW7 hfr
   clear d0 d1 d2 d3 d4 d5 d6 d7 d8 d9 d10 f0 f1 f2 f3 f4 f5 f6 f7 f8 f9 f10
   replace HT := Lib.hid hG
   clear hG
   obtain ⟨f0, f1, f2, f3, f4, f5, f6, f7, f8, f9, f10⟩ := cells11 HT.out.2.2.2
   obtain ⟨X, hX, hx3⟩ := HT.out.2.2.1
   have Hset := Lib.hid (setRow_heap _ _ _ #[.int .i64 0, .string r, .string u, .string ⟨#[]⟩, .string ⟨#[]⟩, .bool false, .bool true, .int .i64 s, .int .i64 0, .int .i64 0, .int .i64 0] _ _ hx3)
   have HB := Lib.hid (HT.out.set (new := #[.int .i64 0, .string r, .string u, .string ⟨#[]⟩, .string ⟨#[]⟩, .bool false, .bool true, .int .i64 s, .int .i64 0, .int .i64 0, .int .i64 0]) rfl).1
   replace hx3 := Lib.hid hx3
   go_wp2_with (refine wpList_store_row rfl 43 (.tmp 2) (.tmp 32) rfl (w.heap.size + 1) #[.int .i64 0, .string r, .string u, .string ⟨#[]⟩, .string ⟨#[]⟩, .bool false, .bool true, .int .i64 s, .int .i64 0, .int .i64 0, .int .i64 0] rfl rfl 43 X hx3.out edu_info (hX.trans rfl) (one11 _ _ _ _ _ _ _ _ _ _ _) ?_)
   generalize hW2 : World.setRow _ _ _ = W2 at Hset HB ⊢
   clear hW2 f0 f1 f2 f3 f4 f5 f6 f7 f8 f9 f10
   obtain ⟨g0, g1, g2, g3, g4, g5, g6, g7, g8, g9, g10⟩ := cells11 Hset.out
   go_wp2_with fail
   refine bodyPost_ret (v := .tuple #[.agg #[.int .i64 0, .string r, .string u, .string ⟨#[]⟩, .string ⟨#[]⟩, .bool false, .bool true, .int .i64 s, .int .i64 0, .int .i64 0, .int .i64 0], .bool false]) ?_ rfl ⟨?_, HB.out⟩
   ·simp [results, Tryz.results97, go_sem, g0, g1, g2, g3, g4, g5, g6, g7, g8, g9, g10]
   ·simp [h1]
 ·cases o
  ·go_enter Tryz.func97, Tryz.ntmps97
   go_wp2_with fail
   generalize hW : (((w.alloc (.cells #[.int .i64 k, .string r, .string u, .string v, .string t, .bool p, .bool false, .int .i64 s, .int .i64 z, .int .i64 c, .int .i64 m] 43)).alloc (.cells #[.int .i64 0, .string ⟨#[]⟩, .string ⟨#[]⟩, .string ⟨#[]⟩, .string ⟨#[]⟩, .bool false, .bool false, .int .i64 0, .int .i64 0, .int .i64 0, .int .i64 0] 43)).alloc (.cells #[.int .i64 0, .string r, .string u, .string ⟨#[]⟩, .string ⟨#[]⟩, .bool false, .bool false, .int .i64 0, .int .i64 0, .int .i64 0, .int .i64 0] 43)) = W
   have hT := three_new hW rfl
   clear hW
   refine (room_any r _ hr).mono ?_
   rintro e w1 ⟨rfl, hb1⟩
   rw [h1]
   replace hT := hT.later hb1
   clear hb1
   obtain ⟨d0, d1, d2, d3, d4, d5, d6, d7, d8, d9, d10⟩ := cells11 hT.2.1
   obtain ⟨f0, f1, f2, f3, f4, f5, f6, f7, f8, f9, f10⟩ := cells11 hT.2.2.2
   have HT := Lib.hid hT
   clear hT
   go_wp2_with fail
   clear d0 d1 d2 d3 d4 d5 d6 d7 d8 d9 d10 f0 f1 f2 f3 f4 f5 f6 f7 f8 f9 f10
   refine (user_any u _ hu).mono ?_
   rintro e w2 ⟨rfl, hb2⟩
   rw [h2]
   replace HT := Lib.hid (HT.out.later hb2)
   clear hb2
   obtain ⟨d0, d1, d2, d3, d4, d5, d6, d7, d8, d9, d10⟩ := cells11 HT.out.2.1
   obtain ⟨f0, f1, f2, f3, f4, f5, f6, f7, f8, f9, f10⟩ := cells11 HT.out.2.2.2
   obtain ⟨X, hX, hx3⟩ := HT.out.2.2.1
   have Hset := Lib.hid (setRow_heap _ _ _ #[.int .i64 0, .string r, .string u, .string ⟨#[]⟩, .string ⟨#[]⟩, .bool false, .bool false, .int .i64 0, .int .i64 0, .int .i64 0, .int .i64 0] _ _ hx3)
   have HB := Lib.hid (HT.out.set (new := #[.int .i64 0, .string r, .string u, .string ⟨#[]⟩, .string ⟨#[]⟩, .bool false, .bool false, .int .i64 0, .int .i64 0, .int .i64 0, .int .i64 0]) rfl).1
   replace hx3 := Lib.hid hx3
   go_wp2_with (refine wpList_store_row rfl 43 (.tmp 2) (.tmp 32) rfl (w.heap.size + 1) #[.int .i64 0, .string r, .string u, .string ⟨#[]⟩, .string ⟨#[]⟩, .bool false, .bool false, .int .i64 0, .int .i64 0, .int .i64 0, .int .i64 0] rfl rfl 43 X hx3.out edu_info (hX.trans rfl) (one11 _ _ _ _ _ _ _ _ _ _ _) ?_)
   generalize hW2 : World.setRow _ _ _ = W2 at Hset HB ⊢
   clear hW2 f0 f1 f2 f3 f4 f5 f6 f7 f8 f9 f10
   obtain ⟨g0, g1, g2, g3, g4, g5, g6, g7, g8, g9, g10⟩ := cells11 Hset.out
   go_wp2_with fail
   refine bodyPost_ret (v := .tuple #[.agg #[.int .i64 0, .string r, .string u, .string ⟨#[]⟩, .string ⟨#[]⟩, .bool false, .bool false, .int .i64 0, .int .i64 0, .int .i64 0, .int .i64 0], .bool false]) ?_ rfl ⟨?_, HB.out⟩
   ·simp [results, Tryz.results97, go_sem, g0, g1, g2, g3, g4, g5, g6, g7, g8, g9, g10]
   ·simp [h1, h2]
  ·go_enter Tryz.func97, Tryz.ntmps97
   go_wp2_with fail
   generalize hW : (((w.alloc (.cells #[.int .i64 k, .string r, .string u, .string v, .string t, .bool p, .bool true, .int .i64 s, .int .i64 z, .int .i64 c, .int .i64 m] 43)).alloc (.cells #[.int .i64 0, .string ⟨#[]⟩, .string ⟨#[]⟩, .string ⟨#[]⟩, .string ⟨#[]⟩, .bool false, .bool false, .int .i64 0, .int .i64 0, .int .i64 0, .int .i64 0] 43)).alloc (.cells #[.int .i64 0, .string r, .string u, .string ⟨#[]⟩, .string ⟨#[]⟩, .bool false, .bool true, .int .i64 0, .int .i64 0, .int .i64 0, .int .i64 0] 43)) = W
   have hT := three_new hW rfl
   clear hW
   refine (room_any r _ hr).mono ?_
   rintro e w1 ⟨rfl, hb1⟩
   rw [h1]
   replace hT := hT.later hb1
   clear hb1
   obtain ⟨d0, d1, d2, d3, d4, d5, d6, d7, d8, d9, d10⟩ := cells11 hT.2.1
   obtain ⟨f0, f1, f2, f3, f4, f5, f6, f7, f8, f9, f10⟩ := cells11 hT.2.2.2
   have HT := Lib.hid hT
   clear hT
   go_wp2_with fail
   clear d0 d1 d2 d3 d4 d5 d6 d7 d8 d9 d10 f0 f1 f2 f3 f4 f5 f6 f7 f8 f9 f10
   refine (user_any u _ hu).mono ?_
   rintro e w2 ⟨rfl, hb2⟩
   rw [h2]
   replace HT := Lib.hid (HT.out.later hb2)
   clear hb2
   obtain ⟨d0, d1, d2, d3, d4, d5, d6, d7, d8, d9, d10⟩ := cells11 HT.out.2.1
   obtain ⟨f0, f1, f2, f3, f4, f5, f6, f7, f8, f9, f10⟩ := cells11 HT.out.2.2.2
   have hfr := free_at HT.out.2.2.2 7
   go_upto_region 6 with (fail)
   have hG := HT.out.setS s
   generalize hW7 : w2.setCell ⟨w.heap.size + 1 + 1, 7, none⟩ (.int .i64 s) = w7 at hG ⊢
   clear hW7 hfr
   clear d0 d1 d2 d3 d4 d5 d6 d7 d8 d9 d10 f0 f1 f2 f3 f4 f5 f6 f7 f8 f9 f10
   replace HT := Lib.hid hG
   clear hG
   obtain ⟨f0, f1, f2, f3, f4, f5, f6, f7, f8, f9, f10⟩ := cells11 HT.out.2.2.2
   obtain ⟨X, hX, hx3⟩ := HT.out.2.2.1
   have Hset := Lib.hid (setRow_heap _ _ _ #[.int .i64 0, .string r, .string u, .string ⟨#[]⟩, .string ⟨#[]⟩, .bool false, .bool true, .int .i64 s, .int .i64 0, .int .i64 0, .int .i64 0] _ _ hx3)
   have HB := Lib.hid (HT.out.set (new := #[.int .i64 0, .string r, .string u, .string ⟨#[]⟩, .string ⟨#[]⟩, .bool false, .bool true, .int .i64 s, .int .i64 0, .int .i64 0, .int .i64 0]) rfl).1
   replace hx3 := Lib.hid hx3
   go_wp2_with (refine wpList_store_row rfl 43 (.tmp 2) (.tmp 32) rfl (w.heap.size + 1) #[.int .i64 0, .string r, .string u, .string ⟨#[]⟩, .string ⟨#[]⟩, .bool false, .bool true, .int .i64 s, .int .i64 0, .int .i64 0, .int .i64 0] rfl rfl 43 X hx3.out edu_info (hX.trans rfl) (one11 _ _ _ _ _ _ _ _ _ _ _) ?_)
   generalize hW2 : World.setRow _ _ _ = W2 at Hset HB ⊢
   clear hW2 f0 f1 f2 f3 f4 f5 f6 f7 f8 f9 f10
   obtain ⟨g0, g1, g2, g3, g4, g5, g6, g7, g8, g9, g10⟩ := cells11 Hset.out
   go_wp2_with fail
   refine bodyPost_ret (v := .tuple #[.agg #[.int .i64 0, .string r, .string u, .string ⟨#[]⟩, .string ⟨#[]⟩, .bool false, .bool true, .int .i64 s, .int .i64 0, .int .i64 0, .int .i64 0], .bool false]) ?_ rfl ⟨?_, HB.out⟩
   ·simp [results, Tryz.results97, go_sem, g0, g1, g2, g3, g4, g5, g6, g7, g8, g9, g10]
   ·simp [h1, h2]
 ·cases o
  ·go_enter Tryz.func97, Tryz.ntmps97
   go_wp2_with fail
   generalize hW : (((w.alloc (.cells #[.int .i64 k, .string r, .string u, .string v, .string t, .bool p, .bool false, .int .i64 s, .int .i64 z, .int .i64 c, .int .i64 m] 43)).alloc (.cells #[.int .i64 0, .string ⟨#[]⟩, .string ⟨#[]⟩, .string ⟨#[]⟩, .string ⟨#[]⟩, .bool false, .bool false, .int .i64 0, .int .i64 0, .int .i64 0, .int .i64 0] 43)).alloc (.cells #[.int .i64 0, .string r, .string u, .string ⟨#[]⟩, .string ⟨#[]⟩, .bool false, .bool false, .int .i64 0, .int .i64 0, .int .i64 0, .int .i64 0] 43)) = W
   have hT := three_new hW rfl
   clear hW
   refine (room_any r _ hr).mono ?_
   rintro e w1 ⟨rfl, hb1⟩
   rw [h1]
   replace hT := hT.later hb1
   clear hb1
   obtain ⟨d0, d1, d2, d3, d4, d5, d6, d7, d8, d9, d10⟩ := cells11 hT.2.1
   obtain ⟨f0, f1, f2, f3, f4, f5, f6, f7, f8, f9, f10⟩ := cells11 hT.2.2.2
   have HT := Lib.hid hT
   clear hT
   go_wp2_with fail
   clear d0 d1 d2 d3 d4 d5 d6 d7 d8 d9 d10 f0 f1 f2 f3 f4 f5 f6 f7 f8 f9 f10
   refine (user_any u _ hu).mono ?_
   rintro e w2 ⟨rfl, hb2⟩
   rw [h2]
   replace HT := Lib.hid (HT.out.later hb2)
   clear hb2
   obtain ⟨d0, d1, d2, d3, d4, d5, d6, d7, d8, d9, d10⟩ := cells11 HT.out.2.1
   obtain ⟨f0, f1, f2, f3, f4, f5, f6, f7, f8, f9, f10⟩ := cells11 HT.out.2.2.2
   obtain ⟨X, hX, hx3⟩ := HT.out.2.2.1
   have Hset := Lib.hid (setRow_heap _ _ _ #[.int .i64 0, .string r, .string u, .string ⟨#[]⟩, .string ⟨#[]⟩, .bool false, .bool false, .int .i64 0, .int .i64 0, .int .i64 0, .int .i64 0] _ _ hx3)
   have HB := Lib.hid (HT.out.set (new := #[.int .i64 0, .string r, .string u, .string ⟨#[]⟩, .string ⟨#[]⟩, .bool false, .bool false, .int .i64 0, .int .i64 0, .int .i64 0, .int .i64 0]) rfl).1
   replace hx3 := Lib.hid hx3
   go_wp2_with (refine wpList_store_row rfl 43 (.tmp 2) (.tmp 32) rfl (w.heap.size + 1) #[.int .i64 0, .string r, .string u, .string ⟨#[]⟩, .string ⟨#[]⟩, .bool false, .bool false, .int .i64 0, .int .i64 0, .int .i64 0, .int .i64 0] rfl rfl 43 X hx3.out edu_info (hX.trans rfl) (one11 _ _ _ _ _ _ _ _ _ _ _) ?_)
   generalize hW2 : World.setRow _ _ _ = W2 at Hset HB ⊢
   clear hW2 f0 f1 f2 f3 f4 f5 f6 f7 f8 f9 f10
   obtain ⟨g0, g1, g2, g3, g4, g5, g6, g7, g8, g9, g10⟩ := cells11 Hset.out
   go_wp2_with fail
   refine bodyPost_ret (v := .tuple #[.agg #[.int .i64 0, .string r, .string u, .string ⟨#[]⟩, .string ⟨#[]⟩, .bool false, .bool false, .int .i64 0, .int .i64 0, .int .i64 0, .int .i64 0], .bool true]) ?_ rfl ⟨?_, HB.out⟩
   ·simp [results, Tryz.results97, go_sem, g0, g1, g2, g3, g4, g5, g6, g7, g8, g9, g10]
   ·simp [h1, h2]
  ·go_enter Tryz.func97, Tryz.ntmps97
   go_wp2_with fail
   generalize hW : (((w.alloc (.cells #[.int .i64 k, .string r, .string u, .string v, .string t, .bool p, .bool true, .int .i64 s, .int .i64 z, .int .i64 c, .int .i64 m] 43)).alloc (.cells #[.int .i64 0, .string ⟨#[]⟩, .string ⟨#[]⟩, .string ⟨#[]⟩, .string ⟨#[]⟩, .bool false, .bool false, .int .i64 0, .int .i64 0, .int .i64 0, .int .i64 0] 43)).alloc (.cells #[.int .i64 0, .string r, .string u, .string ⟨#[]⟩, .string ⟨#[]⟩, .bool false, .bool true, .int .i64 0, .int .i64 0, .int .i64 0, .int .i64 0] 43)) = W
   have hT := three_new hW rfl
   clear hW
   refine (room_any r _ hr).mono ?_
   rintro e w1 ⟨rfl, hb1⟩
   rw [h1]
   replace hT := hT.later hb1
   clear hb1
   obtain ⟨d0, d1, d2, d3, d4, d5, d6, d7, d8, d9, d10⟩ := cells11 hT.2.1
   obtain ⟨f0, f1, f2, f3, f4, f5, f6, f7, f8, f9, f10⟩ := cells11 hT.2.2.2
   have HT := Lib.hid hT
   clear hT
   go_wp2_with fail
   clear d0 d1 d2 d3 d4 d5 d6 d7 d8 d9 d10 f0 f1 f2 f3 f4 f5 f6 f7 f8 f9 f10
   refine (user_any u _ hu).mono ?_
   rintro e w2 ⟨rfl, hb2⟩
   rw [h2]
   replace HT := Lib.hid (HT.out.later hb2)
   clear hb2
   obtain ⟨d0, d1, d2, d3, d4, d5, d6, d7, d8, d9, d10⟩ := cells11 HT.out.2.1
   obtain ⟨f0, f1, f2, f3, f4, f5, f6, f7, f8, f9, f10⟩ := cells11 HT.out.2.2.2
   have hfr := free_at HT.out.2.2.2 7
   go_wp2_with fail
   refine (within_any s 1 60 _).mono ?_
   rintro e wz ⟨rfl, rfl⟩
   go_upto_region 6 with (fail)
   have hG := HT.out.setS s
   generalize hW7 : w2.setCell ⟨w.heap.size + 1 + 1, 7, none⟩ (.int .i64 s) = w7 at hG ⊢
   clear hW7 hfr
   clear d0 d1 d2 d3 d4 d5 d6 d7 d8 d9 d10 f0 f1 f2 f3 f4 f5 f6 f7 f8 f9 f10
   replace HT := Lib.hid hG
   clear hG
   obtain ⟨f0, f1, f2, f3, f4, f5, f6, f7, f8, f9, f10⟩ := cells11 HT.out.2.2.2
   obtain ⟨X, hX, hx3⟩ := HT.out.2.2.1
   have Hset := Lib.hid (setRow_heap _ _ _ #[.int .i64 0, .string r, .string u, .string ⟨#[]⟩, .string ⟨#[]⟩, .bool false, .bool true, .int .i64 s, .int .i64 0, .int .i64 0, .int .i64 0] _ _ hx3)
   have HB := Lib.hid (HT.out.set (new := #[.int .i64 0, .string r, .string u, .string ⟨#[]⟩, .string ⟨#[]⟩, .bool false, .bool true, .int .i64 s, .int .i64 0, .int .i64 0, .int .i64 0]) rfl).1
   replace hx3 := Lib.hid hx3
   go_wp2_with (refine wpList_store_row rfl 43 (.tmp 2) (.tmp 32) rfl (w.heap.size + 1) #[.int .i64 0, .string r, .string u, .string ⟨#[]⟩, .string ⟨#[]⟩, .bool false, .bool true, .int .i64 s, .int .i64 0, .int .i64 0, .int .i64 0] rfl rfl 43 X hx3.out edu_info (hX.trans rfl) (one11 _ _ _ _ _ _ _ _ _ _ _) ?_)
   generalize hW2 : World.setRow _ _ _ = W2 at Hset HB ⊢
   clear hW2 f0 f1 f2 f3 f4 f5 f6 f7 f8 f9 f10
   obtain ⟨g0, g1, g2, g3, g4, g5, g6, g7, g8, g9, g10⟩ := cells11 Hset.out
   go_wp2_with fail
   refine bodyPost_ret (v := .tuple #[.agg #[.int .i64 0, .string r, .string u, .string ⟨#[]⟩, .string ⟨#[]⟩, .bool false, .bool true, .int .i64 s, .int .i64 0, .int .i64 0, .int .i64 0], .bool (decide (1 ≤ s ∧ s ≤ 60))]) ?_ rfl ⟨?_, HB.out⟩
   ·simp [results, Tryz.results97, go_sem, g0, g1, g2, g3, g4, g5, g6, g7, g8, g9, g10]
   ·simp [h1, h2]
end Go.Proofs.YtnnapkakbdpkaaaGreat
