/-
  What EDUs on typing and on presence ask, and which closure tells what a kind asks.
-/
import Derived.Test.YtahgkhcmchbpbaaAsks
namespace Go.Proofs.Ytahgkhcmchbpbaa
open Go.RowKit
set_option linter.unusedVariables false
set_option linter.unusedSimpArgs false
set_option maxRecDepth 4000

/-- Two structs behind what was there: one is handed in, one is answered. -/
def Two (w : World) (box : Array Value) (w' : World) : Prop := Below w.heap.size w w' ∧ w'.heap[w.heap.size]? = some (.cells box 23 (0, 0)) ∧ (∃ X : Array Value, X.size = 11 ∧ w'.heap[w.heap.size + 1]? = some (.cells X 23 (0, 0)))
theorem Two.later {w w' w'' : World} {box : Array Value} (h : Two w box w') (hb : Below w'.heap.size w' w'') : Two w box w'' := by
  obtain ⟨h1, h2, ⟨X, hX, h3⟩⟩ := h
  exact ⟨Go.Proofs.Ytahgkhcmchbpbaa.later h1 hb, (hb.block _ (heap_lt h2)).trans h2, ⟨X, hX, (hb.block _ (heap_lt h3)).trans h3⟩⟩
theorem Two.drew {w w' : World} {box : Array Value} (h : Two w box w') : Two w box w'.drew := ⟨h.1.drew, h.2⟩
theorem Two.set {w w' : World} {box new : Array Value} (h : Two w box w') (hn : new.size = 11) : Two w box (w'.setRow (w.heap.size + 1) new) := by
  obtain ⟨h1, h2, ⟨X, hX, h3⟩⟩ := h
  exact ⟨below_setRow h1 (by omega) _, by rw [setRow_other _ _ _ _ (by omega)]; exact h2, ⟨new, hn, setRow_heap _ _ _ _ _ _ h3⟩⟩
theorem two_new {w W : World} {a b : Array Value} (h : (w.alloc (.cells a 23)).alloc (.cells b 23) = W) (hb : b.size = 11) : Two w a W := by
  obtain ⟨e0, e1, h1, _⟩ := at_two _ _ h
  exact ⟨h1, e0, ⟨b, hb, e1⟩⟩

set_option maxHeartbeats 3200000 in
theorem asks3_any (k : Int) (r u v t : ByteArray) (p o : Bool) (s z c m : Int) (w : World) (hr : r.size ≤ maxLen) (hu : u.size ≤ maxLen) (hv : v.size ≤ maxLen) (ht : t.size ≤ maxLen) :
    Calls Try.prog 64 #[.agg #[.int .i64 k, .string r, .string u, .string v, .string t, .bool p, .bool o, .int .i64 s, .int .i64 z, .int .i64 c, .int .i64 m]] w fun e w' => e = .returned (.tuple #[.agg #[.int .i64 0, .string ⟨#[]⟩, .string u, .string ⟨#[]⟩, .string ⟨#[]⟩, .bool false, .bool false, .int .i64 0, .int .i64 z, .int .i64 0, .int .i64 0], .bool (namedB 64 u && decide (0 ≤ z ∧ z ≤ 2))]) ∧ Below w.heap.size w w' := by
  go_enter Try.func64, Try.ntmps64
  go_wp2_with fail
  generalize hW : ((w.alloc (.cells #[.int .i64 k, .string r, .string u, .string v, .string t, .bool p, .bool o, .int .i64 s, .int .i64 z, .int .i64 c, .int .i64 m] 23)).alloc (.cells #[.int .i64 0, .string ⟨#[]⟩, .string ⟨#[]⟩, .string ⟨#[]⟩, .string ⟨#[]⟩, .bool false, .bool false, .int .i64 0, .int .i64 0, .int .i64 0, .int .i64 0] 23)) = W
  have hT := (two_new hW rfl).drew
  clear hW
  cases h1 : namedB 64 u
  · refine wp_region_held_drew (S := fun w' => Two w #[.int .i64 k, .string r, .string u, .string v, .string t, .bool p, .bool o, .int .i64 s, .int .i64 z, .int .i64 c, .int .i64 m] w') (by kernel_rfl) hT (fun hHeld => ?_)
    clear hT
    refine wpAnyH_take (i := 0) (oi := ⟨some 4, _, _, _, _, _⟩) (v := ?vn0) rfl (by kernel_rfl) (by kernel_rfl) (by kernel_rfl) (fun _ _ _ h => h) (Or.inl ⟨by rfl, ?yn0⟩) hHeld ?rn0
    case yn0 =>
      intro wx hSx
      go_simp
      try with_reducible rfl
    try simp only [Act.put, List.setIfInBounds_toArray, List.set_cons_zero, List.set_cons_succ]
    refine wpAnyH_take (i := 1) (oi := ⟨some 5, _, _, _, _, _⟩) (v := ?vn1) rfl (by kernel_rfl) (by kernel_rfl) (by kernel_rfl) (fun _ _ _ h => h) (Or.inl ⟨by rfl, ?yn1⟩) hHeld ?rn1
    case yn1 =>
      intro wx hSx
      have d := cells11 hSx.2.1
      obtain ⟨d0, d1, d2, d3, d4, d5, d6, d7, d8, d9, d10⟩ := d
      go_simp
      try with_reducible rfl
    try simp only [Act.put, List.setIfInBounds_toArray, List.set_cons_zero, List.set_cons_succ]
    refine wpAnyH_take (i := 2) (oi := ⟨some 6, _, _, _, _, _⟩) (v := ?vn2) rfl (by kernel_rfl) (by kernel_rfl) (by kernel_rfl) (fun _ _ _ h => h) (Or.inl ⟨by rfl, ?yn2⟩) hHeld ?rn2
    case yn2 =>
      intro wx hSx
      go_simp
      try with_reducible rfl
    try simp only [Act.put, List.setIfInBounds_toArray, List.set_cons_zero, List.set_cons_succ]
    refine wpAnyH_take (i := 3) (oi := ⟨some 7, _, _, _, _, _⟩) (v := ?vn3) rfl (by kernel_rfl) (by kernel_rfl) (by kernel_rfl) (fun _ _ _ h => h) (Or.inl ⟨by rfl, ?yn3⟩) hHeld ?rn3
    case yn3 =>
      intro wx hSx
      have d := cells11 hSx.2.1
      obtain ⟨d0, d1, d2, d3, d4, d5, d6, d7, d8, d9, d10⟩ := d
      go_simp
      try with_reducible rfl
    try simp only [Act.put, List.setIfInBounds_toArray, List.set_cons_zero, List.set_cons_succ]
    refine wpAnyH_take (i := 4) (oi := ⟨some 8, _, _, _, _, _⟩) (v := ?vn4) rfl (by kernel_rfl) (by kernel_rfl) (by kernel_rfl) (fun _ _ _ h => h) (Or.inl ⟨by rfl, ?yn4⟩) hHeld ?rn4
    case yn4 =>
      intro wx hSx
      go_simp
      try with_reducible rfl
    try simp only [Act.put, List.setIfInBounds_toArray, List.set_cons_zero, List.set_cons_succ]
    refine wpAnyH_take (i := 5) (oi := ⟨some 9, _, _, _, _, _⟩) (v := ?vn5) rfl (by kernel_rfl) (by kernel_rfl) (by kernel_rfl) (fun _ _ _ h => h) (Or.inl ⟨by rfl, ?yn5⟩) hHeld ?rn5
    case yn5 =>
      intro wx hSx
      go_simp
      try with_reducible rfl
    try simp only [Act.put, List.setIfInBounds_toArray, List.set_cons_zero, List.set_cons_succ]
    refine wpAnyH_take (i := 6) (oi := ⟨some 10, _, _, _, _, _⟩) (v := ?vn6) rfl (by kernel_rfl) (by kernel_rfl) (by kernel_rfl) (fun _ _ _ h => h) (Or.inl ⟨by rfl, ?yn6⟩) hHeld ?rn6
    case yn6 =>
      intro wx hSx
      have d := cells11 hSx.2.1
      obtain ⟨d0, d1, d2, d3, d4, d5, d6, d7, d8, d9, d10⟩ := d
      go_simp
      try with_reducible rfl
    try simp only [Act.put, List.setIfInBounds_toArray, List.set_cons_zero, List.set_cons_succ]
    refine wpAnyH_ready (rs := [7]) (by kernel_rfl) (by simp) ?_
    refine AllReadyH.cons (o := ⟨some 11, _, _, _, _, _⟩) rfl (fun K hK => ?_) AllReadyH.nil
    go_simp
    refine (user_any u _ hu).mono ?_
    rintro e wnn7 ⟨rfl, hbn⟩
    refine hK.out _ _ (hHeld.later hbn) (fun hH => ?_)
    replace hHeld := hH
    clear hK K hbn hH
    try simp only [Act.put, List.setIfInBounds_toArray, List.set_cons_zero, List.set_cons_succ]
    rw [h1]
    refine wpAnyH_take (i := 8) (oi := ⟨some 12, _, _, _, _, _⟩) (v := ?vn8) rfl (by kernel_rfl) (by kernel_rfl) (by kernel_rfl) (fun _ _ _ h => h) (Or.inl ⟨by rfl, ?yn8⟩) hHeld ?rn8
    case yn8 =>
      intro wx hSx
      go_simp
      try with_reducible rfl
    try simp only [Act.put, List.setIfInBounds_toArray, List.set_cons_zero, List.set_cons_succ]
    refine wpAnyH_take (i := 9) (oi := ⟨some 13, _, _, _, _, _⟩) (v := undef) rfl (by kernel_rfl) (by kernel_rfl) (by kernel_rfl) (fun _ _ _ h => h) (Or.inr ⟨by rfl, rfl⟩) hHeld ?rn9
    try simp only [Act.put, List.setIfInBounds_toArray, List.set_cons_zero, List.set_cons_succ]
    refine wpAnyH_take (i := 10) (oi := ⟨some 14, _, _, _, _, _⟩) (v := undef) rfl (by kernel_rfl) (by kernel_rfl) (by kernel_rfl) (fun _ _ _ h => h) (Or.inr ⟨by rfl, rfl⟩) hHeld ?rn10
    try simp only [Act.put, List.setIfInBounds_toArray, List.set_cons_zero, List.set_cons_succ]
    refine wpAnyH_take (i := 11) (oi := ⟨some 15, _, _, _, _, _⟩) (v := undef) rfl (by kernel_rfl) (by kernel_rfl) (by kernel_rfl) (fun _ _ _ h => h) (Or.inr ⟨by rfl, rfl⟩) hHeld ?rn11
    try simp only [Act.put, List.setIfInBounds_toArray, List.set_cons_zero, List.set_cons_succ]
    refine wpAnyH_take (i := 12) (oi := ⟨some 16, _, _, _, _, _⟩) (v := ?vn12) rfl (by kernel_rfl) (by kernel_rfl) (by kernel_rfl) (fun _ _ _ h => h) (Or.inl ⟨by rfl, ?yn12⟩) hHeld ?rn12
    case yn12 =>
      intro wx hSx
      go_simp
      try with_reducible rfl
    try simp only [Act.put, List.setIfInBounds_toArray, List.set_cons_zero, List.set_cons_succ]
    replace hHeld : Two w _ _ := hHeld
    obtain ⟨X, hX, hx3⟩ := hHeld.2.2
    refine wpAnyH_ready (rs := [13]) (by kernel_rfl) (by simp) ?_
    refine AllReadyH.cons (o := ⟨none, _, _, _, _, _⟩) rfl (fun K hK => ?_) AllReadyH.nil
    rw [if_pos (by rfl)]
    refine wp_store_row 23 (.tmp 2) (.tmp 8) rfl (w.heap.size + 1) #[.int .i64 0, .string ⟨#[]⟩, .string u, .string ⟨#[]⟩, .string ⟨#[]⟩, .bool false, .bool false, .int .i64 0, .int .i64 z, .int .i64 0, .int .i64 0] rfl rfl 23 X hx3 edu_info (hX.trans rfl) (one11 _ _ _ _ _ _ _ _ _ _ _) ?_
    have hset := setRow_heap _ _ _ #[.int .i64 0, .string ⟨#[]⟩, .string u, .string ⟨#[]⟩, .string ⟨#[]⟩, .bool false, .bool false, .int .i64 0, .int .i64 z, .int .i64 0, .int .i64 0] _ _ hx3
    have hH := hHeld.set (new := #[.int .i64 0, .string ⟨#[]⟩, .string u, .string ⟨#[]⟩, .string ⟨#[]⟩, .bool false, .bool false, .int .i64 0, .int .i64 z, .int .i64 0, .int .i64 0]) rfl
    refine hK.out _ _ hH (fun hHeld => ?_)
    clear hK K hH hx3 hX X
    try simp only [Act.put, List.setIfInBounds_toArray, List.set_cons_zero, List.set_cons_succ]
    generalize hW2 : World.setRow _ _ _ = W2 at hset hHeld ⊢
    clear hW2
    refine wpAnyH_take (i := 14) (oi := ⟨some 3, _, _, _, _, _⟩) (v := ?vn14) rfl (by kernel_rfl) (by kernel_rfl) (by kernel_rfl) (fun _ _ _ h => h) (Or.inl ⟨by rfl, ?yn14⟩) hHeld ?rn14
    case yn14 =>
      intro wx hSx
      go_simp
      try with_reducible rfl
    try simp only [Act.put, List.setIfInBounds_toArray, List.set_cons_zero, List.set_cons_succ]
    refine wpAnyH_done (by kernel_rfl) ?_ _
    have HB := Lib.hid hHeld.1
    have d := cells11 hset
    obtain ⟨d0, d1, d2, d3, d4, d5, d6, d7, d8, d9, d10⟩ := d
    clear hHeld hset
    go_wp2_with fail
    refine bodyPost_ret (v := .tuple #[.agg #[.int .i64 0, .string ⟨#[]⟩, .string u, .string ⟨#[]⟩, .string ⟨#[]⟩, .bool false, .bool false, .int .i64 0, .int .i64 z, .int .i64 0, .int .i64 0], .bool false]) ?_ rfl ⟨?_, HB.out⟩
    · simp [results, Try.results64, go_sem, d0, d1, d2, d3, d4, d5, d6, d7, d8, d9, d10]
    · simp [h1]
  · refine wp_region_held_drew (S := fun w' => Two w #[.int .i64 k, .string r, .string u, .string v, .string t, .bool p, .bool o, .int .i64 s, .int .i64 z, .int .i64 c, .int .i64 m] w') (by kernel_rfl) hT (fun hHeld => ?_)
    clear hT
    refine wpAnyH_take (i := 0) (oi := ⟨some 4, _, _, _, _, _⟩) (v := ?vy0) rfl (by kernel_rfl) (by kernel_rfl) (by kernel_rfl) (fun _ _ _ h => h) (Or.inl ⟨by rfl, ?yy0⟩) hHeld ?ry0
    case yy0 =>
      intro wx hSx
      go_simp
      try with_reducible rfl
    try simp only [Act.put, List.setIfInBounds_toArray, List.set_cons_zero, List.set_cons_succ]
    refine wpAnyH_take (i := 1) (oi := ⟨some 5, _, _, _, _, _⟩) (v := ?vy1) rfl (by kernel_rfl) (by kernel_rfl) (by kernel_rfl) (fun _ _ _ h => h) (Or.inl ⟨by rfl, ?yy1⟩) hHeld ?ry1
    case yy1 =>
      intro wx hSx
      have d := cells11 hSx.2.1
      obtain ⟨d0, d1, d2, d3, d4, d5, d6, d7, d8, d9, d10⟩ := d
      go_simp
      try with_reducible rfl
    try simp only [Act.put, List.setIfInBounds_toArray, List.set_cons_zero, List.set_cons_succ]
    refine wpAnyH_take (i := 2) (oi := ⟨some 6, _, _, _, _, _⟩) (v := ?vy2) rfl (by kernel_rfl) (by kernel_rfl) (by kernel_rfl) (fun _ _ _ h => h) (Or.inl ⟨by rfl, ?yy2⟩) hHeld ?ry2
    case yy2 =>
      intro wx hSx
      go_simp
      try with_reducible rfl
    try simp only [Act.put, List.setIfInBounds_toArray, List.set_cons_zero, List.set_cons_succ]
    refine wpAnyH_take (i := 3) (oi := ⟨some 7, _, _, _, _, _⟩) (v := ?vy3) rfl (by kernel_rfl) (by kernel_rfl) (by kernel_rfl) (fun _ _ _ h => h) (Or.inl ⟨by rfl, ?yy3⟩) hHeld ?ry3
    case yy3 =>
      intro wx hSx
      have d := cells11 hSx.2.1
      obtain ⟨d0, d1, d2, d3, d4, d5, d6, d7, d8, d9, d10⟩ := d
      go_simp
      try with_reducible rfl
    try simp only [Act.put, List.setIfInBounds_toArray, List.set_cons_zero, List.set_cons_succ]
    refine wpAnyH_take (i := 4) (oi := ⟨some 8, _, _, _, _, _⟩) (v := ?vy4) rfl (by kernel_rfl) (by kernel_rfl) (by kernel_rfl) (fun _ _ _ h => h) (Or.inl ⟨by rfl, ?yy4⟩) hHeld ?ry4
    case yy4 =>
      intro wx hSx
      go_simp
      try with_reducible rfl
    try simp only [Act.put, List.setIfInBounds_toArray, List.set_cons_zero, List.set_cons_succ]
    refine wpAnyH_take (i := 5) (oi := ⟨some 9, _, _, _, _, _⟩) (v := ?vy5) rfl (by kernel_rfl) (by kernel_rfl) (by kernel_rfl) (fun _ _ _ h => h) (Or.inl ⟨by rfl, ?yy5⟩) hHeld ?ry5
    case yy5 =>
      intro wx hSx
      go_simp
      try with_reducible rfl
    try simp only [Act.put, List.setIfInBounds_toArray, List.set_cons_zero, List.set_cons_succ]
    refine wpAnyH_take (i := 6) (oi := ⟨some 10, _, _, _, _, _⟩) (v := ?vy6) rfl (by kernel_rfl) (by kernel_rfl) (by kernel_rfl) (fun _ _ _ h => h) (Or.inl ⟨by rfl, ?yy6⟩) hHeld ?ry6
    case yy6 =>
      intro wx hSx
      have d := cells11 hSx.2.1
      obtain ⟨d0, d1, d2, d3, d4, d5, d6, d7, d8, d9, d10⟩ := d
      go_simp
      try with_reducible rfl
    try simp only [Act.put, List.setIfInBounds_toArray, List.set_cons_zero, List.set_cons_succ]
    refine wpAnyH_ready (rs := [7]) (by kernel_rfl) (by simp) ?_
    refine AllReadyH.cons (o := ⟨some 11, _, _, _, _, _⟩) rfl (fun K hK => ?_) AllReadyH.nil
    go_simp
    refine (user_any u _ hu).mono ?_
    rintro e wny7 ⟨rfl, hbn⟩
    refine hK.out _ _ (hHeld.later hbn) (fun hH => ?_)
    replace hHeld := hH
    clear hK K hbn hH
    try simp only [Act.put, List.setIfInBounds_toArray, List.set_cons_zero, List.set_cons_succ]
    rw [h1]
    refine wpAnyH_take (i := 8) (oi := ⟨some 12, _, _, _, _, _⟩) (v := ?vy8) rfl (by kernel_rfl) (by kernel_rfl) (by kernel_rfl) (fun _ _ _ h => h) (Or.inl ⟨by rfl, ?yy8⟩) hHeld ?ry8
    case yy8 =>
      intro wx hSx
      go_simp
      try with_reducible rfl
    try simp only [Act.put, List.setIfInBounds_toArray, List.set_cons_zero, List.set_cons_succ]
    refine wpAnyH_take (i := 9) (oi := ⟨some 13, _, _, _, _, _⟩) (v := ?vy9) rfl (by kernel_rfl) (by kernel_rfl) (by kernel_rfl) (fun _ _ _ h => h) (Or.inl ⟨by rfl, ?yy9⟩) hHeld ?ry9
    case yy9 =>
      intro wx hSx
      go_simp
      try with_reducible rfl
    try simp only [Act.put, List.setIfInBounds_toArray, List.set_cons_zero, List.set_cons_succ]
    refine wpAnyH_take (i := 10) (oi := ⟨some 14, _, _, _, _, _⟩) (v := ?vy10) rfl (by kernel_rfl) (by kernel_rfl) (by kernel_rfl) (fun _ _ _ h => h) (Or.inl ⟨by rfl, ?yy10⟩) hHeld ?ry10
    case yy10 =>
      intro wx hSx
      have d := cells11 hSx.2.1
      obtain ⟨d0, d1, d2, d3, d4, d5, d6, d7, d8, d9, d10⟩ := d
      go_simp
      try with_reducible rfl
    try simp only [Act.put, List.setIfInBounds_toArray, List.set_cons_zero, List.set_cons_succ]
    refine anyH_asks (i := 11) (oi := ⟨some 15, _, _, _, _, _⟩) (v := .bool (decide (0 ≤ z ∧ z ≤ 2))) rfl (by kernel_rfl) (by kernel_rfl) (by kernel_rfl) (fun _ _ _ h => h) ⟨by rfl, fun wx hSx => ⟨_, _, ?ey11, within_any z 0 2 _⟩⟩ hHeld ?ry11
    case ey11 => go_simp
    try simp only [Act.put, List.setIfInBounds_toArray, List.set_cons_zero, List.set_cons_succ]
    refine wpAnyH_take (i := 12) (oi := ⟨some 16, _, _, _, _, _⟩) (v := ?vy12) rfl (by kernel_rfl) (by kernel_rfl) (by kernel_rfl) (fun _ _ _ h => h) (Or.inl ⟨by rfl, ?yy12⟩) hHeld ?ry12
    case yy12 =>
      intro wx hSx
      go_simp
      try with_reducible rfl
    try simp only [Act.put, List.setIfInBounds_toArray, List.set_cons_zero, List.set_cons_succ]
    replace hHeld : Two w _ _ := hHeld
    obtain ⟨X, hX, hx3⟩ := hHeld.2.2
    refine wpAnyH_ready (rs := [13]) (by kernel_rfl) (by simp) ?_
    refine AllReadyH.cons (o := ⟨none, _, _, _, _, _⟩) rfl (fun K hK => ?_) AllReadyH.nil
    rw [if_pos (by rfl)]
    refine wp_store_row 23 (.tmp 2) (.tmp 8) rfl (w.heap.size + 1) #[.int .i64 0, .string ⟨#[]⟩, .string u, .string ⟨#[]⟩, .string ⟨#[]⟩, .bool false, .bool false, .int .i64 0, .int .i64 z, .int .i64 0, .int .i64 0] rfl rfl 23 X hx3 edu_info (hX.trans rfl) (one11 _ _ _ _ _ _ _ _ _ _ _) ?_
    have hset := setRow_heap _ _ _ #[.int .i64 0, .string ⟨#[]⟩, .string u, .string ⟨#[]⟩, .string ⟨#[]⟩, .bool false, .bool false, .int .i64 0, .int .i64 z, .int .i64 0, .int .i64 0] _ _ hx3
    have hH := hHeld.set (new := #[.int .i64 0, .string ⟨#[]⟩, .string u, .string ⟨#[]⟩, .string ⟨#[]⟩, .bool false, .bool false, .int .i64 0, .int .i64 z, .int .i64 0, .int .i64 0]) rfl
    refine hK.out _ _ hH (fun hHeld => ?_)
    clear hK K hH hx3 hX X
    try simp only [Act.put, List.setIfInBounds_toArray, List.set_cons_zero, List.set_cons_succ]
    generalize hW2 : World.setRow _ _ _ = W2 at hset hHeld ⊢
    clear hW2
    refine wpAnyH_take (i := 14) (oi := ⟨some 3, _, _, _, _, _⟩) (v := ?vy14) rfl (by kernel_rfl) (by kernel_rfl) (by kernel_rfl) (fun _ _ _ h => h) (Or.inl ⟨by rfl, ?yy14⟩) hHeld ?ry14
    case yy14 =>
      intro wx hSx
      go_simp
      try with_reducible rfl
    try simp only [Act.put, List.setIfInBounds_toArray, List.set_cons_zero, List.set_cons_succ]
    refine wpAnyH_done (by kernel_rfl) ?_ _
    have HB := Lib.hid hHeld.1
    have d := cells11 hset
    obtain ⟨d0, d1, d2, d3, d4, d5, d6, d7, d8, d9, d10⟩ := d
    clear hHeld hset
    go_wp2_with fail
    refine bodyPost_ret (v := .tuple #[.agg #[.int .i64 0, .string ⟨#[]⟩, .string u, .string ⟨#[]⟩, .string ⟨#[]⟩, .bool false, .bool false, .int .i64 0, .int .i64 z, .int .i64 0, .int .i64 0], .bool (decide (0 ≤ z ∧ z ≤ 2))]) ?_ rfl ⟨?_, HB.out⟩
    · simp [results, Try.results64, go_sem, d0, d1, d2, d3, d4, d5, d6, d7, d8, d9, d10]
    · simp [h1]
end Go.Proofs.Ytahgkhcmchbpbaa
