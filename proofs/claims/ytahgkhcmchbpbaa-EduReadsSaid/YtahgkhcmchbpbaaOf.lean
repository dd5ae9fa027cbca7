/-
  What an EDU is of, and which one of two is later, as package edu tells it.
-/
import Derived.Test.YtahgkhcmchbpbaaReadB
import Derived.Test.YtahgkhcmchbpbaaShelf
namespace Go.Proofs.Ytahgkhcmchbpbaa
open Go.RowKit
set_option linter.unusedVariables false
set_option linter.unusedSimpArgs false
set_option maxRecDepth 4000

theorem cloneS_any (s : ByteArray) (w : World) (hs : s.size ≤ 281474976710656) : Calls Try.prog 50 #[.string s] w fun e w' => e = .returned (.string s) ∧ Below w.heap.size w w' := by
  go_enter Try.func50, Try.ntmps50
  go_wp2_with fail
  refine (Try.stringslite_Clone s _ hs).mono ?_
  rintro e w1 ⟨rfl, hb⟩
  replace hb := Lib.hid hb
  go_wp2_with fail
  go_ret
  exact ⟨rfl, hb.out⟩

theorem key_info : (Try.prog.info? 41).map (·.size) = some 5 := by kernel_rfl
theorem one5 (k : Int) (r u t : ByteArray) (p : Bool) : (#[.int .i64 k, .string r, .string u, .string t, .bool p] : Array Value).all (·.oneCell') = true := by simp [Value.oneCell']
theorem cells5 {w : World} {g : Nat} {t : TypeId} {x0 x1 x2 x3 x4 : Value} (h : w.heap[g]? = some (.cells #[x0, x1, x2, x3, x4] t (0, 0))) :
    w.cell? ⟨g, 0, none⟩ = some x0 ∧ w.cell? ⟨g, 1, none⟩ = some x1 ∧ w.cell? ⟨g, 2, none⟩ = some x2 ∧ w.cell? ⟨g, 3, none⟩ = some x3 ∧ w.cell? ⟨g, 4, none⟩ = some x4 :=
  ⟨cell_at h 0, cell_at h 1, cell_at h 2, cell_at h 3, cell_at h 4⟩
/-- One struct behind what was there, and a key that is answered. -/
def TwoK (w : World) (box : Array Value) (w' : World) : Prop := Below w.heap.size w w' ∧ w'.heap[w.heap.size]? = some (.cells box 23 (0, 0)) ∧ (∃ X : Array Value, X.size = 5 ∧ w'.heap[w.heap.size + 1]? = some (.cells X 41 (0, 0)))
theorem TwoK.later {w w' w'' : World} {box : Array Value} (h : TwoK w box w') (hb : Below w'.heap.size w' w'') : TwoK w box w'' := by
  obtain ⟨h1, h2, ⟨X, hX, h3⟩⟩ := h
  exact ⟨Go.Proofs.Ytahgkhcmchbpbaa.later h1 hb, (hb.block _ (heap_lt h2)).trans h2, ⟨X, hX, (hb.block _ (heap_lt h3)).trans h3⟩⟩
theorem TwoK.drew {w w' : World} {box : Array Value} (h : TwoK w box w') : TwoK w box w'.drew := ⟨h.1.drew, h.2⟩
theorem TwoK.set {w w' : World} {box new : Array Value} (h : TwoK w box w') (hn : new.size = 5) : TwoK w box (w'.setRow (w.heap.size + 1) new) := by
  obtain ⟨h1, h2, ⟨X, hX, h3⟩⟩ := h
  exact ⟨below_setRow h1 (by omega) _, by rw [setRow_other _ _ _ _ (by omega)]; exact h2, ⟨new, hn, setRow_heap _ _ _ _ _ _ h3⟩⟩

set_option maxHeartbeats 3200000 in
theorem of_any (k : Int) (r u v t : ByteArray) (p o : Bool) (s z c m : Int) (w : World) (hr : r.size ≤ 281474976710656) (hu : u.size ≤ 281474976710656) (ht : t.size ≤ 281474976710656) :
    Calls Try.prog 22 #[.agg #[.int .i64 k, .string r, .string u, .string v, .string t, .bool p, .bool o, .int .i64 s, .int .i64 z, .int .i64 c, .int .i64 m]] w fun e w' => e = .returned (.agg #[.int .i64 k, .string r, .string u, .string t, .bool p]) ∧ Below w.heap.size w w' := by
  go_enter Try.func22, Try.ntmps22
  go_wp2_with fail
  generalize hW : ((w.alloc (.cells #[.int .i64 k, .string r, .string u, .string v, .string t, .bool p, .bool o, .int .i64 s, .int .i64 z, .int .i64 c, .int .i64 m] 23)).alloc (.cells #[.int .i64 0, .string ⟨#[]⟩, .string ⟨#[]⟩, .string ⟨#[]⟩, .bool false] 41)) = W
  have hT : TwoK w #[.int .i64 k, .string r, .string u, .string v, .string t, .bool p, .bool o, .int .i64 s, .int .i64 z, .int .i64 c, .int .i64 m] W.drew := by
    obtain ⟨e0, e1, h1, _⟩ := at_two _ _ hW
    exact ⟨h1.drew, e0, ⟨_, rfl, e1⟩⟩
  clear hW
  refine wp_region_held_drew (S := fun w' => TwoK w #[.int .i64 k, .string r, .string u, .string v, .string t, .bool p, .bool o, .int .i64 s, .int .i64 z, .int .i64 c, .int .i64 m] w') (by kernel_rfl) hT (fun hHeld => ?_)
  clear hT
  refine wpAnyH_take (i := 0) (oi := ⟨some 3, _, _, _, _, _⟩) (v := ?v0) rfl (by kernel_rfl) (by kernel_rfl) (by kernel_rfl) (fun _ _ _ h => h) (Or.inl ⟨by rfl, ?y0⟩) hHeld ?r0
  case y0 =>
    intro wx hSx
    go_simp
    try with_reducible rfl
  try simp only [Act.put, List.setIfInBounds_toArray, List.set_cons_zero, List.set_cons_succ]
  refine wpAnyH_take (i := 1) (oi := ⟨some 4, _, _, _, _, _⟩) (v := ?v1) rfl (by kernel_rfl) (by kernel_rfl) (by kernel_rfl) (fun _ _ _ h => h) (Or.inl ⟨by rfl, ?y1⟩) hHeld ?r1
  case y1 =>
    intro wx hSx
    obtain ⟨d0, d1, d2, d3, d4, d5, d6, d7, d8, d9, d10⟩ := cells11 hSx.2.1
    go_simp
    try with_reducible rfl
  try simp only [Act.put, List.setIfInBounds_toArray, List.set_cons_zero, List.set_cons_succ]
  refine wpAnyH_take (i := 2) (oi := ⟨some 5, _, _, _, _, _⟩) (v := ?v2) rfl (by kernel_rfl) (by kernel_rfl) (by kernel_rfl) (fun _ _ _ h => h) (Or.inl ⟨by rfl, ?y2⟩) hHeld ?r2
  case y2 =>
    intro wx hSx
    go_simp
    try with_reducible rfl
  try simp only [Act.put, List.setIfInBounds_toArray, List.set_cons_zero, List.set_cons_succ]
  refine wpAnyH_take (i := 3) (oi := ⟨some 6, _, _, _, _, _⟩) (v := ?v3) rfl (by kernel_rfl) (by kernel_rfl) (by kernel_rfl) (fun _ _ _ h => h) (Or.inl ⟨by rfl, ?y3⟩) hHeld ?r3
  case y3 =>
    intro wx hSx
    obtain ⟨d0, d1, d2, d3, d4, d5, d6, d7, d8, d9, d10⟩ := cells11 hSx.2.1
    go_simp
    try with_reducible rfl
  try simp only [Act.put, List.setIfInBounds_toArray, List.set_cons_zero, List.set_cons_succ]
  refine wpAnyH_take (i := 5) (oi := ⟨some 8, _, _, _, _, _⟩) (v := ?v5) rfl (by kernel_rfl) (by kernel_rfl) (by kernel_rfl) (fun _ _ _ h => h) (Or.inl ⟨by rfl, ?y5⟩) hHeld ?r5
  case y5 =>
    intro wx hSx
    go_simp
    try with_reducible rfl
  try simp only [Act.put, List.setIfInBounds_toArray, List.set_cons_zero, List.set_cons_succ]
  refine wpAnyH_take (i := 6) (oi := ⟨some 9, _, _, _, _, _⟩) (v := ?v6) rfl (by kernel_rfl) (by kernel_rfl) (by kernel_rfl) (fun _ _ _ h => h) (Or.inl ⟨by rfl, ?y6⟩) hHeld ?r6
  case y6 =>
    intro wx hSx
    obtain ⟨d0, d1, d2, d3, d4, d5, d6, d7, d8, d9, d10⟩ := cells11 hSx.2.1
    go_simp
    try with_reducible rfl
  try simp only [Act.put, List.setIfInBounds_toArray, List.set_cons_zero, List.set_cons_succ]
  refine wpAnyH_take (i := 8) (oi := ⟨some 11, _, _, _, _, _⟩) (v := ?v8) rfl (by kernel_rfl) (by kernel_rfl) (by kernel_rfl) (fun _ _ _ h => h) (Or.inl ⟨by rfl, ?y8⟩) hHeld ?r8
  case y8 =>
    intro wx hSx
    go_simp
    try with_reducible rfl
  try simp only [Act.put, List.setIfInBounds_toArray, List.set_cons_zero, List.set_cons_succ]
  refine wpAnyH_take (i := 9) (oi := ⟨some 12, _, _, _, _, _⟩) (v := ?v9) rfl (by kernel_rfl) (by kernel_rfl) (by kernel_rfl) (fun _ _ _ h => h) (Or.inl ⟨by rfl, ?y9⟩) hHeld ?r9
  case y9 =>
    intro wx hSx
    obtain ⟨d0, d1, d2, d3, d4, d5, d6, d7, d8, d9, d10⟩ := cells11 hSx.2.1
    go_simp
    try with_reducible rfl
  try simp only [Act.put, List.setIfInBounds_toArray, List.set_cons_zero, List.set_cons_succ]
  refine wpAnyH_take (i := 11) (oi := ⟨some 14, _, _, _, _, _⟩) (v := ?v11) rfl (by kernel_rfl) (by kernel_rfl) (by kernel_rfl) (fun _ _ _ h => h) (Or.inl ⟨by rfl, ?y11⟩) hHeld ?r11
  case y11 =>
    intro wx hSx
    go_simp
    try with_reducible rfl
  try simp only [Act.put, List.setIfInBounds_toArray, List.set_cons_zero, List.set_cons_succ]
  refine wpAnyH_take (i := 12) (oi := ⟨some 15, _, _, _, _, _⟩) (v := ?v12) rfl (by kernel_rfl) (by kernel_rfl) (by kernel_rfl) (fun _ _ _ h => h) (Or.inl ⟨by rfl, ?y12⟩) hHeld ?r12
  case y12 =>
    intro wx hSx
    obtain ⟨d0, d1, d2, d3, d4, d5, d6, d7, d8, d9, d10⟩ := cells11 hSx.2.1
    go_simp
    try with_reducible rfl
  try simp only [Act.put, List.setIfInBounds_toArray, List.set_cons_zero, List.set_cons_succ]
  refine wpAnyH_ready (rs := [4]) (by kernel_rfl) (by simp) ?_
  refine AllReadyH.cons (o := ⟨some 7, _, _, _, _, _⟩) rfl (fun K hK => ?_) AllReadyH.nil
  go_simp
  refine (cloneS_any r _ hr).mono ?_
  rintro e wn4 ⟨rfl, hbn⟩
  refine hK.out _ _ (hHeld.later hbn) (fun hH => ?_)
  replace hHeld := hH
  clear hK K hbn hH
  try simp only [Act.put, List.setIfInBounds_toArray, List.set_cons_zero, List.set_cons_succ]
  refine wpAnyH_ready (rs := [7]) (by kernel_rfl) (by simp) ?_
  refine AllReadyH.cons (o := ⟨some 10, _, _, _, _, _⟩) rfl (fun K hK => ?_) AllReadyH.nil
  go_simp
  refine (cloneS_any u _ hu).mono ?_
  rintro e wn7 ⟨rfl, hbn⟩
  refine hK.out _ _ (hHeld.later hbn) (fun hH => ?_)
  replace hHeld := hH
  clear hK K hbn hH
  try simp only [Act.put, List.setIfInBounds_toArray, List.set_cons_zero, List.set_cons_succ]
  refine wpAnyH_ready (rs := [10]) (by kernel_rfl) (by simp) ?_
  refine AllReadyH.cons (o := ⟨some 13, _, _, _, _, _⟩) rfl (fun K hK => ?_) AllReadyH.nil
  go_simp
  refine (cloneS_any t _ ht).mono ?_
  rintro e wn10 ⟨rfl, hbn⟩
  refine hK.out _ _ (hHeld.later hbn) (fun hH => ?_)
  replace hHeld := hH
  clear hK K hbn hH
  try simp only [Act.put, List.setIfInBounds_toArray, List.set_cons_zero, List.set_cons_succ]
  refine wpAnyH_take (i := 13) (oi := ⟨some 16, _, _, _, _, _⟩) (v := ?v13) rfl (by kernel_rfl) (by kernel_rfl) (by kernel_rfl) (fun _ _ _ h => h) (Or.inl ⟨by rfl, ?y13⟩) hHeld ?r13
  case y13 =>
    intro wx hSx
    go_simp
    try with_reducible rfl
  try simp only [Act.put, List.setIfInBounds_toArray, List.set_cons_zero, List.set_cons_succ]
  obtain ⟨X, hX, hx3⟩ := hHeld.2.2
  refine wpAnyH_ready (rs := [14]) (by kernel_rfl) (by simp) ?_
  refine AllReadyH.cons (o := ⟨none, _, _, _, _, _⟩) rfl (fun K hK => ?_) AllReadyH.nil
  rw [if_pos (by rfl)]
  refine wp_store_row 41 (.tmp 2) (.tmp 16) rfl (w.heap.size + 1) #[.int .i64 k, .string r, .string u, .string t, .bool p] rfl rfl 41 X hx3 key_info (hX.trans rfl) (one5 _ _ _ _ _) ?_
  have hset := setRow_heap _ _ _ #[.int .i64 k, .string r, .string u, .string t, .bool p] _ _ hx3
  have hH := hHeld.set (new := #[.int .i64 k, .string r, .string u, .string t, .bool p]) rfl
  refine hK.out _ _ hH (fun hHeld => ?_)
  clear hK K hH hx3 hX X
  try simp only [Act.put, List.setIfInBounds_toArray, List.set_cons_zero, List.set_cons_succ]
  generalize hW2 : World.setRow _ _ _ = W2 at hset hHeld ⊢
  clear hW2
  refine wpAnyH_done (by kernel_rfl) ?_ _
  have HB := Lib.hid hHeld.1
  obtain ⟨d0, d1, d2, d3, d4⟩ := cells5 hset
  clear hHeld hset
  go_wp2_with fail
  refine bodyPost_ret (v := .agg #[.int .i64 k, .string r, .string u, .string t, .bool p]) ?_ rfl ⟨rfl, HB.out⟩
  simp [results, Try.results22, go_sem, d0, d1, d2, d3, d4]

theorem run_loadBytes (w : World) : ∀ (bs : List UInt8) (g off : Nat) (acc : ByteArray), (∀ j x, bs[j]? = some x → w.cell? ⟨g, off + j, none⟩ = some (bV x)) →
    (Extern.Bytes.loadBytes ⟨g, off, none⟩ bs.length acc).run Try.prog w = .ok ⟨acc.data ++ bs.toArray⟩ w
  | [], g, off, acc, _ => by simp [Extern.Bytes.loadBytes]
  | x :: l, g, off, acc, h => by
    have hc : w.cell? ⟨g, off, none⟩ = some (.int .u8 (x.toNat : Int)) := h 0 x rfl
    have ih := run_loadBytes w l g (off + 1) (acc.push x) (fun j y hy => by
      have := h (j + 1) y (by simpa using hy)
      rw [show off + 1 + j = off + (j + 1) by omega]
      exact this)
    have ha : (⟨g, off, none⟩ : Addr).add 1 = ⟨g, off + 1, none⟩ := by unfold Addr.add; split <;> simp_all
    have hx : ((x.toNat : Int)).toNat.toUInt8 = x := by simp
    simp only [Extern.Bytes.loadBytes, List.length_cons, Sem.run_bind]
    go_simp
theorem run_bytesOf {w : World} {lo : Nat} {v : Value} {bs : List UInt8} (h : Row w lo v bs) : (Extern.Bytes.bytesOf v).run Try.prog w = .ok (strOf bs) w := by
  have h' := h
  rcases h with ⟨rfl, rfl⟩ | ⟨g, off, c, cur, rfl, hg, hh, h1, h2, h3⟩
  · rfl
  · have := run_loadBytes w bs g off .empty (fun j x hx => h'.cells j x hx)
    simp only [Extern.Bytes.bytesOf]
    rw [this]
    simp [strOf]
theorem run_compare {w : World} {lo lo' : Nat} {v v' : Value} {a b : List UInt8} (h : Row w lo v a) (h' : Row w lo' v' b) : (Extern.BytealgCompare.compare #[v, v']).run Try.prog w = .ok (.int .i64 (Lib.compareBytes a b)) w := by
  change Sem.run Try.prog (do pure (goInt (Extern.BytealgCompare.cmp (← Extern.Bytes.bytesOf v) (← Extern.Bytes.bytesOf v')))) w = _
  simp only [Sem.run_bind, Sem.run_pure, run_bytesOf h, run_bytesOf h', Result.andThen]
  rw [Lib.cmp_eq]
  rfl
theorem compareB_any (v v' : Value) (a b : List UInt8) (lo lo' : Nat) (w : World) (h : Row w lo v a) (h' : Row w lo' v' b) :
    Calls Try.prog 52 #[v, v'] w fun e w' => e = .returned (.int .i64 (Lib.compareBytes a b)) ∧ w = w' := by
  have hc := run_compare h h'
  clear h h'
  go_enter Try.func52, Try.ntmps52
  go_wp2
  rw [run_callFunc_extern Try.func76 (by kernel_rfl) (by kernel_rfl) (by kernel_rfl) (e := Extern.BytealgCompare.compare) (by kernel_rfl), hc]
  simp only [Result.andThen]
  rw [Oper.upon_value]
  go_wp2
  go_ret
  exact ⟨rfl, rfl⟩

theorem compareInt_eq (x y : Int) : Lib.compareInt x y = if x < y then -1 else if y < x then 1 else 0 := by
  unfold Lib.compareInt
  rfl
/-- Two structs that were handed in. -/
def Twice (w : World) (a b : Array Value) (w' : World) : Prop := Below w.heap.size w w' ∧ w'.heap[w.heap.size]? = some (.cells a 23 (0, 0)) ∧ w'.heap[w.heap.size + 1]? = some (.cells b 23 (0, 0))
theorem Twice.later {w w' w'' : World} {a b : Array Value} (h : Twice w a b w') (hb : Below w'.heap.size w' w'') : Twice w a b w'' := by
  obtain ⟨h1, h2, h3⟩ := h
  exact ⟨Go.Proofs.Ytahgkhcmchbpbaa.later h1 hb, (hb.block _ (heap_lt h2)).trans h2, (hb.block _ (heap_lt h3)).trans h3⟩
theorem Twice.drew {w w' : World} {a b : Array Value} (h : Twice w a b w') : Twice w a b w'.drew := ⟨h.1.drew, h.2⟩
theorem twice_new {w W : World} {a b : Array Value} (h : (w.alloc (.cells a 23)).alloc (.cells b 23) = W) : Twice w a b W := by
  obtain ⟨e0, e1, h1, _⟩ := at_two _ _ h
  exact ⟨h1, e0, e1⟩

set_option maxHeartbeats 3200000 in
theorem compareE_any (a b : Edu) (w : World) (ha : a.fits) (hb : b.fits) (sa : a.short) (sb : b.short) :
    Calls Try.prog 24 #[a.val, b.val] w fun e w' => e = .returned (.int .i64 (cmpE a b)) ∧ Below w.heap.size w w' := by
  have hA := Lib.hid (fun w => laid_any a w ha sa)
  have hB := Lib.hid (fun w => laid_any b w hb sb)
  have HC := Lib.hid (show cmpE a b = if a.stamp < b.stamp then -1 else if b.stamp < a.stamp then 1 else Lib.compareBytes (bytesB a) (bytesB b) from rfl)
  clear ha hb sa sb
  generalize cmpE a b = ce at *
  generalize bytesB a = ba at *
  generalize bytesB b = bb at *
  obtain ⟨k, r, u, v, t, p, o, s, z, c, m⟩ := a
  obtain ⟨k', r', u', v', t', p', o', s', z', c', m'⟩ := b
  simp only [Edu.val] at hA hB HC ⊢
  go_enter Try.func24, Try.ntmps24
  go_wp2_with fail
  generalize hW : ((w.alloc (.cells #[.int .i64 k, .string r, .string u, .string v, .string t, .bool p, .bool o, .int .i64 s, .int .i64 z, .int .i64 c, .int .i64 m] 23)).alloc (.cells #[.int .i64 k', .string r', .string u', .string v', .string t', .bool p', .bool o', .int .i64 s', .int .i64 z', .int .i64 c', .int .i64 m'] 23)) = W
  have hT := twice_new hW
  clear hW
  refine (Try.cmp_Compare_int m m' _).mono ?_
  rintro e wx ⟨rfl, rfl⟩
  rw [compareInt_eq]
  by_cases h1 : m < m'
  · rw [if_pos h1] at HC ⊢
    have HB := Lib.hid hT.1
    clear hT
    go_wp2_with fail
    go_ret
    rw [HC.out]
    exact ⟨rfl, HB.out⟩
  · rw [if_neg h1] at HC ⊢
    by_cases h2 : m' < m
    · rw [if_pos h2] at HC ⊢
      have HB := Lib.hid hT.1
      clear hT
      go_wp2_with fail
      go_ret
      rw [HC.out]
      exact ⟨rfl, HB.out⟩
    · rw [if_neg h2] at HC ⊢
      clear h1 h2
      replace hT := hT.drew
      go_upto_region 4 with (fail)
      refine wp_region_held_drew (S := fun w' => Twice w #[.int .i64 k, .string r, .string u, .string v, .string t, .bool p, .bool o, .int .i64 s, .int .i64 z, .int .i64 c, .int .i64 m] #[.int .i64 k', .string r', .string u', .string v', .string t', .bool p', .bool o', .int .i64 s', .int .i64 z', .int .i64 c', .int .i64 m'] w') (by kernel_rfl) hT (fun hHeld => ?_)
      clear hT
      refine wpAnyH_take (i := 0) (oi := ⟨some 14, _, _, _, _, _⟩) (v := ?v0) rfl (by kernel_rfl) (by kernel_rfl) (by kernel_rfl) (fun _ _ _ h => h) (Or.inl ⟨by rfl, ?y0⟩) hHeld ?r0
      case y0 =>
        intro wx hSx
        obtain ⟨d0, d1, d2, d3, d4, d5, d6, d7, d8, d9, d10⟩ := cells11 hSx.2.1
        go_simp
        try with_reducible rfl
      try simp only [Act.put, List.setIfInBounds_toArray, List.set_cons_zero, List.set_cons_succ]
      refine wpAnyH_take (i := 2) (oi := ⟨some 16, _, _, _, _, _⟩) (v := ?v2) rfl (by kernel_rfl) (by kernel_rfl) (by kernel_rfl) (fun _ _ _ h => h) (Or.inl ⟨by rfl, ?y2⟩) hHeld ?r2
      case y2 =>
        intro wx hSx
        obtain ⟨d0, d1, d2, d3, d4, d5, d6, d7, d8, d9, d10⟩ := cells11 hSx.2.2
        go_simp
        try with_reducible rfl
      try simp only [Act.put, List.setIfInBounds_toArray, List.set_cons_zero, List.set_cons_succ]
      refine wpAnyH_ready (rs := [1]) (by kernel_rfl) (by simp) ?_
      refine AllReadyH.cons (o := ⟨some 15, _, _, _, _, _⟩) rfl (fun K hK => ?_) AllReadyH.nil
      go_simp
      refine (hA.out _).mono ?_
      rintro e w1 ⟨⟨g1, cap1, rfl, hg1, ho1⟩, hb1⟩
      replace hHeld := hHeld.later hb1
      refine hK.out _ _ hHeld (fun _ => ?_)
      clear hK K hb1 hg1
      try simp only [Act.put, List.setIfInBounds_toArray, List.set_cons_zero, List.set_cons_succ]
      refine wpAnyH_ready (rs := [3]) (by kernel_rfl) (by simp) ?_
      refine AllReadyH.cons (o := ⟨some 17, _, _, _, _, _⟩) rfl (fun K hK => ?_) AllReadyH.nil
      go_simp
      refine (hB.out _).mono ?_
      rintro e w2 ⟨⟨g2, cap2, rfl, hg2, ho2⟩, hb2⟩
      replace hHeld := hHeld.later hb2
      replace ho1 := ho1.below hb2
      refine hK.out _ _ hHeld (fun _ => ?_)
      clear hK K hb2 hg2
      try simp only [Act.put, List.setIfInBounds_toArray, List.set_cons_zero, List.set_cons_succ]
      refine wpAnyH_ready (rs := [4]) (by kernel_rfl) (by simp) ?_
      refine AllReadyH.cons (o := ⟨some 18, _, _, _, _, _⟩) rfl (fun K hK => ?_) AllReadyH.nil
      go_simp
      refine (compareB_any _ _ ba bb 0 0 _ (ho1.row (Nat.zero_le _)) (ho2.row (Nat.zero_le _))).mono ?_
      rintro e wx ⟨rfl, rfl⟩
      refine hK.out _ _ hHeld (fun _ => ?_)
      clear hK K
      try simp only [Act.put, List.setIfInBounds_toArray, List.set_cons_zero, List.set_cons_succ]
      refine wpAnyH_take (i := 5) (oi := ⟨some 4, _, _, _, _, _⟩) (v := ?v5) rfl (by kernel_rfl) (by kernel_rfl) (by kernel_rfl) (fun _ _ _ h => h) (Or.inl ⟨by rfl, ?y5⟩) hHeld ?r5
      case y5 =>
        intro wx hSx
        go_simp
        try with_reducible rfl
      try simp only [Act.put, List.setIfInBounds_toArray, List.set_cons_zero, List.set_cons_succ]
      refine wpAnyH_done (by kernel_rfl) ?_ _
      have HB := Lib.hid hHeld.1
      clear hHeld ho1 ho2
      go_wp2_with fail
      go_ret
      rw [HC.out]
      exact ⟨rfl, HB.out⟩

def keyE (a b : Edu) : Bool := (a.kind == b.kind) && ((a.room.toList == b.room.toList) && ((a.user.toList == b.user.toList) && ((a.thread.toList == b.thread.toList) && (a.priv == b.priv))))
theorem key_same (a b : Edu) : keyE a b = sameE a b := by
  unfold keyE sameE
  rw [Bool.eq_iff_iff]
  simp only [Bool.and_eq_true, beq_toListBytes, beq_iff_eq, decide_eq_true_iff, toList_iff, and_assoc]
theorem eql_key (a b : Edu) (w : World) : (Op.equalIn 10000 41 (.agg #[.int .i64 a.kind, .string a.room, .string a.user, .string a.thread, .bool a.priv]) (.agg #[.int .i64 b.kind, .string b.room, .string b.user, .string b.thread, .bool b.priv])).run Try.prog w = .ok (keyE a b) w := by
  unfold keyE
  go_simp
  repeat' split
  all_goals simp_all

set_option maxHeartbeats 3200000 in
theorem later_any (a b : Edu) (w : World) (ha : a.fits) (hb : b.fits) (sa : a.short) (sb : b.short) :
    Calls Try.prog 26 #[a.val, b.val] w fun e w' => e = .returned (.bool (sameE a b && decide (0 < cmpE a b))) ∧ Below w.heap.size w w' := by
  have hC := Lib.hid (fun w => compareE_any a b w ha hb sa sb)
  have HE := Lib.hid (eql_key a b)
  rw [key_same] at HE
  clear ha hb
  generalize cmpE a b = ce at *
  generalize sameE a b = se at *
  obtain ⟨k, r, u, v, t, p, o, s, z, c, m⟩ := a
  obtain ⟨k', r', u', v', t', p', o', s', z', c', m'⟩ := b
  obtain ⟨a1, a2, _, a4⟩ := sa
  obtain ⟨b1, b2, _, b4⟩ := sb
  simp only at a1 a2 a4 b1 b2 b4 HE
  simp only [Edu.val] at hC ⊢
  go_enter Try.func26, Try.ntmps26
  go_upto_region 1 with (fail)
  generalize hW : ((w.alloc (.cells #[.int .i64 k, .string r, .string u, .string v, .string t, .bool p, .bool o, .int .i64 s, .int .i64 z, .int .i64 c, .int .i64 m] 23)).alloc (.cells #[.int .i64 k', .string r', .string u', .string v', .string t', .bool p', .bool o', .int .i64 s', .int .i64 z', .int .i64 c', .int .i64 m'] 23)) = W
  have hT := (twice_new hW).drew
  clear hW
  cases se
  · refine wp_region_held_drew (S := fun w' => Twice w #[.int .i64 k, .string r, .string u, .string v, .string t, .bool p, .bool o, .int .i64 s, .int .i64 z, .int .i64 c, .int .i64 m] #[.int .i64 k', .string r', .string u', .string v', .string t', .bool p', .bool o', .int .i64 s', .int .i64 z', .int .i64 c', .int .i64 m'] w') (by kernel_rfl) hT (fun hHeld => ?_)
    clear hT
    refine wpAnyH_take (i := 0) (oi := ⟨some 5, _, _, _, _, _⟩) (v := ?vn0) rfl (by kernel_rfl) (by kernel_rfl) (by kernel_rfl) (fun _ _ _ h => h) (Or.inl ⟨by rfl, ?yn0⟩) hHeld ?rn0
    case yn0 =>
      intro wx hSx
      obtain ⟨d0, d1, d2, d3, d4, d5, d6, d7, d8, d9, d10⟩ := cells11 hSx.2.1
      go_simp
      try with_reducible rfl
    try simp only [Act.put, List.setIfInBounds_toArray, List.set_cons_zero, List.set_cons_succ]
    refine wpAnyH_take (i := 2) (oi := ⟨some 7, _, _, _, _, _⟩) (v := ?vn2) rfl (by kernel_rfl) (by kernel_rfl) (by kernel_rfl) (fun _ _ _ h => h) (Or.inl ⟨by rfl, ?yn2⟩) hHeld ?rn2
    case yn2 =>
      intro wx hSx
      obtain ⟨d0, d1, d2, d3, d4, d5, d6, d7, d8, d9, d10⟩ := cells11 hSx.2.2
      go_simp
      try with_reducible rfl
    try simp only [Act.put, List.setIfInBounds_toArray, List.set_cons_zero, List.set_cons_succ]
    refine wpAnyH_ready (rs := [1]) (by kernel_rfl) (by simp) ?_
    refine AllReadyH.cons (o := ⟨some 6, _, _, _, _, _⟩) rfl (fun K hK => ?_) AllReadyH.nil
    go_simp
    refine (of_any k r u v t p o s z c m _ (by omega) (by omega) (by omega)).mono ?_
    rintro e wnn1 ⟨rfl, hbn⟩
    refine hK.out _ _ (hHeld.later hbn) (fun hH => ?_)
    replace hHeld := hH
    clear hK K hbn hH
    try simp only [Act.put, List.setIfInBounds_toArray, List.set_cons_zero, List.set_cons_succ]
    refine wpAnyH_ready (rs := [3]) (by kernel_rfl) (by simp) ?_
    refine AllReadyH.cons (o := ⟨some 8, _, _, _, _, _⟩) rfl (fun K hK => ?_) AllReadyH.nil
    go_simp
    refine (of_any k' r' u' v' t' p' o' s' z' c' m' _ (by omega) (by omega) (by omega)).mono ?_
    rintro e wnn3 ⟨rfl, hbn⟩
    refine hK.out _ _ (hHeld.later hbn) (fun hH => ?_)
    replace hHeld := hH
    clear hK K hbn hH
    try simp only [Act.put, List.setIfInBounds_toArray, List.set_cons_zero, List.set_cons_succ]
    refine wpAnyH_take (i := 4) (oi := ⟨some 9, _, _, _, _, _⟩) (v := ?vn4) rfl (by kernel_rfl) (by kernel_rfl) (by kernel_rfl) (fun _ _ _ h => h) (Or.inl ⟨by rfl, ?yn4⟩) hHeld ?rn4
    case yn4 =>
      intro wx hSx
      have heq := HE.out
      go_simp
      first | done | rfl
    try simp only [Act.put, List.setIfInBounds_toArray, List.set_cons_zero, List.set_cons_succ]
    refine wpAnyH_take (i := 5) (oi := ⟨some 10, _, _, _, _, _⟩) (v := ?vn5) rfl (by kernel_rfl) (by kernel_rfl) (by kernel_rfl) (fun _ _ _ h => h) (Or.inl ⟨by rfl, ?yn5⟩) hHeld ?rn5
    case yn5 =>
      intro wx hSx
      go_simp
      try with_reducible rfl
    try simp only [Act.put, List.setIfInBounds_toArray, List.set_cons_zero, List.set_cons_succ]
    refine wpAnyH_take (i := 6) (oi := ⟨some 11, _, _, _, _, _⟩) (v := undef) rfl (by kernel_rfl) (by kernel_rfl) (by kernel_rfl) (fun _ _ _ h => h) (Or.inr ⟨by rfl, rfl⟩) hHeld ?rn6
    try simp only [Act.put, List.setIfInBounds_toArray, List.set_cons_zero, List.set_cons_succ]
    refine wpAnyH_take (i := 7) (oi := ⟨some 12, _, _, _, _, _⟩) (v := undef) rfl (by kernel_rfl) (by kernel_rfl) (by kernel_rfl) (fun _ _ _ h => h) (Or.inr ⟨by rfl, rfl⟩) hHeld ?rn7
    try simp only [Act.put, List.setIfInBounds_toArray, List.set_cons_zero, List.set_cons_succ]
    refine wpAnyH_take (i := 8) (oi := ⟨some 13, _, _, _, _, _⟩) (v := undef) rfl (by kernel_rfl) (by kernel_rfl) (by kernel_rfl) (fun _ _ _ h => h) (Or.inr ⟨by rfl, rfl⟩) hHeld ?rn8
    try simp only [Act.put, List.setIfInBounds_toArray, List.set_cons_zero, List.set_cons_succ]
    refine wpAnyH_take (i := 9) (oi := ⟨some 14, _, _, _, _, _⟩) (v := undef) rfl (by kernel_rfl) (by kernel_rfl) (by kernel_rfl) (fun _ _ _ h => h) (Or.inr ⟨by rfl, rfl⟩) hHeld ?rn9
    try simp only [Act.put, List.setIfInBounds_toArray, List.set_cons_zero, List.set_cons_succ]
    refine wpAnyH_take (i := 10) (oi := ⟨some 15, _, _, _, _, _⟩) (v := ?vn10) rfl (by kernel_rfl) (by kernel_rfl) (by kernel_rfl) (fun _ _ _ h => h) (Or.inl ⟨by rfl, ?yn10⟩) hHeld ?rn10
    case yn10 =>
      intro wx hSx
      go_simp
      try with_reducible rfl
    try simp only [Act.put, List.setIfInBounds_toArray, List.set_cons_zero, List.set_cons_succ]
    refine wpAnyH_take (i := 11) (oi := ⟨some 4, _, _, _, _, _⟩) (v := ?vn11) rfl (by kernel_rfl) (by kernel_rfl) (by kernel_rfl) (fun _ _ _ h => h) (Or.inl ⟨by rfl, ?yn11⟩) hHeld ?rn11
    case yn11 =>
      intro wx hSx
      go_simp
      try with_reducible rfl
    try simp only [Act.put, List.setIfInBounds_toArray, List.set_cons_zero, List.set_cons_succ]
    refine wpAnyH_done (by kernel_rfl) ?_ _
    have HB := Lib.hid hHeld.1
    clear hHeld
    go_wp2_with fail
    go_ret
    exact ⟨rfl, HB.out⟩
  · refine wp_region_held_drew (S := fun w' => Twice w #[.int .i64 k, .string r, .string u, .string v, .string t, .bool p, .bool o, .int .i64 s, .int .i64 z, .int .i64 c, .int .i64 m] #[.int .i64 k', .string r', .string u', .string v', .string t', .bool p', .bool o', .int .i64 s', .int .i64 z', .int .i64 c', .int .i64 m'] w') (by kernel_rfl) hT (fun hHeld => ?_)
    clear hT
    refine wpAnyH_take (i := 0) (oi := ⟨some 5, _, _, _, _, _⟩) (v := ?vy0) rfl (by kernel_rfl) (by kernel_rfl) (by kernel_rfl) (fun _ _ _ h => h) (Or.inl ⟨by rfl, ?yy0⟩) hHeld ?ry0
    case yy0 =>
      intro wx hSx
      obtain ⟨d0, d1, d2, d3, d4, d5, d6, d7, d8, d9, d10⟩ := cells11 hSx.2.1
      go_simp
      try with_reducible rfl
    try simp only [Act.put, List.setIfInBounds_toArray, List.set_cons_zero, List.set_cons_succ]
    refine wpAnyH_take (i := 2) (oi := ⟨some 7, _, _, _, _, _⟩) (v := ?vy2) rfl (by kernel_rfl) (by kernel_rfl) (by kernel_rfl) (fun _ _ _ h => h) (Or.inl ⟨by rfl, ?yy2⟩) hHeld ?ry2
    case yy2 =>
      intro wx hSx
      obtain ⟨d0, d1, d2, d3, d4, d5, d6, d7, d8, d9, d10⟩ := cells11 hSx.2.2
      go_simp
      try with_reducible rfl
    try simp only [Act.put, List.setIfInBounds_toArray, List.set_cons_zero, List.set_cons_succ]
    refine wpAnyH_ready (rs := [1]) (by kernel_rfl) (by simp) ?_
    refine AllReadyH.cons (o := ⟨some 6, _, _, _, _, _⟩) rfl (fun K hK => ?_) AllReadyH.nil
    go_simp
    refine (of_any k r u v t p o s z c m _ (by omega) (by omega) (by omega)).mono ?_
    rintro e wny1 ⟨rfl, hbn⟩
    refine hK.out _ _ (hHeld.later hbn) (fun hH => ?_)
    replace hHeld := hH
    clear hK K hbn hH
    try simp only [Act.put, List.setIfInBounds_toArray, List.set_cons_zero, List.set_cons_succ]
    refine wpAnyH_ready (rs := [3]) (by kernel_rfl) (by simp) ?_
    refine AllReadyH.cons (o := ⟨some 8, _, _, _, _, _⟩) rfl (fun K hK => ?_) AllReadyH.nil
    go_simp
    refine (of_any k' r' u' v' t' p' o' s' z' c' m' _ (by omega) (by omega) (by omega)).mono ?_
    rintro e wny3 ⟨rfl, hbn⟩
    refine hK.out _ _ (hHeld.later hbn) (fun hH => ?_)
    replace hHeld := hH
    clear hK K hbn hH
    try simp only [Act.put, List.setIfInBounds_toArray, List.set_cons_zero, List.set_cons_succ]
    refine wpAnyH_take (i := 4) (oi := ⟨some 9, _, _, _, _, _⟩) (v := ?vy4) rfl (by kernel_rfl) (by kernel_rfl) (by kernel_rfl) (fun _ _ _ h => h) (Or.inl ⟨by rfl, ?yy4⟩) hHeld ?ry4
    case yy4 =>
      intro wx hSx
      have heq := HE.out
      go_simp
      first | done | rfl
    try simp only [Act.put, List.setIfInBounds_toArray, List.set_cons_zero, List.set_cons_succ]
    refine wpAnyH_take (i := 5) (oi := ⟨some 10, _, _, _, _, _⟩) (v := ?vy5) rfl (by kernel_rfl) (by kernel_rfl) (by kernel_rfl) (fun _ _ _ h => h) (Or.inl ⟨by rfl, ?yy5⟩) hHeld ?ry5
    case yy5 =>
      intro wx hSx
      go_simp
      try with_reducible rfl
    try simp only [Act.put, List.setIfInBounds_toArray, List.set_cons_zero, List.set_cons_succ]
    refine wpAnyH_take (i := 6) (oi := ⟨some 11, _, _, _, _, _⟩) (v := ?vy6) rfl (by kernel_rfl) (by kernel_rfl) (by kernel_rfl) (fun _ _ _ h => h) (Or.inl ⟨by rfl, ?yy6⟩) hHeld ?ry6
    case yy6 =>
      intro wx hSx
      obtain ⟨d0, d1, d2, d3, d4, d5, d6, d7, d8, d9, d10⟩ := cells11 hSx.2.1
      go_simp
      try with_reducible rfl
    try simp only [Act.put, List.setIfInBounds_toArray, List.set_cons_zero, List.set_cons_succ]
    refine wpAnyH_take (i := 7) (oi := ⟨some 12, _, _, _, _, _⟩) (v := ?vy7) rfl (by kernel_rfl) (by kernel_rfl) (by kernel_rfl) (fun _ _ _ h => h) (Or.inl ⟨by rfl, ?yy7⟩) hHeld ?ry7
    case yy7 =>
      intro wx hSx
      obtain ⟨d0, d1, d2, d3, d4, d5, d6, d7, d8, d9, d10⟩ := cells11 hSx.2.2
      go_simp
      try with_reducible rfl
    try simp only [Act.put, List.setIfInBounds_toArray, List.set_cons_zero, List.set_cons_succ]
    refine wpAnyH_ready (rs := [8]) (by kernel_rfl) (by simp) ?_
    refine AllReadyH.cons (o := ⟨some 13, _, _, _, _, _⟩) rfl (fun K hK => ?_) AllReadyH.nil
    go_simp
    refine (hC.out _).mono ?_
    rintro e wny8 ⟨rfl, hbn⟩
    refine hK.out _ _ (hHeld.later hbn) (fun hH => ?_)
    replace hHeld := hH
    clear hK K hbn hH
    try simp only [Act.put, List.setIfInBounds_toArray, List.set_cons_zero, List.set_cons_succ]
    refine wpAnyH_take (i := 9) (oi := ⟨some 14, _, _, _, _, _⟩) (v := ?vy9) rfl (by kernel_rfl) (by kernel_rfl) (by kernel_rfl) (fun _ _ _ h => h) (Or.inl ⟨by rfl, ?yy9⟩) hHeld ?ry9
    case yy9 =>
      intro wx hSx
      go_simp
      try with_reducible rfl
    try simp only [Act.put, List.setIfInBounds_toArray, List.set_cons_zero, List.set_cons_succ]
    refine wpAnyH_take (i := 10) (oi := ⟨some 15, _, _, _, _, _⟩) (v := ?vy10) rfl (by kernel_rfl) (by kernel_rfl) (by kernel_rfl) (fun _ _ _ h => h) (Or.inl ⟨by rfl, ?yy10⟩) hHeld ?ry10
    case yy10 =>
      intro wx hSx
      go_simp
      try with_reducible rfl
    try simp only [Act.put, List.setIfInBounds_toArray, List.set_cons_zero, List.set_cons_succ]
    refine wpAnyH_take (i := 11) (oi := ⟨some 4, _, _, _, _, _⟩) (v := ?vy11) rfl (by kernel_rfl) (by kernel_rfl) (by kernel_rfl) (fun _ _ _ h => h) (Or.inl ⟨by rfl, ?yy11⟩) hHeld ?ry11
    case yy11 =>
      intro wx hSx
      go_simp
      try with_reducible rfl
    try simp only [Act.put, List.setIfInBounds_toArray, List.set_cons_zero, List.set_cons_succ]
    refine wpAnyH_done (by kernel_rfl) ?_ _
    have HB := Lib.hid hHeld.1
    clear hHeld
    go_wp2_with fail
    go_ret
    exact ⟨rfl, HB.out⟩
end Go.Proofs.Ytahgkhcmchbpbaa
