/-
  What the statements stand on, part ZA17.
-/
import Derived.Test.YtnnapkakbdpkaaaGreatZA16
set_option linter.unusedVariables false
set_option linter.unusedSimpArgs false
namespace Go.Proofs.YtnnapkakbdpkaaaGreat
set_option maxRecDepth 20000
open Go.RowKit
structure Edu where
 kind : Int
 room : ByteArray
 user : ByteArray
 event : ByteArray
 thread : ByteArray
 priv : Bool
 on : Bool
 span : Int
 state : Int
 tick : Int
 stamp : Int
def Edu.val (e : Edu) : Value := .agg #[.int .i64 e.kind, .string e.room, .string e.user, .string e.event, .string e.thread, .bool e.priv, .bool e.on, .int .i64 e.span, .int .i64 e.state, .int .i64 e.tick, .int .i64 e.stamp]
def Edu.fits (e : Edu) : Prop := (-9223372036854775808 ≤ e.kind ∧ e.kind ≤ 9223372036854775807) ∧ (-9223372036854775808 ≤ e.span ∧ e.span ≤ 9223372036854775807) ∧ (-9223372036854775808 ≤ e.state ∧ e.state ≤ 9223372036854775807) ∧ (-9223372036854775808 ≤ e.tick ∧ e.tick ≤ 9223372036854775807) ∧ (-9223372036854775808 ≤ e.stamp ∧ e.stamp ≤ 9223372036854775807)
def evI (e : Edu) : Int := IntKind.i64.wrap ((e.event.size : Int) + aroundI e.tick 9)
theorem evI_bd (e : Edu) : -9223372036854775808 ≤ evI e ∧ evI e ≤ 9223372036854775807 := by
 unfold evI
 rw [IntKind.wrap_i64]
 omega
def good1 (e : Edu) : Edu := { kind := 1, room := roomS e.span, user := userS e.state, event := eventS (evI e), thread := threadS (e.thread.size : Int), priv := e.priv, on := false, span := 0, state := 0, tick := aroundI e.tick 100, stamp := aroundI e.stamp 9 }
def good2 (e : Edu) : Edu := { kind := 2, room := roomS e.span, user := userS e.state, event := ⟨#[]⟩, thread := ⟨#[]⟩, priv := false, on := e.on, span := if e.on then 1 + aroundI e.span 60 else 0, state := 0, tick := aroundI e.tick 100, stamp := aroundI e.stamp 9 }
def good3 (e : Edu) : Edu := { kind := 3, room := ⟨#[]⟩, user := userS e.state, event := ⟨#[]⟩, thread := ⟨#[]⟩, priv := false, on := false, span := 0, state := aroundI e.span 3, tick := aroundI e.tick 100, stamp := aroundI e.stamp 9 }
def goodE (e : Edu) : Edu := if aroundI e.kind 3 = 0 then good1 e else if aroundI e.kind 3 = 1 then good2 e else good3 e
theorem good_ways (e : Edu) : (aroundI e.kind 3 = 0 ∧ goodE e = good1 e) ∨ (aroundI e.kind 3 = 1 ∧ goodE e = good2 e) ∨ (aroundI e.kind 3 = 2 ∧ goodE e = good3 e) := by
 have hk := aroundI_bd e.kind 3 (by decide)
 unfold goodE
 by_cases h0 : aroundI e.kind 3 = 0
 ·exact .inl ⟨h0, by rw [if_pos h0]⟩
 ·by_cases h1 : aroundI e.kind 3 = 1
  ·exact .inr (.inl ⟨h1, by rw [if_neg h0, if_pos h1]⟩)
  ·exact .inr (.inr ⟨by omega, by rw [if_neg h0, if_neg h1]⟩)
def fewEd (e : Edu) : Edu := { e with room := fewS e.room 40, user := fewS e.user 40, event := fewS e.event 40, thread := fewS e.thread 40 }
def Edu.cells (e : Edu) : List Value := [.int .i64 e.kind, .string e.room, .string e.user, .string e.event, .string e.thread, .bool e.priv, .bool e.on, .int .i64 e.span, .int .i64 e.state, .int .i64 e.tick, .int .i64 e.stamp]
def Edu.well (e : Edu) : Prop := e.fits ∧ e.room.size ≤ maxLen ∧ e.user.size ≤ maxLen ∧ e.event.size ≤ maxLen ∧ e.thread.size ≤ maxLen
theorem cellsE_one (e : Edu) : ∀ u ∈ e.cells, u.oneCell' = true := by
 intro u hu
 simp only [Edu.cells, List.mem_cons, List.not_mem_nil, or_false] at hu
 rcases hu with rfl | rfl | rfl | rfl | rfl | rfl | rfl | rfl | rfl | rfl | rfl <;> rfl
theorem range11 {w : World} {b o : Nat} {e : Edu} (h : w.rangeAt b o e.cells) : w.cell? ⟨b, o, none⟩ = some (.int .i64 e.kind) ∧ w.cell? ⟨b, o + 1, none⟩ = some (.string e.room) ∧ w.cell? ⟨b, o + 2, none⟩ = some (.string e.user) ∧ w.cell? ⟨b, o + 3, none⟩ = some (.string e.event) ∧ w.cell? ⟨b, o + 4, none⟩ = some (.string e.thread) ∧ w.cell? ⟨b, o + 5, none⟩ = some (.bool e.priv) ∧ w.cell? ⟨b, o + 6, none⟩ = some (.bool e.on) ∧ w.cell? ⟨b, o + 7, none⟩ = some (.int .i64 e.span) ∧ w.cell? ⟨b, o + 8, none⟩ = some (.int .i64 e.state) ∧ w.cell? ⟨b, o + 9, none⟩ = some (.int .i64 e.tick) ∧ w.cell? ⟨b, o + 10, none⟩ = some (.int .i64 e.stamp) := ⟨h 0 _ rfl, h 1 _ rfl, h 2 _ rfl, h 3 _ rfl, h 4 _ rfl, h 5 _ rfl, h 6 _ rfl, h 7 _ rfl, h 8 _ rfl, h 9 _ rfl, h 10 _ rfl⟩
def eqE (a b : Edu) : Bool := (a.kind == b.kind) && ((a.room.toList == b.room.toList) && ((a.user.toList == b.user.toList) && ((a.event.toList == b.event.toList) && ((a.thread.toList == b.thread.toList) && ((a.priv == b.priv) && ((a.on == b.on) && ((a.span == b.span) && ((a.state == b.state) && ((a.tick == b.tick) && (a.stamp == b.stamp))))))))))
theorem toList_iff (a b : ByteArray) : a.toList = b.toList ↔ a = b := by
 constructor
 ·intro h
  rw [ByteArray.toList_eq, ByteArray.toList_eq] at h
  obtain ⟨⟨x⟩⟩ := a
  obtain ⟨⟨y⟩⟩ := b
  simp at h
  rw [h]
 ·rintro rfl
  rfl
theorem eqE_iff (a b : Edu) : eqE a b = true ↔ a = b := by
 unfold eqE
 obtain ⟨k, r, u, v, t, p, o, s, z, c, m⟩ := a
 obtain ⟨k', r', u', v', t', p', o', s', z', c', m'⟩ := b
 simp only [Bool.and_eq_true, beq_iff_eq, toList_iff, Edu.mk.injEq]
theorem eql_edu (a b : Edu) (w : World) : (Op.equalIn 10000 43 a.val b.val).run Tryz.prog w = .ok (eqE a b) w := by
 obtain ⟨k, r, u, v, t, p, o, s, z, c, m⟩ := a
 obtain ⟨k', r', u', v', t', p', o', s', z', c', m'⟩ := b
 simp only [Edu.val, eqE]
 go_simp
 repeat' split
 all_goals simp_all
theorem size_alloc1 (w : World) (a : Obj) : (w.alloc a).heap.size = w.heap.size + 1 := by simp
theorem at_two {w W : World} (a b : Obj) (h : (w.alloc a).alloc b = W) : W.heap[w.heap.size]? = some a ∧ W.heap[w.heap.size + 1]? = some b ∧ Below w.heap.size w W ∧ (w.heap.size < W.heap.size ∧ w.heap.size + 1 < W.heap.size) := by
 subst h
 have h1 := size_alloc1 w a
 have h2 := size_alloc1 (w.alloc a) b
 have e1 := heap_alloc_new (w.alloc a) b
 rw [h1] at e1
 exact ⟨((below_new (w.alloc a) b).block _ (by omega)).trans (heap_alloc_new w a), e1, ((Below.refl _ w).alloc (Nat.le_refl _) _).alloc (by omega) _, by omega, by omega⟩
theorem cells11 {w : World} {g : Nat} {t : TypeId} {x0 x1 x2 x3 x4 x5 x6 x7 x8 x9 x10 : Value} (h : w.heap[g]? = some (.cells #[x0, x1, x2, x3, x4, x5, x6, x7, x8, x9, x10] t (0, 0))) :
  w.cell? ⟨g, 0, none⟩ = some x0 ∧ w.cell? ⟨g, 1, none⟩ = some x1 ∧ w.cell? ⟨g, 2, none⟩ = some x2 ∧ w.cell? ⟨g, 3, none⟩ = some x3 ∧ w.cell? ⟨g, 4, none⟩ = some x4 ∧ w.cell? ⟨g, 5, none⟩ = some x5 ∧ w.cell? ⟨g, 6, none⟩ = some x6 ∧ w.cell? ⟨g, 7, none⟩ = some x7 ∧ w.cell? ⟨g, 8, none⟩ = some x8 ∧ w.cell? ⟨g, 9, none⟩ = some x9 ∧ w.cell? ⟨g, 10, none⟩ = some x10 :=
 ⟨cell_at h 0, cell_at h 1, cell_at h 2, cell_at h 3, cell_at h 4, cell_at h 5, cell_at h 6, cell_at h 7, cell_at h 8, cell_at h 9, cell_at h 10⟩
theorem one11 (k : Int) (r u v t : ByteArray) (p o : Bool) (s z c m : Int) : (#[.int .i64 k, .string r, .string u, .string v, .string t, .bool p, .bool o, .int .i64 s, .int .i64 z, .int .i64 c, .int .i64 m] : Array Value).all (·.oneCell') = true := by simp [Value.oneCell']
theorem edu_info : (Tryz.prog.info? 43).map (·.size) = some 11 := by kernel_rfl
def Two (w : World) (box : Array Value) (w' : World) : Prop := Below w.heap.size w w' ∧ w'.heap[w.heap.size]? = some (.cells box 43 (0, 0)) ∧ (∃ X : Array Value, X.size = 11 ∧ w'.heap[w.heap.size + 1]? = some (.cells X 43 (0, 0)))
theorem Two.later {w w' w'' : World} {box : Array Value} (h : Two w box w') (hb : Below w'.heap.size w' w'') : Two w box w'' := by
 obtain ⟨h1, h2, ⟨X, hX, h3⟩⟩ := h
 exact ⟨Go.Proofs.YtnnapkakbdpkaaaGreat.later h1 hb, (hb.block _ (heap_lt h2)).trans h2, ⟨X, hX, (hb.block _ (heap_lt h3)).trans h3⟩⟩
theorem Two.drew {w w' : World} {box : Array Value} (h : Two w box w') : Two w box w'.drew := ⟨h.1.drew, h.2⟩
theorem Two.set {w w' : World} {box new : Array Value} (h : Two w box w') (hn : new.size = 11) : Two w box (w'.setRow (w.heap.size + 1) new) := by
 obtain ⟨h1, h2, ⟨X, hX, h3⟩⟩ := h
 exact ⟨below_setRow h1 (by omega) _, by rw [setRow_other _ _ _ _ (by omega)]; exact h2, ⟨new, hn, setRow_heap _ _ _ _ _ _ h3⟩⟩
theorem two_new {w W : World} {a b : Array Value} (h : (w.alloc (.cells a 43)).alloc (.cells b 43) = W) (hb : b.size = 11) : Two w a W := by
 obtain ⟨e0, e1, h1, _⟩ := at_two _ _ h
 exact ⟨h1, e0, ⟨b, hb, e1⟩⟩
def Gd (w : World) (box : Array Value) (g : Nat) (cs : Array Value) (w' : World) : Prop := Two w box w' ∧ w'.heap[g]? = some (.cells cs 43 (0, 0)) ∧ w.heap.size + 1 < g
theorem Gd.later {w w' w'' : World} {box cs : Array Value} {g : Nat} (h : Gd w box g cs w') (hb : Below w'.heap.size w' w'') : Gd w box g cs w'' := ⟨h.1.later hb, (hb.block _ (heap_lt h.2.1)).trans h.2.1, h.2.2⟩
theorem Gd.drew {w w' : World} {box cs : Array Value} {g : Nat} (h : Gd w box g cs w') : Gd w box g cs w'.drew := ⟨h.1.drew, h.2⟩
theorem Gd.store {w w' : World} {box cs : Array Value} {g i : Nat} {u : Value} (h : Gd w box g cs w') : Gd w box g (cs.setIfInBounds i u) (w'.setCell ⟨g, i, none⟩ u) := by
 obtain ⟨⟨h1, h2, ⟨X, hX, h3⟩⟩, h4, h5⟩ := h
 exact ⟨⟨h1.setCell (by simp; omega) _, (Below.heap_setCell w' _ u _ (by simp; omega)).trans h2, ⟨X, hX, (Below.heap_setCell w' _ u _ (by simp; omega)).trans h3⟩⟩, heap_set h4 i u, h5⟩
theorem good1_def (e : Edu) : good1 e = ⟨1, roomS e.span, userS e.state, eventS (evI e), threadS (e.thread.size : Int), e.priv, false, 0, 0, aroundI e.tick 100, aroundI e.stamp 9⟩ := rfl
theorem good2_def (e : Edu) : good2 e = ⟨2, roomS e.span, userS e.state, ⟨#[]⟩, ⟨#[]⟩, false, e.on, bif e.on then 1 + aroundI e.span 60 else 0, 0, aroundI e.tick 100, aroundI e.stamp 9⟩ := by
 unfold good2
 cases e.on <;> rfl
theorem good3_def (e : Edu) : good3 e = ⟨3, ⟨#[]⟩, userS e.state, ⟨#[]⟩, ⟨#[]⟩, false, false, 0, aroundI e.span 3, aroundI e.tick 100, aroundI e.stamp 9⟩ := rfl
set_option maxHeartbeats 6400000 in
theorem good_any (e : Edu) (w : World) (hf : e.fits) (hv : e.event.size ≤ maxLen) (ht : e.thread.size ≤ maxLen) :
  Calls Tryz.prog 33 #[e.val] w fun x w' => x = .returned (goodE e).val ∧ Below w.heap.size w w' := by
 have HW := Lib.hid (good_ways e)
 obtain ⟨⟨k0, k1⟩, ⟨s0, s1⟩, ⟨z0, z1⟩, ⟨c0, c1⟩, ⟨m0, m1⟩⟩ := hf
 unfold maxLen at hv ht
 have b3 := aroundI_bd e.kind 3 (by decide)
 have b9 := aroundI_bd e.tick 9 (by decide)
 have b60 := aroundI_bd e.span 60 (by decide)
 have HU := Lib.hid (fun w => userOf_any e.state w z0 z1)
 have HR := Lib.hid (fun w => roomOf_any e.span w s0 s1)
 have HV := Lib.hid (fun w => eventOf_any (evI e) w (evI_bd e).1 (evI_bd e).2)
 have HT := Lib.hid (fun w => threadOf_any (e.thread.size : Int) w (by omega) (by omega))
 have Hk := Lib.hid (fun w => around_any e.kind 3 w k0 k1 (by decide) (by decide))
 have Hc := Lib.hid (fun w => around_any e.tick 100 w c0 c1 (by decide) (by decide))
 have Hm := Lib.hid (fun w => around_any e.stamp 9 w m0 m1 (by decide) (by decide))
 have Hc9 := Lib.hid (fun w => around_any e.tick 9 w c0 c1 (by decide) (by decide))
 have Hs60 := Lib.hid (fun w => around_any e.span 60 w s0 s1 (by decide) (by decide))
 have Hs3 := Lib.hid (fun w => around_any e.span 3 w s0 s1 (by decide) (by decide))
 have H1 := Lib.hid (good1_def e)
 have H2 := Lib.hid (good2_def e)
 have H3 := Lib.hid (good3_def e)
 have hev : IntKind.i64.wrap ((e.event.size : Int) + aroundI e.tick 9) = evI e := rfl
 generalize evI e = ev at *
 generalize goodE e = ge at *
 generalize good1 e = g1 at *
 generalize good2 e = g2 at *
 generalize good3 e = g3 at *
 obtain ⟨k, r, u, v, t, p, o, s, z, c, m⟩ := e
 simp only [Edu.val] at *
 generalize aroundI k 3 = a3 at *
 generalize aroundI c 100 = ac at *
 generalize aroundI m 9 = am at *
 generalize aroundI c 9 = a9 at *
 generalize aroundI s 60 = a60 at *
 generalize aroundI s 3 = as3 at *
 generalize userS z = us at *
 generalize roomS s = rs at *
 generalize eventS _ = vs at *
 generalize threadS _ = ts at *
 clear k0 k1 s0 s1 z0 z1 c0 c1 m0 m1
 go_enter Tryz.func33, Tryz.ntmps33
 go_upto_region 1 with (fail)
 generalize hW : ((w.alloc (.cells #[.int .i64 k, .string r, .string u, .string v, .string t, .bool p, .bool o, .int .i64 s, .int .i64 z, .int .i64 c, .int .i64 m] 43)).alloc (.cells #[.int .i64 0, .string ⟨#[]⟩, .string ⟨#[]⟩, .string ⟨#[]⟩, .string ⟨#[]⟩, .bool false, .bool false, .int .i64 0, .int .i64 0, .int .i64 0, .int .i64 0] 43)) = W
 have hTw := (two_new hW rfl).drew
 have hlW : w.heap.size + 1 < W.heap.size := by rw [← hW, size_alloc1, size_alloc1]; omega
 clear hW
 go_cut [3] (fun s3 wx => ∃ g, s3 = .pointer (some ⟨g, 0, none⟩) ∧ Hid (Gd w #[.int .i64 k, .string r, .string u, .string v, .string t, .bool p, .bool o, .int .i64 s, .int .i64 z, .int .i64 c, .int .i64 m] g #[.int .i64 (1 + a3), .string ⟨#[]⟩, .string us, .string ⟨#[]⟩, .string ⟨#[]⟩, .bool false, .bool false, .int .i64 0, .int .i64 0, .int .i64 ac, .int .i64 am] wx))
 case first =>
  refine wp_region_held_drew (S := fun w' => Two w #[.int .i64 k, .string r, .string u, .string v, .string t, .bool p, .bool o, .int .i64 s, .int .i64 z, .int .i64 c, .int .i64 m] w') (by kernel_rfl) hTw (fun hHeld => ?_)
  clear hTw
  replace hlW : w.heap.size + 1 < W.drew.heap.size := hlW
  generalize hwd : W.drew = wd at hHeld hlW ⊢
  clear hwd
  refine wpAnyH_take (i := 0) (oi := ⟨some 4, _, _, _, _, _⟩) (v := ?v0) rfl (by kernel_rfl) (by kernel_rfl) (by kernel_rfl) (fun _ _ _ h => h) (Or.inl ⟨by rfl, ?y0⟩) hHeld ?r0
  case y0 =>
   intro wx hSx
   go_simp
   try with_reducible rfl
  try simp only [actS]
  refine wpAnyH_take (i := 1) (oi := ⟨some 5, _, _, _, _, _⟩) (v := ?v1) rfl (by kernel_rfl) (by kernel_rfl) (by kernel_rfl) (fun _ _ _ h => h) (Or.inl ⟨by rfl, ?y1⟩) hHeld ?r1
  case y1 =>
   intro wx hSx
   obtain ⟨d0, d1, d2, d3, d4, d5, d6, d7, d8, d9, d10⟩ := cells11 hSx.2.1
   go_simp
   try with_reducible rfl
  try simp only [actS]
  refine anyH_asks (i := 2) (oi := ⟨some 6, _, _, _, _, _⟩) (v := .int .i64 a3) rfl (by kernel_rfl) (by kernel_rfl) (by kernel_rfl) (fun _ _ _ h => h) ⟨by rfl, fun wx hSx => ⟨_, _, ?e2, Hk.out _⟩⟩ hHeld ?r2
  case e2 => go_simp
  try simp only [actS]
  refine wpAnyH_take (i := 3) (oi := ⟨some 7, _, _, _, _, _⟩) (v := ?v3) rfl (by kernel_rfl) (by kernel_rfl) (by kernel_rfl) (fun _ _ _ h => h) (Or.inl ⟨by rfl, ?y3⟩) hHeld ?r3
  case y3 =>
   intro wx hSx
   have q := IntWalk.i64_in (1 + a3) (by omega)
   go_simp
   try with_reducible rfl
  try simp only [actS]
  refine wpAnyH_take (i := 4) (oi := ⟨some 8, _, _, _, _, _⟩) (v := ?v4) rfl (by kernel_rfl) (by kernel_rfl) (by kernel_rfl) (fun _ _ _ h => h) (Or.inl ⟨by rfl, ?y4⟩) hHeld ?r4
  case y4 =>
   intro wx hSx
   go_simp
   try with_reducible rfl
  try simp only [actS]
  refine wpAnyH_take (i := 5) (oi := ⟨some 9, _, _, _, _, _⟩) (v := ?v5) rfl (by kernel_rfl) (by kernel_rfl) (by kernel_rfl) (fun _ _ _ h => h) (Or.inl ⟨by rfl, ?y5⟩) hHeld ?r5
  case y5 =>
   intro wx hSx
   obtain ⟨d0, d1, d2, d3, d4, d5, d6, d7, d8, d9, d10⟩ := cells11 hSx.2.1
   go_simp
   try with_reducible rfl
  try simp only [actS]
  refine wpAnyH_take (i := 7) (oi := ⟨some 11, _, _, _, _, _⟩) (v := ?v7) rfl (by kernel_rfl) (by kernel_rfl) (by kernel_rfl) (fun _ _ _ h => h) (Or.inl ⟨by rfl, ?y7⟩) hHeld ?r7
  case y7 =>
   intro wx hSx
   go_simp
   try with_reducible rfl
  try simp only [actS]
  refine wpAnyH_take (i := 8) (oi := ⟨some 12, _, _, _, _, _⟩) (v := ?v8) rfl (by kernel_rfl) (by kernel_rfl) (by kernel_rfl) (fun _ _ _ h => h) (Or.inl ⟨by rfl, ?y8⟩) hHeld ?r8
  case y8 =>
   intro wx hSx
   obtain ⟨d0, d1, d2, d3, d4, d5, d6, d7, d8, d9, d10⟩ := cells11 hSx.2.1
   go_simp
   try with_reducible rfl
  try simp only [actS]
  refine wpAnyH_take (i := 10) (oi := ⟨some 14, _, _, _, _, _⟩) (v := ?v10) rfl (by kernel_rfl) (by kernel_rfl) (by kernel_rfl) (fun _ _ _ h => h) (Or.inl ⟨by rfl, ?y10⟩) hHeld ?r10
  case y10 =>
   intro wx hSx
   go_simp
   try with_reducible rfl
  try simp only [actS]
  refine wpAnyH_take (i := 11) (oi := ⟨some 15, _, _, _, _, _⟩) (v := ?v11) rfl (by kernel_rfl) (by kernel_rfl) (by kernel_rfl) (fun _ _ _ h => h) (Or.inl ⟨by rfl, ?y11⟩) hHeld ?r11
  case y11 =>
   intro wx hSx
   obtain ⟨d0, d1, d2, d3, d4, d5, d6, d7, d8, d9, d10⟩ := cells11 hSx.2.1
   go_simp
   try with_reducible rfl
  try simp only [actS]
  try rw [IntWalk.i64_in (1 + a3) (by omega)]
  refine wpAnyH_ready (rs := [6, 14]) (by kernel_rfl) (by simp) ?_
  refine AllReadyH.cons (o := ⟨some 10, _, _, _, _, _⟩) rfl (fun K hK => ?wayA) (AllReadyH.cons (o := ⟨some 3, _, _, _, _, _⟩) rfl (fun K hK => ?wayB) AllReadyH.nil)
  case wayA =>
   go_simp
   refine (HU.out _).mono ?_
   rintro e wn ⟨rfl, hbn⟩
   have hsz := hbn.size
   replace hHeld := hHeld.later hbn
   refine hK.out _ _ hHeld (fun _ => ?_)
   clear hK K hbn
   try simp only [actS]
   refine anyH_asks (i := 9) (oi := ⟨some 13, _, _, _, _, _⟩) (v := .int .i64 ac) rfl (by kernel_rfl) (by kernel_rfl) (by kernel_rfl) (fun _ _ _ h => h) ⟨by rfl, fun wx hSx => ⟨_, _, ?eA9, Hc.out _⟩⟩ hHeld ?rA9
   case eA9 => go_simp
   try simp only [actS]
   refine anyH_asks (i := 12) (oi := ⟨some 16, _, _, _, _, _⟩) (v := .int .i64 am) rfl (by kernel_rfl) (by kernel_rfl) (by kernel_rfl) (fun _ _ _ h => h) ⟨by rfl, fun wx hSx => ⟨_, _, ?eA12, Hm.out _⟩⟩ hHeld ?rA12
   case eA12 => go_simp
   try simp only [actS]
   refine wpAnyH_take (i := 13) (oi := ⟨some 17, _, _, _, _, _⟩) (v := ?vA13) rfl (by kernel_rfl) (by kernel_rfl) (by kernel_rfl) (fun _ _ _ h => h) (Or.inl ⟨by rfl, ?yA13⟩) hHeld ?rA13
   case yA13 =>
    intro wx hSx
    go_simp
    try with_reducible rfl
   try simp only [actS]
   refine wpAnyH_ready (rs := [14]) (by kernel_rfl) (by simp) ?_
   refine AllReadyH.cons (o := ⟨some 3, _, _, _, _, _⟩) rfl (fun K hK => ?_) AllReadyH.nil
   have hnew := heap_alloc_new wn (.cells #[.int .i64 0, .string ⟨#[]⟩, .string ⟨#[]⟩, .string ⟨#[]⟩, .string ⟨#[]⟩, .bool false, .bool false, .int .i64 0, .int .i64 0, .int .i64 0, .int .i64 0] 43)
   have hH := hHeld.later (below_new wn (.cells #[.int .i64 0, .string ⟨#[]⟩, .string ⟨#[]⟩, .string ⟨#[]⟩, .string ⟨#[]⟩, .bool false, .bool false, .int .i64 0, .int .i64 0, .int .i64 0, .int .i64 0] 43))
   go_simp
   refine hK.out _ _ hH (fun _ => ?_)
   replace hHeld := hH
   clear hK K hH
   try simp only [actS]
   generalize hW3 : World.alloc _ _ = W3 at hnew hHeld ⊢
   clear hW3
   have hgl : w.heap.size + 1 < wn.heap.size := by omega
   generalize hgg : wn.heap.size = g at hnew hgl ⊢
   clear hgg
   refine wpAnyH_ready (rs := [15]) (by kernel_rfl) (by simp) ?_
   refine AllReadyH.cons (o := ⟨none, _, _, _, _, _⟩) rfl (fun K hK => ?_) AllReadyH.nil
   rw [if_pos (by rfl)]
   refine wp_store_row 43 (.tmp 3) (.tmp 17) rfl g #[.int .i64 (1 + a3), .string ⟨#[]⟩, .string us, .string ⟨#[]⟩, .string ⟨#[]⟩, .bool false, .bool false, .int .i64 0, .int .i64 0, .int .i64 ac, .int .i64 am] rfl rfl 43 #[.int .i64 0, .string ⟨#[]⟩, .string ⟨#[]⟩, .string ⟨#[]⟩, .string ⟨#[]⟩, .bool false, .bool false, .int .i64 0, .int .i64 0, .int .i64 0, .int .i64 0] hnew edu_info rfl (one11 _ _ _ _ _ _ _ _ _ _ _) ?_
   have hset := setRow_heap _ _ _ #[.int .i64 (1 + a3), .string ⟨#[]⟩, .string us, .string ⟨#[]⟩, .string ⟨#[]⟩, .bool false, .bool false, .int .i64 0, .int .i64 0, .int .i64 ac, .int .i64 am] _ _ hnew
   obtain ⟨X, hX, hx3⟩ := hHeld.2.2
   have hH : Two w #[.int .i64 k, .string r, .string u, .string v, .string t, .bool p, .bool o, .int .i64 s, .int .i64 z, .int .i64 c, .int .i64 m] _ := ⟨below_setRow (g := g) hHeld.1 (by omega) #[.int .i64 (1 + a3), .string ⟨#[]⟩, .string us, .string ⟨#[]⟩, .string ⟨#[]⟩, .bool false, .bool false, .int .i64 0, .int .i64 0, .int .i64 ac, .int .i64 am], by rw [setRow_other _ g _ _ (by omega)]; exact hHeld.2.1, ⟨X, hX, by rw [setRow_other _ g _ _ (by omega)]; exact hx3⟩⟩
   refine hK.out _ _ hH (fun _ => ?_)
   replace hHeld := hH
   clear hK K hH hx3
   try simp only [actS]
   generalize hW2 : World.setRow _ _ _ = W2 at hset hHeld ⊢
   clear hW2
   refine wpAnyH_done (by kernel_rfl) ?_ _
   have HG := Lib.hid (show Gd w #[.int .i64 k, .string r, .string u, .string v, .string t, .bool p, .bool o, .int .i64 s, .int .i64 z, .int .i64 c, .int .i64 m] g #[.int .i64 (1 + a3), .string ⟨#[]⟩, .string us, .string ⟨#[]⟩, .string ⟨#[]⟩, .bool false, .bool false, .int .i64 0, .int .i64 0, .int .i64 ac, .int .i64 am] W2 from ⟨hHeld, hset, hgl⟩)
   clear hHeld hset
   go_wp2_with fail
   go_meet
   exact ⟨g, rfl, HG⟩
  case wayB =>
   have hnew := heap_alloc_new wd (.cells #[.int .i64 0, .string ⟨#[]⟩, .string ⟨#[]⟩, .string ⟨#[]⟩, .string ⟨#[]⟩, .bool false, .bool false, .int .i64 0, .int .i64 0, .int .i64 0, .int .i64 0] 43)
   have hH := hHeld.later (below_new wd (.cells #[.int .i64 0, .string ⟨#[]⟩, .string ⟨#[]⟩, .string ⟨#[]⟩, .string ⟨#[]⟩, .bool false, .bool false, .int .i64 0, .int .i64 0, .int .i64 0, .int .i64 0] 43))
   go_simp
   refine hK.out _ _ hH (fun _ => ?_)
   replace hHeld := hH
   clear hK K hH
   try simp only [actS]
   generalize hW3 : World.alloc _ _ = W3 at hnew hHeld ⊢
   clear hW3
   have hgl : w.heap.size + 1 < wd.heap.size := by omega
   generalize hgg : wd.heap.size = g at hnew hgl ⊢
   clear hgg
   refine wpAnyH_ready (rs := [6]) (by kernel_rfl) (by simp) ?_
   refine AllReadyH.cons (o := ⟨some 10, _, _, _, _, _⟩) rfl (fun K hK => ?_) AllReadyH.nil
   go_simp
   refine (HU.out _).mono ?_
   rintro e wn ⟨rfl, hbn⟩
   replace hnew := (hbn.block _ (heap_lt hnew)).trans hnew
   have hsz := hbn.size
   replace hHeld := hHeld.later hbn
   refine hK.out _ _ hHeld (fun _ => ?_)
   clear hK K hbn
   try simp only [actS]
   refine anyH_asks (i := 9) (oi := ⟨some 13, _, _, _, _, _⟩) (v := .int .i64 ac) rfl (by kernel_rfl) (by kernel_rfl) (by kernel_rfl) (fun _ _ _ h => h) ⟨by rfl, fun wx hSx => ⟨_, _, ?eB9, Hc.out _⟩⟩ hHeld ?rB9
   case eB9 => go_simp
   try simp only [actS]
   refine anyH_asks (i := 12) (oi := ⟨some 16, _, _, _, _, _⟩) (v := .int .i64 am) rfl (by kernel_rfl) (by kernel_rfl) (by kernel_rfl) (fun _ _ _ h => h) ⟨by rfl, fun wx hSx => ⟨_, _, ?eB12, Hm.out _⟩⟩ hHeld ?rB12
   case eB12 => go_simp
   try simp only [actS]
   refine wpAnyH_take (i := 13) (oi := ⟨some 17, _, _, _, _, _⟩) (v := ?vB13) rfl (by kernel_rfl) (by kernel_rfl) (by kernel_rfl) (fun _ _ _ h => h) (Or.inl ⟨by rfl, ?yB13⟩) hHeld ?rB13
   case yB13 =>
    intro wx hSx
    go_simp
    try with_reducible rfl
   try simp only [actS]
   refine wpAnyH_ready (rs := [15]) (by kernel_rfl) (by simp) ?_
   refine AllReadyH.cons (o := ⟨none, _, _, _, _, _⟩) rfl (fun K hK => ?_) AllReadyH.nil
   rw [if_pos (by rfl)]
   refine wp_store_row 43 (.tmp 3) (.tmp 17) rfl g #[.int .i64 (1 + a3), .string ⟨#[]⟩, .string us, .string ⟨#[]⟩, .string ⟨#[]⟩, .bool false, .bool false, .int .i64 0, .int .i64 0, .int .i64 ac, .int .i64 am] rfl rfl 43 #[.int .i64 0, .string ⟨#[]⟩, .string ⟨#[]⟩, .string ⟨#[]⟩, .string ⟨#[]⟩, .bool false, .bool false, .int .i64 0, .int .i64 0, .int .i64 0, .int .i64 0] hnew edu_info rfl (one11 _ _ _ _ _ _ _ _ _ _ _) ?_
   have hset := setRow_heap _ _ _ #[.int .i64 (1 + a3), .string ⟨#[]⟩, .string us, .string ⟨#[]⟩, .string ⟨#[]⟩, .bool false, .bool false, .int .i64 0, .int .i64 0, .int .i64 ac, .int .i64 am] _ _ hnew
   obtain ⟨X, hX, hx3⟩ := hHeld.2.2
   have hH : Two w #[.int .i64 k, .string r, .string u, .string v, .string t, .bool p, .bool o, .int .i64 s, .int .i64 z, .int .i64 c, .int .i64 m] _ := ⟨below_setRow (g := g) hHeld.1 (by omega) #[.int .i64 (1 + a3), .string ⟨#[]⟩, .string us, .string ⟨#[]⟩, .string ⟨#[]⟩, .bool false, .bool false, .int .i64 0, .int .i64 0, .int .i64 ac, .int .i64 am], by rw [setRow_other _ g _ _ (by omega)]; exact hHeld.2.1, ⟨X, hX, by rw [setRow_other _ g _ _ (by omega)]; exact hx3⟩⟩
   refine hK.out _ _ hH (fun _ => ?_)
   replace hHeld := hH
   clear hK K hH hx3
   try simp only [actS]
   generalize hW2 : World.setRow _ _ _ = W2 at hset hHeld ⊢
   clear hW2
   refine wpAnyH_done (by kernel_rfl) ?_ _
   have HG := Lib.hid (show Gd w #[.int .i64 k, .string r, .string u, .string v, .string t, .bool p, .bool o, .int .i64 s, .int .i64 z, .int .i64 c, .int .i64 m] g #[.int .i64 (1 + a3), .string ⟨#[]⟩, .string us, .string ⟨#[]⟩, .string ⟨#[]⟩, .bool false, .bool false, .int .i64 0, .int .i64 0, .int .i64 ac, .int .i64 am] W2 from ⟨hHeld, hset, hgl⟩)
   clear hHeld hset
   go_wp2_with fail
   go_meet
   exact ⟨g, rfl, HG⟩
 case rest =>
  obtain ⟨g, rfl, HG⟩ := hcut
  clear hTw hlW W
  rcases HW.out with ⟨h3, hge⟩ | ⟨h3, hge⟩ | ⟨h3, hge⟩
  ·subst h3
   replace HG := Lib.hid (show Gd w #[.int .i64 k, .string r, .string u, .string v, .string t, .bool p, .bool o, .int .i64 s, .int .i64 z, .int .i64 c, .int .i64 m] g #[.int .i64 1, .string ⟨#[]⟩, .string us, .string ⟨#[]⟩, .string ⟨#[]⟩, .bool false, .bool false, .int .i64 0, .int .i64 0, .int .i64 ac, .int .i64 am] wc from HG.out)
   obtain ⟨d0, d1, d2, d3, d4, d5, d6, d7, d8, d9, d10⟩ := cells11 HG.out.1.2.1
   obtain ⟨f0, f1, f2, f3, f4, f5, f6, f7, f8, f9, f10⟩ := cells11 HG.out.2.1
   go_wp2_with fail
   clear d0 d1 d2 d3 d4 d5 d6 d7 d8 d9 d10 f0 f1 f2 f3 f4 f5 f6 f7 f8 f9 f10 
   refine (HR.out _).mono ?_
   rintro e w1 ⟨rfl, hb1⟩
   replace HG := Lib.hid (HG.out.later hb1)
   clear hb1 wc
   obtain ⟨d0, d1, d2, d3, d4, d5, d6, d7, d8, d9, d10⟩ := cells11 HG.out.1.2.1
   obtain ⟨f0, f1, f2, f3, f4, f5, f6, f7, f8, f9, f10⟩ := cells11 HG.out.2.1
   have fr1 := free_at HG.out.2.1 1
   go_upto_region 6 with (fail)
   clear d0 d1 d2 d3 d4 d5 d6 d7 d8 d9 d10 f0 f1 f2 f3 f4 f5 f6 f7 f8 f9 f10 fr1
   replace HG := Lib.hid (show Gd w #[.int .i64 k, .string r, .string u, .string v, .string t, .bool p, .bool o, .int .i64 s, .int .i64 z, .int .i64 c, .int .i64 m] g #[.int .i64 1, .string rs, .string us, .string ⟨#[]⟩, .string ⟨#[]⟩, .bool false, .bool false, .int .i64 0, .int .i64 0, .int .i64 ac, .int .i64 am] (w1.setCell ⟨g, 1, none⟩ (.string rs)) from (HG.out.store (i := 1) (u := .string rs)))
   generalize hWs : (w1.setCell ⟨g, 1, none⟩ (.string rs)) = ws1 at HG ⊢
   clear hWs
   refine wp_region_held_drew (S := fun w' => ∃ cs, Gd w #[.int .i64 k, .string r, .string u, .string v, .string t, .bool p, .bool o, .int .i64 s, .int .i64 z, .int .i64 c, .int .i64 m] g cs w') (by kernel_rfl) ⟨_, HG.out.drew⟩ (fun hHeld => ?_)
   replace HG := Lib.hid HG.out.drew
   generalize hwd : ws1.drew = wd at HG hHeld ⊢
   clear hwd
   refine wpAnyH_take (i := 0) (oi := ⟨some 30, _, _, _, _, _⟩) (v := ?ve0) rfl (by kernel_rfl) (by kernel_rfl) (by kernel_rfl) (fun _ _ _ h => h) (Or.inl ⟨by rfl, ?ye0⟩) hHeld ?re0
   case ye0 =>
    intro wx hSx
    go_simp
    try with_reducible rfl
   try simp only [actS]
   refine wpAnyH_take (i := 1) (oi := ⟨some 31, _, _, _, _, _⟩) (v := ?ve1) rfl (by kernel_rfl) (by kernel_rfl) (by kernel_rfl) (fun _ _ _ h => h) (Or.inl ⟨by rfl, ?ye1⟩) hHeld ?re1
   case ye1 =>
    intro wx hSx
    obtain ⟨cs, hcs⟩ := hSx
    obtain ⟨d0, d1, d2, d3, d4, d5, d6, d7, d8, d9, d10⟩ := cells11 hcs.1.2.1
    go_simp
    try with_reducible rfl
   try simp only [actS]
   refine wpAnyH_take (i := 2) (oi := ⟨some 32, _, _, _, _, _⟩) (v := ?ve2) rfl (by kernel_rfl) (by kernel_rfl) (by kernel_rfl) (fun _ _ _ h => h) (Or.inl ⟨by rfl, ?ye2⟩) hHeld ?re2
   case ye2 =>
    intro wx hSx
    go_simp
    try with_reducible rfl
   try simp only [actS]
   refine wpAnyH_take (i := 3) (oi := ⟨some 33, _, _, _, _, _⟩) (v := ?ve3) rfl (by kernel_rfl) (by kernel_rfl) (by kernel_rfl) (fun _ _ _ h => h) (Or.inl ⟨by rfl, ?ye3⟩) hHeld ?re3
   case ye3 =>
    intro wx hSx
    go_simp
    try with_reducible rfl
   try simp only [actS]
   refine wpAnyH_take (i := 4) (oi := ⟨some 34, _, _, _, _, _⟩) (v := ?ve4) rfl (by kernel_rfl) (by kernel_rfl) (by kernel_rfl) (fun _ _ _ h => h) (Or.inl ⟨by rfl, ?ye4⟩) hHeld ?re4
   case ye4 =>
    intro wx hSx
    obtain ⟨cs, hcs⟩ := hSx
    obtain ⟨d0, d1, d2, d3, d4, d5, d6, d7, d8, d9, d10⟩ := cells11 hcs.1.2.1
    go_simp
    try with_reducible rfl
   try simp only [actS]
   refine anyH_asks (i := 5) (oi := ⟨some 35, _, _, _, _, _⟩) (v := .int .i64 a9) rfl (by kernel_rfl) (by kernel_rfl) (by kernel_rfl) (fun _ _ _ h => h) ⟨by rfl, fun wx hSx => ⟨_, _, ?ee5, Hc9.out _⟩⟩ hHeld ?re5
   case ee5 => go_simp
   try simp only [actS]
   refine wpAnyH_take (i := 6) (oi := ⟨some 36, _, _, _, _, _⟩) (v := ?ve6) rfl (by kernel_rfl) (by kernel_rfl) (by kernel_rfl) (fun _ _ _ h => h) (Or.inl ⟨by rfl, ?ye6⟩) hHeld ?re6
   case ye6 =>
    intro wx hSx
    have q := hev
    go_simp
    try with_reducible rfl
   try simp only [actS]
   try rw [hev]
   refine wpAnyH_ready (rs := [7]) (by kernel_rfl) (by simp) ?_
   refine AllReadyH.cons (o := ⟨some 37, _, _, _, _, _⟩) rfl (fun K hK => ?_) AllReadyH.nil
   go_simp
   refine (HV.out _).mono ?_
   rintro e wn ⟨rfl, hbn⟩
   replace HG := Lib.hid (HG.out.later hbn)
   refine hK.out _ _ ⟨_, HG.out⟩ (fun hHeld => ?_)
   clear hK K hbn
   try simp only [actS]
   refine wpAnyH_take (i := 8) (oi := ⟨some 38, _, _, _, _, _⟩) (v := ?ve8) rfl (by kernel_rfl) (by kernel_rfl) (by kernel_rfl) (fun _ _ _ h => h) (Or.inl ⟨by rfl, ?ye8⟩) hHeld ?re8
   case ye8 =>
    intro wx hSx
    go_simp
    try with_reducible rfl
   try simp only [actS]
   have hcell : wn.cell? ⟨g, 3, none⟩ = some (.string ⟨#[]⟩) := cell_at HG.out.2.1 3
   have hfr := free_at HG.out.2.1 3
   refine wpAnyH_ready (rs := [9]) (by kernel_rfl) (by simp) ?_
   refine AllReadyH.cons (o := ⟨none, _, _, _, _, _⟩) rfl (fun K hK => ?_) AllReadyH.nil
   go_simp
   replace HG := Lib.hid (show Gd w #[.int .i64 k, .string r, .string u, .string v, .string t, .bool p, .bool o, .int .i64 s, .int .i64 z, .int .i64 c, .int .i64 m] g #[.int .i64 1, .string rs, .string us, .string vs, .string ⟨#[]⟩, .bool false, .bool false, .int .i64 0, .int .i64 0, .int .i64 ac, .int .i64 am] (wn.setCell ⟨g, 3, none⟩ (.string vs)) from HG.out.store)
   refine hK.out _ _ ⟨_, HG.out⟩ (fun _ => ?_)
   clear hK K hcell hfr
   try simp only [actS]
   generalize hWs : (wn.setCell ⟨g, 3, none⟩ (.string vs)) = wv at HG ⊢
   clear hWs
   refine wpAnyH_done (by kernel_rfl) ?_ _
   obtain ⟨d0, d1, d2, d3, d4, d5, d6, d7, d8, d9, d10⟩ := cells11 HG.out.1.2.1
   obtain ⟨f0, f1, f2, f3, f4, f5, f6, f7, f8, f9, f10⟩ := cells11 HG.out.2.1
   go_wp2_with fail
   clear d0 d1 d2 d3 d4 d5 d6 d7 d8 d9 d10 f0 f1 f2 f3 f4 f5 f6 f7 f8 f9 f10 
   refine (HT.out _).mono ?_
   rintro e w5 ⟨rfl, hb5⟩
   replace HG := Lib.hid (HG.out.later hb5)
   clear hb5
   obtain ⟨d0, d1, d2, d3, d4, d5, d6, d7, d8, d9, d10⟩ := cells11 HG.out.1.2.1
   obtain ⟨f0, f1, f2, f3, f4, f5, f6, f7, f8, f9, f10⟩ := cells11 HG.out.2.1
   have fr4 := free_at HG.out.2.1 4
   have fr5 := free_at HG.out.2.1 5
   go_upto_region 14 with (fail)
   clear d0 d1 d2 d3 d4 d5 d6 d7 d8 d9 d10 f0 f1 f2 f3 f4 f5 f6 f7 f8 f9 f10 fr4 fr5
   replace HG := Lib.hid (show Gd w #[.int .i64 k, .string r, .string u, .string v, .string t, .bool p, .bool o, .int .i64 s, .int .i64 z, .int .i64 c, .int .i64 m] g #[.int .i64 1, .string rs, .string us, .string vs, .string ts, .bool p, .bool false, .int .i64 0, .int .i64 0, .int .i64 ac, .int .i64 am] ((w5.setCell ⟨g, 4, none⟩ (.string ts)).setCell ⟨g, 5, none⟩ (.bool p)) from ((HG.out.store (i := 4) (u := .string ts)).store (i := 5) (u := .bool p)))
   generalize hWs : ((w5.setCell ⟨g, 4, none⟩ (.string ts)).setCell ⟨g, 5, none⟩ (.bool p)) = ws2 at HG ⊢
   clear hWs
   obtain ⟨X, hX, hx3⟩ := HG.out.1.2.2
   have Hset := Lib.hid (setRow_heap _ _ _ #[.int .i64 1, .string rs, .string us, .string vs, .string ts, .bool p, .bool false, .int .i64 0, .int .i64 0, .int .i64 ac, .int .i64 am] _ _ hx3)
   have HB := Lib.hid (HG.out.1.set (new := #[.int .i64 1, .string rs, .string us, .string vs, .string ts, .bool p, .bool false, .int .i64 0, .int .i64 0, .int .i64 ac, .int .i64 am]) rfl).1
   replace hx3 := Lib.hid hx3
   obtain ⟨f0, f1, f2, f3, f4, f5, f6, f7, f8, f9, f10⟩ := cells11 HG.out.2.1
   go_wp2_with (refine wpList_store_row rfl 43 (.tmp 2) (.tmp 63) rfl (w.heap.size + 1) #[.int .i64 1, .string rs, .string us, .string vs, .string ts, .bool p, .bool false, .int .i64 0, .int .i64 0, .int .i64 ac, .int .i64 am] rfl rfl 43 X hx3.out edu_info (hX.trans rfl) (one11 _ _ _ _ _ _ _ _ _ _ _) ?_)
   generalize hW2 : World.setRow _ _ _ = W2 at Hset HB ⊢
   clear hW2 f0 f1 f2 f3 f4 f5 f6 f7 f8 f9 f10
   obtain ⟨d0, d1, d2, d3, d4, d5, d6, d7, d8, d9, d10⟩ := cells11 Hset.out
   go_wp2_with fail
   refine bodyPost_ret (v := .agg #[.int .i64 1, .string rs, .string us, .string vs, .string ts, .bool p, .bool false, .int .i64 0, .int .i64 0, .int .i64 ac, .int .i64 am]) ?_ rfl ⟨?_, HB.out⟩
   ·simp [results, Tryz.results33, go_sem, d0, d1, d2, d3, d4, d5, d6, d7, d8, d9, d10]
   ·rw [hge, H1.out]; try rfl
  ·subst h3
   replace HG := Lib.hid (show Gd w #[.int .i64 k, .string r, .string u, .string v, .string t, .bool p, .bool o, .int .i64 s, .int .i64 z, .int .i64 c, .int .i64 m] g #[.int .i64 2, .string ⟨#[]⟩, .string us, .string ⟨#[]⟩, .string ⟨#[]⟩, .bool false, .bool false, .int .i64 0, .int .i64 0, .int .i64 ac, .int .i64 am] wc from HG.out)
   cases o
   ·obtain ⟨d0, d1, d2, d3, d4, d5, d6, d7, d8, d9, d10⟩ := cells11 HG.out.1.2.1
    obtain ⟨f0, f1, f2, f3, f4, f5, f6, f7, f8, f9, f10⟩ := cells11 HG.out.2.1
    go_wp2_with fail
    clear d0 d1 d2 d3 d4 d5 d6 d7 d8 d9 d10 f0 f1 f2 f3 f4 f5 f6 f7 f8 f9 f10 
    refine (HR.out _).mono ?_
    rintro e w1 ⟨rfl, hb1⟩
    replace HG := Lib.hid (HG.out.later hb1)
    clear hb1 wc
    obtain ⟨d0, d1, d2, d3, d4, d5, d6, d7, d8, d9, d10⟩ := cells11 HG.out.1.2.1
    obtain ⟨f0, f1, f2, f3, f4, f5, f6, f7, f8, f9, f10⟩ := cells11 HG.out.2.1
    have fr1 := free_at HG.out.2.1 1
    have fr6 := free_at HG.out.2.1 6
    go_upto_region 12 with (fail)
    clear d0 d1 d2 d3 d4 d5 d6 d7 d8 d9 d10 f0 f1 f2 f3 f4 f5 f6 f7 f8 f9 f10 fr1 fr6
    replace HG := Lib.hid (show Gd w #[.int .i64 k, .string r, .string u, .string v, .string t, .bool p, .bool false, .int .i64 s, .int .i64 z, .int .i64 c, .int .i64 m] g #[.int .i64 2, .string rs, .string us, .string ⟨#[]⟩, .string ⟨#[]⟩, .bool false, .bool false, .int .i64 0, .int .i64 0, .int .i64 ac, .int .i64 am] ((w1.setCell ⟨g, 1, none⟩ (.string rs)).setCell ⟨g, 6, none⟩ (.bool false)) from ((HG.out.store (i := 1) (u := .string rs)).store (i := 6) (u := .bool false)))
    generalize hWs : ((w1.setCell ⟨g, 1, none⟩ (.string rs)).setCell ⟨g, 6, none⟩ (.bool false)) = ws3 at HG ⊢
    clear hWs
    obtain ⟨d0, d1, d2, d3, d4, d5, d6, d7, d8, d9, d10⟩ := cells11 HG.out.1.2.1
    obtain ⟨f0, f1, f2, f3, f4, f5, f6, f7, f8, f9, f10⟩ := cells11 HG.out.2.1
    go_upto_region 14 with (fail)
    clear d0 d1 d2 d3 d4 d5 d6 d7 d8 d9 d10 f0 f1 f2 f3 f4 f5 f6 f7 f8 f9 f10 
    obtain ⟨X, hX, hx3⟩ := HG.out.1.2.2
    have Hset := Lib.hid (setRow_heap _ _ _ #[.int .i64 2, .string rs, .string us, .string ⟨#[]⟩, .string ⟨#[]⟩, .bool false, .bool false, .int .i64 0, .int .i64 0, .int .i64 ac, .int .i64 am] _ _ hx3)
    have HB := Lib.hid (HG.out.1.set (new := #[.int .i64 2, .string rs, .string us, .string ⟨#[]⟩, .string ⟨#[]⟩, .bool false, .bool false, .int .i64 0, .int .i64 0, .int .i64 ac, .int .i64 am]) rfl).1
    replace hx3 := Lib.hid hx3
    obtain ⟨f0, f1, f2, f3, f4, f5, f6, f7, f8, f9, f10⟩ := cells11 HG.out.2.1
    go_wp2_with (refine wpList_store_row rfl 43 (.tmp 2) (.tmp 63) rfl (w.heap.size + 1) #[.int .i64 2, .string rs, .string us, .string ⟨#[]⟩, .string ⟨#[]⟩, .bool false, .bool false, .int .i64 0, .int .i64 0, .int .i64 ac, .int .i64 am] rfl rfl 43 X hx3.out edu_info (hX.trans rfl) (one11 _ _ _ _ _ _ _ _ _ _ _) ?_)
    generalize hW2 : World.setRow _ _ _ = W2 at Hset HB ⊢
    clear hW2 f0 f1 f2 f3 f4 f5 f6 f7 f8 f9 f10
    obtain ⟨d0, d1, d2, d3, d4, d5, d6, d7, d8, d9, d10⟩ := cells11 Hset.out
    go_wp2_with fail
    refine bodyPost_ret (v := .agg #[.int .i64 2, .string rs, .string us, .string ⟨#[]⟩, .string ⟨#[]⟩, .bool false, .bool false, .int .i64 0, .int .i64 0, .int .i64 ac, .int .i64 am]) ?_ rfl ⟨?_, HB.out⟩
    ·simp [results, Tryz.results33, go_sem, d0, d1, d2, d3, d4, d5, d6, d7, d8, d9, d10]
    ·rw [hge, H2.out]; try rfl
   ·obtain ⟨d0, d1, d2, d3, d4, d5, d6, d7, d8, d9, d10⟩ := cells11 HG.out.1.2.1
    obtain ⟨f0, f1, f2, f3, f4, f5, f6, f7, f8, f9, f10⟩ := cells11 HG.out.2.1
    go_wp2_with fail
    clear d0 d1 d2 d3 d4 d5 d6 d7 d8 d9 d10 f0 f1 f2 f3 f4 f5 f6 f7 f8 f9 f10 
    refine (HR.out _).mono ?_
    rintro e w1 ⟨rfl, hb1⟩
    replace HG := Lib.hid (HG.out.later hb1)
    clear hb1 wc
    obtain ⟨d0, d1, d2, d3, d4, d5, d6, d7, d8, d9, d10⟩ := cells11 HG.out.1.2.1
    obtain ⟨f0, f1, f2, f3, f4, f5, f6, f7, f8, f9, f10⟩ := cells11 HG.out.2.1
    have fr1 := free_at HG.out.2.1 1
    have fr6 := free_at HG.out.2.1 6
    go_upto_region 12 with (fail)
    clear d0 d1 d2 d3 d4 d5 d6 d7 d8 d9 d10 f0 f1 f2 f3 f4 f5 f6 f7 f8 f9 f10 fr1 fr6
    replace HG := Lib.hid (show Gd w #[.int .i64 k, .string r, .string u, .string v, .string t, .bool p, .bool true, .int .i64 s, .int .i64 z, .int .i64 c, .int .i64 m] g #[.int .i64 2, .string rs, .string us, .string ⟨#[]⟩, .string ⟨#[]⟩, .bool false, .bool true, .int .i64 0, .int .i64 0, .int .i64 ac, .int .i64 am] ((w1.setCell ⟨g, 1, none⟩ (.string rs)).setCell ⟨g, 6, none⟩ (.bool true)) from ((HG.out.store (i := 1) (u := .string rs)).store (i := 6) (u := .bool true)))
    generalize hWs : ((w1.setCell ⟨g, 1, none⟩ (.string rs)).setCell ⟨g, 6, none⟩ (.bool true)) = ws4 at HG ⊢
    clear hWs
    obtain ⟨d0, d1, d2, d3, d4, d5, d6, d7, d8, d9, d10⟩ := cells11 HG.out.1.2.1
    obtain ⟨f0, f1, f2, f3, f4, f5, f6, f7, f8, f9, f10⟩ := cells11 HG.out.2.1
    have fr7 := free_at HG.out.2.1 7
    go_wp2_with fail
    refine (Hs60.out _).mono ?_
    rintro e wz ⟨rfl, rfl⟩
    have q60 := IntWalk.i64_in (1 + a60) (by omega)
    go_upto_region 14 with (fail)
    try rw [q60]
    clear d0 d1 d2 d3 d4 d5 d6 d7 d8 d9 d10 f0 f1 f2 f3 f4 f5 f6 f7 f8 f9 f10 fr7
    replace HG := Lib.hid (show Gd w #[.int .i64 k, .string r, .string u, .string v, .string t, .bool p, .bool true, .int .i64 s, .int .i64 z, .int .i64 c, .int .i64 m] g #[.int .i64 2, .string rs, .string us, .string ⟨#[]⟩, .string ⟨#[]⟩, .bool false, .bool true, .int .i64 (1 + a60), .int .i64 0, .int .i64 ac, .int .i64 am] (ws4.setCell ⟨g, 7, none⟩ (.int .i64 (1 + a60))) from (HG.out.store (i := 7) (u := .int .i64 (1 + a60))))
    generalize hWs : (ws4.setCell ⟨g, 7, none⟩ (.int .i64 (1 + a60))) = ws5 at HG ⊢
    clear hWs
    obtain ⟨X, hX, hx3⟩ := HG.out.1.2.2
    have Hset := Lib.hid (setRow_heap _ _ _ #[.int .i64 2, .string rs, .string us, .string ⟨#[]⟩, .string ⟨#[]⟩, .bool false, .bool true, .int .i64 (1 + a60), .int .i64 0, .int .i64 ac, .int .i64 am] _ _ hx3)
    have HB := Lib.hid (HG.out.1.set (new := #[.int .i64 2, .string rs, .string us, .string ⟨#[]⟩, .string ⟨#[]⟩, .bool false, .bool true, .int .i64 (1 + a60), .int .i64 0, .int .i64 ac, .int .i64 am]) rfl).1
    replace hx3 := Lib.hid hx3
    obtain ⟨f0, f1, f2, f3, f4, f5, f6, f7, f8, f9, f10⟩ := cells11 HG.out.2.1
    go_wp2_with (refine wpList_store_row rfl 43 (.tmp 2) (.tmp 63) rfl (w.heap.size + 1) #[.int .i64 2, .string rs, .string us, .string ⟨#[]⟩, .string ⟨#[]⟩, .bool false, .bool true, .int .i64 (1 + a60), .int .i64 0, .int .i64 ac, .int .i64 am] rfl rfl 43 X hx3.out edu_info (hX.trans rfl) (one11 _ _ _ _ _ _ _ _ _ _ _) ?_)
    generalize hW2 : World.setRow _ _ _ = W2 at Hset HB ⊢
    clear hW2 f0 f1 f2 f3 f4 f5 f6 f7 f8 f9 f10
    obtain ⟨d0, d1, d2, d3, d4, d5, d6, d7, d8, d9, d10⟩ := cells11 Hset.out
    go_wp2_with fail
    refine bodyPost_ret (v := .agg #[.int .i64 2, .string rs, .string us, .string ⟨#[]⟩, .string ⟨#[]⟩, .bool false, .bool true, .int .i64 (1 + a60), .int .i64 0, .int .i64 ac, .int .i64 am]) ?_ rfl ⟨?_, HB.out⟩
    ·simp [results, Tryz.results33, go_sem, d0, d1, d2, d3, d4, d5, d6, d7, d8, d9, d10]
    ·rw [hge, H2.out]; try rfl
  ·subst h3
   replace HG := Lib.hid (show Gd w #[.int .i64 k, .string r, .string u, .string v, .string t, .bool p, .bool o, .int .i64 s, .int .i64 z, .int .i64 c, .int .i64 m] g #[.int .i64 3, .string ⟨#[]⟩, .string us, .string ⟨#[]⟩, .string ⟨#[]⟩, .bool false, .bool false, .int .i64 0, .int .i64 0, .int .i64 ac, .int .i64 am] wc from HG.out)
   obtain ⟨d0, d1, d2, d3, d4, d5, d6, d7, d8, d9, d10⟩ := cells11 HG.out.1.2.1
   obtain ⟨f0, f1, f2, f3, f4, f5, f6, f7, f8, f9, f10⟩ := cells11 HG.out.2.1
   have fr8 := free_at HG.out.2.1 8
   go_wp2_with fail
   refine (Hs3.out _).mono ?_
   rintro e wz ⟨rfl, rfl⟩
   go_upto_region 14 with (fail)
   clear d0 d1 d2 d3 d4 d5 d6 d7 d8 d9 d10 f0 f1 f2 f3 f4 f5 f6 f7 f8 f9 f10 fr8
   replace HG := Lib.hid (show Gd w #[.int .i64 k, .string r, .string u, .string v, .string t, .bool p, .bool o, .int .i64 s, .int .i64 z, .int .i64 c, .int .i64 m] g #[.int .i64 3, .string ⟨#[]⟩, .string us, .string ⟨#[]⟩, .string ⟨#[]⟩, .bool false, .bool false, .int .i64 0, .int .i64 as3, .int .i64 ac, .int .i64 am] (wc.setCell ⟨g, 8, none⟩ (.int .i64 as3)) from (HG.out.store (i := 8) (u := .int .i64 as3)))
   generalize hWs : (wc.setCell ⟨g, 8, none⟩ (.int .i64 as3)) = ws6 at HG ⊢
   clear hWs
   obtain ⟨X, hX, hx3⟩ := HG.out.1.2.2
   have Hset := Lib.hid (setRow_heap _ _ _ #[.int .i64 3, .string ⟨#[]⟩, .string us, .string ⟨#[]⟩, .string ⟨#[]⟩, .bool false, .bool false, .int .i64 0, .int .i64 as3, .int .i64 ac, .int .i64 am] _ _ hx3)
   have HB := Lib.hid (HG.out.1.set (new := #[.int .i64 3, .string ⟨#[]⟩, .string us, .string ⟨#[]⟩, .string ⟨#[]⟩, .bool false, .bool false, .int .i64 0, .int .i64 as3, .int .i64 ac, .int .i64 am]) rfl).1
   replace hx3 := Lib.hid hx3
   obtain ⟨f0, f1, f2, f3, f4, f5, f6, f7, f8, f9, f10⟩ := cells11 HG.out.2.1
   go_wp2_with (refine wpList_store_row rfl 43 (.tmp 2) (.tmp 63) rfl (w.heap.size + 1) #[.int .i64 3, .string ⟨#[]⟩, .string us, .string ⟨#[]⟩, .string ⟨#[]⟩, .bool false, .bool false, .int .i64 0, .int .i64 as3, .int .i64 ac, .int .i64 am] rfl rfl 43 X hx3.out edu_info (hX.trans rfl) (one11 _ _ _ _ _ _ _ _ _ _ _) ?_)
   generalize hW2 : World.setRow _ _ _ = W2 at Hset HB ⊢
   clear hW2 f0 f1 f2 f3 f4 f5 f6 f7 f8 f9 f10
   obtain ⟨d0, d1, d2, d3, d4, d5, d6, d7, d8, d9, d10⟩ := cells11 Hset.out
   go_wp2_with fail
   refine bodyPost_ret (v := .agg #[.int .i64 3, .string ⟨#[]⟩, .string us, .string ⟨#[]⟩, .string ⟨#[]⟩, .bool false, .bool false, .int .i64 0, .int .i64 as3, .int .i64 ac, .int .i64 am]) ?_ rfl ⟨?_, HB.out⟩
   ·simp [results, Tryz.results33, go_sem, d0, d1, d2, d3, d4, d5, d6, d7, d8, d9, d10]
   ·rw [hge, H3.out]; try rfl
theorem few_def (e : Edu) : fewEd e = ⟨e.kind, fewS e.room 40, fewS e.user 40, fewS e.event 40, fewS e.thread 40, e.priv, e.on, e.span, e.state, e.tick, e.stamp⟩ := rfl
set_option maxHeartbeats 800000 in
theorem refFew_any (e : Edu) (w : World) (hr : e.room.size ≤ maxLen) (hu : e.user.size ≤ maxLen) (hv : e.event.size ≤ maxLen) (ht : e.thread.size ≤ maxLen) : Calls Tryz.prog 13 #[e.val] w fun x w' => x = .returned (fewEd e).val ∧ Below w.heap.size w w' := by
 have h1 := Lib.hid (fun w => few_any e.room 40 (by decide) w hr)
 have h2 := Lib.hid (fun w => few_any e.user 40 (by decide) w hu)
 have h3 := Lib.hid (fun w => few_any e.event 40 (by decide) w hv)
 have h4 := Lib.hid (fun w => few_any e.thread 40 (by decide) w ht)
 rw [few_def]
 clear hr hu hv ht
 obtain ⟨k, r, u, v, t, p, o, s, z, c, m⟩ := e
 simp only [Edu.val] at *
 generalize fewS r 40 = fr at *
 generalize fewS u 40 = fu at *
 generalize fewS v 40 = fv at *
 generalize fewS t 40 = ft at *
 have hB := Lib.hid (fun a b => show Below w.heap.size w ((w.alloc (.cells a 43)).alloc (.cells b 43)) from (at_two _ _ rfl).2.2.1)
 go_enter Tryz.func13, Tryz.ntmps13
 go_wp2_with fail
 refine (h1.out _).mono ?_
 rintro e wx ⟨rfl, rfl⟩
 go_wp2_with fail
 refine (h2.out _).mono ?_
 rintro e wx ⟨rfl, rfl⟩
 go_wp2_with fail
 refine (h3.out _).mono ?_
 rintro e wx ⟨rfl, rfl⟩
 go_wp2_with fail
 refine (h4.out _).mono ?_
 rintro e wx ⟨rfl, rfl⟩
 go_wp2_with fail
 refine bodyPost_ret (v := .agg #[.int .i64 k, .string fr, .string fu, .string fv, .string ft, .bool p, .bool o, .int .i64 s, .int .i64 z, .int .i64 c, .int .i64 m]) ?_ rfl ⟨rfl, hB.out _ _⟩
 simp [results, Tryz.results13, go_sem]
end Go.Proofs.YtnnapkakbdpkaaaGreat
