/-
  What the statements stand on, part ZA20.
-/
import Derived.Test.YtnnapkakbdpkaaaGreatZA18
import Derived.Test.YtnnapkakbdpkaaaGreatZA19
set_option linter.unusedVariables false
set_option linter.unusedSimpArgs false
namespace Go.Proofs.YtnnapkakbdpkaaaGreat
open Go.RowKit
set_option maxRecDepth 20000
def namedA (e : Edu) : Edu :=
 if e.kind = 1 then ⟨0, e.room, e.user, e.event, e.thread, e.priv, false, 0, 0, 0, 0⟩
 else if e.kind = 2 then ⟨0, e.room, e.user, ⟨#[]⟩, ⟨#[]⟩, false, e.on, if e.on then e.span else 0, 0, 0, 0⟩
 else if e.kind = 3 then ⟨0, ⟨#[]⟩, e.user, ⟨#[]⟩, ⟨#[]⟩, false, false, 0, e.state, 0, 0⟩
 else ⟨0, ⟨#[]⟩, ⟨#[]⟩, ⟨#[]⟩, ⟨#[]⟩, false, false, 0, 0, 0, 0⟩
def rightA (e : Edu) : Bool :=
 if e.kind = 1 then namedB 33 e.room && namedB 64 e.user && eventB e.event && threadB e.thread
 else if e.kind = 2 then namedB 33 e.room && namedB 64 e.user && (!e.on || decide (1 ≤ e.span ∧ e.span ≤ 60))
 else if e.kind = 3 then namedB 64 e.user && decide (0 ≤ e.state ∧ e.state ≤ 2)
 else false
theorem size_zero {a : ByteArray} : a.size = 0 ↔ a = ⟨#[]⟩ := by
 constructor
 ·intro h
  obtain ⟨⟨x⟩⟩ := a
  cases x with
  | nil => rfl
  | cons y l => cases h
 ·rintro rfl
  rfl
theorem local_eq (e : Edu) : localB e = (rightA e && (eqE e { namedA e with kind := e.kind, tick := e.tick, stamp := e.stamp } && (decide (0 ≤ e.tick ∧ e.tick ≤ 1099511627776) && decide (0 ≤ e.stamp ∧ e.stamp ≤ 1099511627776)))) := by
 rw [Bool.eq_iff_iff]
 simp only [Bool.and_eq_true, eqE_iff]
 obtain ⟨k, r, u, v, t, p, o, s, z, c, m⟩ := e
 simp only [localB, stampsB, kindB, rightA, namedA, Bool.and_eq_true, decide_eq_true_iff]
 by_cases h1 : k = 1
 ·subst h1
  simp [size_zero]
  cases o <;> simp
  all_goals (constructor <;> (intro h; simp_all; try rfl))
 ·by_cases h2 : k = 2
  ·subst h2
   simp [size_zero]
   cases o <;> simp
   all_goals (constructor <;> (intro h; simp_all; try rfl))
  ·by_cases h3 : k = 3
   ·subst h3
    simp [size_zero]
    cases o <;> simp
    all_goals (constructor <;> (intro h; simp_all; try rfl))
   ·simp [h1, h2, h3]
end Go.Proofs.YtnnapkakbdpkaaaGreat
namespace Go.Proofs.YtnnapkakbdpkaaaGreat
open Go.RowKit
set_option maxRecDepth 20000
theorem asksF_any (k : Int) (w : World) : Calls Tryz.prog 68 #[.int .i64 k] w fun x w' => x = .returned (.func (.func (if k = 1 then 92 else if k = 2 then 97 else if k = 3 then 98 else 99)) #[] #[]) ∧ w = w' := by
 by_cases h1 : k = 1
 ·subst h1
  go_enter Tryz.func68, Tryz.ntmps68
  go_wp2
  go_ret
  exact ⟨rfl, rfl⟩
 ·have q1 : (k == 1) = false := by simp [h1]
  by_cases h2 : k = 2
  ·subst h2
   go_enter Tryz.func68, Tryz.ntmps68
   go_wp2
   go_ret
   exact ⟨rfl, rfl⟩
  ·have q2 : (k == 2) = false := by simp [h2]
   by_cases h3 : k = 3
   ·subst h3
    go_enter Tryz.func68, Tryz.ntmps68
    go_wp2
    go_ret
    exact ⟨rfl, rfl⟩
   ·have q3 : (k == 3) = false := by simp [h3]
    go_enter Tryz.func68, Tryz.ntmps68
    go_wp2
    go_ret
    exact ⟨rfl, rfl⟩
theorem asked (e : Edu) (hr : e.room.size ≤ maxLen) (hu : e.user.size ≤ maxLen) (hv : e.event.size ≤ maxLen) (ht : e.thread.size ≤ maxLen) : ∃ F, (∀ w, Calls Tryz.prog 68 #[.int .i64 e.kind] w fun x w' => x = .returned (.func (.func F) #[] #[]) ∧ w = w') ∧
  (∀ args w, (callFunc F args).run Tryz.prog w = .ok (.enter F args) w) ∧ ∀ w, Calls Tryz.prog F #[e.val] w fun x w' => x = .returned (.tuple #[(namedA e).val, .bool (rightA e)]) ∧ Below w.heap.size w w' := by
 refine ⟨_, fun w => asksF_any e.kind w, fun args w => ?_, fun w => ?_⟩
 ·by_cases h1 : e.kind = 1
  ·rw [if_pos h1]; go_simp
  ·rw [if_neg h1]
   by_cases h2 : e.kind = 2
   ·rw [if_pos h2]; go_simp
   ·rw [if_neg h2]
    by_cases h3 : e.kind = 3
    ·rw [if_pos h3]; go_simp
    ·rw [if_neg h3]; go_simp
 obtain ⟨k, r, u, v, t, p, o, s, z, c, m⟩ := e
 simp only [namedA, rightA, Edu.val]
 by_cases h1 : k = 1
 ·subst h1
  exact asks1_any _ r u v t p o s z c m w hr hu hv ht
 ·by_cases h2 : k = 2
  ·subst h2
   exact asks2_any _ r u v t p o s z c m w hr hu hv ht
  ·by_cases h3 : k = 3
   ·subst h3
    exact asks3_any _ r u v t p o s z c m w hr hu hv ht
   ·rw [if_neg h1, if_neg h2, if_neg h3, if_neg h1, if_neg h2, if_neg h3, if_neg h1, if_neg h2, if_neg h3]
    exact asks4_any k r u v t p o s z c m w
def One (w : World) (box : Array Value) (w' : World) : Prop := Below w.heap.size w w' ∧ w'.heap[w.heap.size]? = some (.cells box 43 (0, 0))
theorem One.later {w w' w'' : World} {box : Array Value} (h : One w box w') (hb : Below w'.heap.size w' w'') : One w box w'' := ⟨Go.Proofs.YtnnapkakbdpkaaaGreat.later h.1 hb, (hb.block _ (heap_lt h.2)).trans h.2⟩
theorem One.drew {w w' : World} {box : Array Value} (h : One w box w') : One w box w'.drew := ⟨h.1.drew, h.2⟩
theorem one_new (w : World) (box : Array Value) : One w box (w.alloc (.cells box 43)) := ⟨below_new w _, heap_alloc_new w _⟩
theorem One.set {w w' : World} {box new : Array Value} {g : Nat} (h : One w box w') (hg : w.heap.size < g) : One w box (w'.setRow g new) := ⟨below_setRow h.1 (by omega) _, by rw [setRow_other _ _ _ _ (by omega)]; exact h.2⟩
theorem One.setCell {w w' : World} {box : Array Value} {g i : Nat} (h : One w box w') (hg : w.heap.size < g) (u : Value) : One w box (w'.setCell ⟨g, i, none⟩ u) := ⟨h.1.setCell (by simp; omega) _, (Below.heap_setCell w' _ u _ (by simp; omega)).trans h.2⟩
def Gee (w : World) (box : Array Value) (g : Nat) (w' : World) : Prop := One w box w' ∧ ∃ X : Array Value, X.size = 11 ∧ w'.heap[g]? = some (.cells X 43 (0, 0))
set_option maxHeartbeats 3200000 in
theorem local_any (e : Edu) (w : World) (hr : e.room.size ≤ maxLen) (hu : e.user.size ≤ maxLen) (hv : e.event.size ≤ maxLen) (ht : e.thread.size ≤ maxLen) : Calls Tryz.prog 44 #[e.val] w (BoolPost (localB e) w) := by
 obtain ⟨F, HF1, HF3, HF2⟩ := asked e hr hu hv ht
 have HL := Lib.hid (local_eq e)
 generalize localB e = lb at *
 generalize rightA e = rb at *
 cases hn : namedA e with
 | mk k' r' u' v' t' p' o' s' z' c' m' =>
 rw [hn] at HL HF2
 clear hn
 obtain ⟨k, r, u, v, t, p, o, s, z, c, m⟩ := e
 clear hr hu hv ht
 simp only [Edu.val] at HF2 ⊢
 simp only at HL HF1
 replace HF2 := Lib.hid HF2
 replace HF1 := Lib.hid HF1
 replace HF3 := Lib.hid HF3
 go_enter Tryz.func44, Tryz.ntmps44
 go_upto_region 1 with (fail)
 have hT := (one_new w #[.int .i64 k, .string r, .string u, .string v, .string t, .bool p, .bool o, .int .i64 s, .int .i64 z, .int .i64 c, .int .i64 m]).drew
 generalize hW : (w.alloc (.cells #[.int .i64 k, .string r, .string u, .string v, .string t, .bool p, .bool o, .int .i64 s, .int .i64 z, .int .i64 c, .int .i64 m] 43)) = W at hT ⊢
 clear hW
 go_cut [3, 4] (fun s3 s4 wx => ∃ g, s3 = .pointer (some ⟨g, 0, none⟩) ∧ s4 = .bool rb ∧ Hid (One w #[.int .i64 k, .string r, .string u, .string v, .string t, .bool p, .bool o, .int .i64 s, .int .i64 z, .int .i64 c, .int .i64 m] wx) ∧ Hid (wx.heap[g]? = some (.cells #[.int .i64 k', .string r', .string u', .string v', .string t', .bool p', .bool o', .int .i64 s', .int .i64 z', .int .i64 c', .int .i64 m'] 43 (0, 0))) ∧ w.heap.size < g)
 case first =>
  refine wp_region_held_drew (S := fun w' => One w #[.int .i64 k, .string r, .string u, .string v, .string t, .bool p, .bool o, .int .i64 s, .int .i64 z, .int .i64 c, .int .i64 m] w') (by kernel_rfl) hT (fun hHeld => ?_)
  clear hT
  refine wpAnyH_take (i := 0) (oi := ⟨some 6, _, _, _, _, _⟩) (v := ?v0) rfl (by kernel_rfl) (by kernel_rfl) (by kernel_rfl) (fun _ _ _ h => h) (Or.inl ⟨by rfl, ?y0⟩) hHeld ?r0
  case y0 =>
   intro wx hSx
   go_simp
   try with_reducible rfl
  try simp only [actS]
  refine wpAnyH_take (i := 1) (oi := ⟨some 7, _, _, _, _, _⟩) (v := ?v1) rfl (by kernel_rfl) (by kernel_rfl) (by kernel_rfl) (fun _ _ _ h => h) (Or.inl ⟨by rfl, ?y1⟩) hHeld ?r1
  case y1 =>
   intro wx hSx
   obtain ⟨d0, d1, d2, d3, d4, d5, d6, d7, d8, d9, d10⟩ := cells11 hSx.2
   go_simp
   try with_reducible rfl
  try simp only [actS]
  refine anyH_asks (i := 2) (oi := ⟨some 8, _, _, _, _, _⟩) (v := .func (.func F) #[] #[]) rfl (by kernel_rfl) (by kernel_rfl) (by kernel_rfl) (fun _ _ _ h => h) ⟨by rfl, fun wx hSx => ⟨_, _, ?e2, HF1.out _⟩⟩ hHeld ?r2
  case e2 => go_simp
  try simp only [actS]
  refine wpAnyH_take (i := 3) (oi := ⟨some 9, _, _, _, _, _⟩) (v := ?v3) rfl (by kernel_rfl) (by kernel_rfl) (by kernel_rfl) (fun _ _ _ h => h) (Or.inl ⟨by rfl, ?y3⟩) hHeld ?r3
  case y3 =>
   intro wx hSx
   obtain ⟨d0, d1, d2, d3, d4, d5, d6, d7, d8, d9, d10⟩ := cells11 hSx.2
   go_simp
   try with_reducible rfl
  try simp only [actS]
  refine wpAnyH_ready (rs := [4, 8]) (by kernel_rfl) (by simp) ?_
  refine AllReadyH.cons (o := ⟨some 10, _, _, _, _, _⟩) rfl (fun K hK => ?wayA) (AllReadyH.cons (o := ⟨some 3, _, _, _, _, _⟩) rfl (fun K hK => ?wayB) AllReadyH.nil)
  case wayA =>
   go_simp
   rw [HF3.out, Oper.upon_enter]
   refine (HF2.out _).mono ?_
   rintro e wn ⟨rfl, hbn⟩
   refine hK.out _ _ (hHeld.later hbn) (fun hH => ?_)
   replace hHeld := hH
   clear hK K hbn hH
   try simp only [actS]
   refine wpAnyH_take (i := 5) (oi := ⟨some 5, _, _, _, _, _⟩) (v := ?vA5) rfl (by kernel_rfl) (by kernel_rfl) (by kernel_rfl) (fun _ _ _ h => h) (Or.inl ⟨by rfl, ?yA5⟩) hHeld ?rA5
   case yA5 =>
    intro wx hSx
    go_simp
    try with_reducible rfl
   try simp only [actS]
   refine wpAnyH_take (i := 6) (oi := ⟨some 11, _, _, _, _, _⟩) (v := ?vA6) rfl (by kernel_rfl) (by kernel_rfl) (by kernel_rfl) (fun _ _ _ h => h) (Or.inl ⟨by rfl, ?yA6⟩) hHeld ?rA6
   case yA6 =>
    intro wx hSx
    go_simp
    try with_reducible rfl
   try simp only [actS]
   refine wpAnyH_take (i := 7) (oi := ⟨some 12, _, _, _, _, _⟩) (v := ?vA7) rfl (by kernel_rfl) (by kernel_rfl) (by kernel_rfl) (fun _ _ _ h => h) (Or.inl ⟨by rfl, ?yA7⟩) hHeld ?rA7
   case yA7 =>
    intro wx hSx
    go_simp
    try with_reducible rfl
   try simp only [actS]
   refine wpAnyH_ready (rs := [8]) (by kernel_rfl) (by simp) ?_
   refine AllReadyH.cons (o := ⟨some 3, _, _, _, _, _⟩) rfl (fun K hK => ?_) AllReadyH.nil
   have hlt := heap_lt hHeld.2
   have hnew := heap_alloc_new wn (.cells #[.int .i64 0, .string ⟨#[]⟩, .string ⟨#[]⟩, .string ⟨#[]⟩, .string ⟨#[]⟩, .bool false, .bool false, .int .i64 0, .int .i64 0, .int .i64 0, .int .i64 0] 43)
   have hH := hHeld.later (below_new wn (.cells #[.int .i64 0, .string ⟨#[]⟩, .string ⟨#[]⟩, .string ⟨#[]⟩, .string ⟨#[]⟩, .bool false, .bool false, .int .i64 0, .int .i64 0, .int .i64 0, .int .i64 0] 43))
   go_simp
   refine hK.out _ _ hH (fun hHeld => ?_)
   clear hK K hH
   try simp only [actS]
   generalize hW3 : World.alloc _ _ = W3 at hnew hHeld ⊢
   clear hW3
   generalize hgg : wn.heap.size = g at hnew hlt ⊢
   clear hgg
   refine wpAnyH_ready (rs := [9]) (by kernel_rfl) (by simp) ?_
   refine AllReadyH.cons (o := ⟨none, _, _, _, _, _⟩) rfl (fun K hK => ?_) AllReadyH.nil
   rw [if_pos (by rfl)]
   refine wp_store_row 43 (.tmp 3) (.tmp 11) rfl g #[.int .i64 k', .string r', .string u', .string v', .string t', .bool p', .bool o', .int .i64 s', .int .i64 z', .int .i64 c', .int .i64 m'] rfl rfl 43 #[.int .i64 0, .string ⟨#[]⟩, .string ⟨#[]⟩, .string ⟨#[]⟩, .string ⟨#[]⟩, .bool false, .bool false, .int .i64 0, .int .i64 0, .int .i64 0, .int .i64 0] hnew edu_info rfl (one11 _ _ _ _ _ _ _ _ _ _ _) ?_
   have hset := setRow_heap _ _ _ #[.int .i64 k', .string r', .string u', .string v', .string t', .bool p', .bool o', .int .i64 s', .int .i64 z', .int .i64 c', .int .i64 m'] _ _ hnew
   have hH := hHeld.set (new := #[.int .i64 k', .string r', .string u', .string v', .string t', .bool p', .bool o', .int .i64 s', .int .i64 z', .int .i64 c', .int .i64 m']) hlt
   refine hK.out _ _ hH (fun hHeld => ?_)
   clear hK K hH
   try simp only [actS]
   generalize hW2 : World.setRow _ _ _ = W2 at hset hHeld ⊢
   clear hW2
   refine wpAnyH_take (i := 10) (oi := ⟨some 4, _, _, _, _, _⟩) (v := ?vA10) rfl (by kernel_rfl) (by kernel_rfl) (by kernel_rfl) (fun _ _ _ h => h) (Or.inl ⟨by rfl, ?yA10⟩) hHeld ?rA10
   case yA10 =>
    intro wx hSx
    go_simp
    try with_reducible rfl
   try simp only [actS]
   refine wpAnyH_done (by kernel_rfl) ?_ _
   have HO := Lib.hid hHeld
   have HS := Lib.hid hset
   clear hHeld hset
   go_wp2_with fail
   go_meet
   exact ⟨g, rfl, rfl, HO, HS, hlt⟩
  case wayB =>
   generalize hWd : W.drew = wd at hHeld ⊢
   clear hWd
   have hlt := heap_lt hHeld.2
   have hnew := heap_alloc_new wd (.cells #[.int .i64 0, .string ⟨#[]⟩, .string ⟨#[]⟩, .string ⟨#[]⟩, .string ⟨#[]⟩, .bool false, .bool false, .int .i64 0, .int .i64 0, .int .i64 0, .int .i64 0] 43)
   have hH := hHeld.later (below_new wd (.cells #[.int .i64 0, .string ⟨#[]⟩, .string ⟨#[]⟩, .string ⟨#[]⟩, .string ⟨#[]⟩, .bool false, .bool false, .int .i64 0, .int .i64 0, .int .i64 0, .int .i64 0] 43))
   go_simp
   refine hK.out _ _ hH (fun hHeld => ?_)
   clear hK K hH
   try simp only [actS]
   generalize hW3 : World.alloc _ _ = W3 at hnew hHeld ⊢
   clear hW3
   generalize hgg : wd.heap.size = g at hnew hlt ⊢
   clear hgg
   refine wpAnyH_ready (rs := [4]) (by kernel_rfl) (by simp) ?_
   refine AllReadyH.cons (o := ⟨some 10, _, _, _, _, _⟩) rfl (fun K hK => ?_) AllReadyH.nil
   go_simp
   rw [HF3.out, Oper.upon_enter]
   refine (HF2.out _).mono ?_
   rintro e wn ⟨rfl, hbn⟩
   replace hnew := (hbn.block _ (heap_lt hnew)).trans hnew
   refine hK.out _ _ (hHeld.later hbn) (fun hH => ?_)
   replace hHeld := hH
   clear hK K hbn hH
   try simp only [actS]
   refine wpAnyH_take (i := 5) (oi := ⟨some 5, _, _, _, _, _⟩) (v := ?vB5) rfl (by kernel_rfl) (by kernel_rfl) (by kernel_rfl) (fun _ _ _ h => h) (Or.inl ⟨by rfl, ?yB5⟩) hHeld ?rB5
   case yB5 =>
    intro wx hSx
    go_simp
    try with_reducible rfl
   try simp only [actS]
   refine wpAnyH_take (i := 6) (oi := ⟨some 11, _, _, _, _, _⟩) (v := ?vB6) rfl (by kernel_rfl) (by kernel_rfl) (by kernel_rfl) (fun _ _ _ h => h) (Or.inl ⟨by rfl, ?yB6⟩) hHeld ?rB6
   case yB6 =>
    intro wx hSx
    go_simp
    try with_reducible rfl
   try simp only [actS]
   refine wpAnyH_take (i := 7) (oi := ⟨some 12, _, _, _, _, _⟩) (v := ?vB7) rfl (by kernel_rfl) (by kernel_rfl) (by kernel_rfl) (fun _ _ _ h => h) (Or.inl ⟨by rfl, ?yB7⟩) hHeld ?rB7
   case yB7 =>
    intro wx hSx
    go_simp
    try with_reducible rfl
   try simp only [actS]
   refine wpAnyH_ready (rs := [9]) (by kernel_rfl) (by simp) ?_
   refine AllReadyH.cons (o := ⟨none, _, _, _, _, _⟩) rfl (fun K hK => ?_) AllReadyH.nil
   rw [if_pos (by rfl)]
   refine wp_store_row 43 (.tmp 3) (.tmp 11) rfl g #[.int .i64 k', .string r', .string u', .string v', .string t', .bool p', .bool o', .int .i64 s', .int .i64 z', .int .i64 c', .int .i64 m'] rfl rfl 43 #[.int .i64 0, .string ⟨#[]⟩, .string ⟨#[]⟩, .string ⟨#[]⟩, .string ⟨#[]⟩, .bool false, .bool false, .int .i64 0, .int .i64 0, .int .i64 0, .int .i64 0] hnew edu_info rfl (one11 _ _ _ _ _ _ _ _ _ _ _) ?_
   have hset := setRow_heap _ _ _ #[.int .i64 k', .string r', .string u', .string v', .string t', .bool p', .bool o', .int .i64 s', .int .i64 z', .int .i64 c', .int .i64 m'] _ _ hnew
   have hH := hHeld.set (new := #[.int .i64 k', .string r', .string u', .string v', .string t', .bool p', .bool o', .int .i64 s', .int .i64 z', .int .i64 c', .int .i64 m']) hlt
   refine hK.out _ _ hH (fun hHeld => ?_)
   clear hK K hH
   try simp only [actS]
   generalize hW2 : World.setRow _ _ _ = W2 at hset hHeld ⊢
   clear hW2
   refine wpAnyH_take (i := 10) (oi := ⟨some 4, _, _, _, _, _⟩) (v := ?vB10) rfl (by kernel_rfl) (by kernel_rfl) (by kernel_rfl) (fun _ _ _ h => h) (Or.inl ⟨by rfl, ?yB10⟩) hHeld ?rB10
   case yB10 =>
    intro wx hSx
    go_simp
    try with_reducible rfl
   try simp only [actS]
   refine wpAnyH_done (by kernel_rfl) ?_ _
   have HO := Lib.hid hHeld
   have HS := Lib.hid hset
   clear hHeld hset
   go_wp2_with fail
   go_meet
   exact ⟨g, rfl, rfl, HO, HS, hlt⟩
 case rest =>
  obtain ⟨g, rfl, rfl, HO, HS, hg⟩ := hcut
  go_upto_region 2 with (fail)
  have hT : Gee w #[.int .i64 k, .string r, .string u, .string v, .string t, .bool p, .bool o, .int .i64 s, .int .i64 z, .int .i64 c, .int .i64 m] g wc.drew := ⟨HO.out.drew, _, rfl, HS.out⟩
  have hcur := HS.out
  replace hcur : wc.drew.heap[g]? = _ := hcur
  clear HO HS
  refine wp_region_held_drew (S := fun w' => Gee w #[.int .i64 k, .string r, .string u, .string v, .string t, .bool p, .bool o, .int .i64 s, .int .i64 z, .int .i64 c, .int .i64 m] g w') (by kernel_rfl) hT (fun hHeld => ?_)
  clear hT
  generalize hwd : wc.drew = wd at hcur hHeld ⊢
  clear hwd
  refine wpAnyH_take (i := 0) (oi := ⟨some 13, _, _, _, _, _⟩) (v := ?vr0) rfl (by kernel_rfl) (by kernel_rfl) (by kernel_rfl) (fun _ _ _ h => h) (Or.inl ⟨by rfl, ?yr0⟩) hHeld ?rr0
  case yr0 =>
   intro wx hSx
   go_simp
   try with_reducible rfl
  try simp only [actS]
  refine wpAnyH_take (i := 1) (oi := ⟨some 14, _, _, _, _, _⟩) (v := ?vr1) rfl (by kernel_rfl) (by kernel_rfl) (by kernel_rfl) (fun _ _ _ h => h) (Or.inl ⟨by rfl, ?yr1⟩) hHeld ?rr1
  case yr1 =>
   intro wx hSx
   obtain ⟨d0, d1, d2, d3, d4, d5, d6, d7, d8, d9, d10⟩ := cells11 hSx.1.2
   go_simp
   try with_reducible rfl
  try simp only [actS]
  refine wpAnyH_take (i := 2) (oi := ⟨some 15, _, _, _, _, _⟩) (v := ?vr2) rfl (by kernel_rfl) (by kernel_rfl) (by kernel_rfl) (fun _ _ _ h => h) (Or.inl ⟨by rfl, ?yr2⟩) hHeld ?rr2
  case yr2 =>
   intro wx hSx
   go_simp
   try with_reducible rfl
  try simp only [actS]
  refine wpAnyH_take (i := 3) (oi := ⟨some 16, _, _, _, _, _⟩) (v := ?vr3) rfl (by kernel_rfl) (by kernel_rfl) (by kernel_rfl) (fun _ _ _ h => h) (Or.inl ⟨by rfl, ?yr3⟩) hHeld ?rr3
  case yr3 =>
   intro wx hSx
   obtain ⟨d0, d1, d2, d3, d4, d5, d6, d7, d8, d9, d10⟩ := cells11 hSx.1.2
   go_simp
   try with_reducible rfl
  try simp only [actS]
  refine wpAnyH_take (i := 4) (oi := ⟨some 17, _, _, _, _, _⟩) (v := ?vr4) rfl (by kernel_rfl) (by kernel_rfl) (by kernel_rfl) (fun _ _ _ h => h) (Or.inl ⟨by rfl, ?yr4⟩) hHeld ?rr4
  case yr4 =>
   intro wx hSx
   go_simp
   try with_reducible rfl
  try simp only [actS]
  refine wpAnyH_take (i := 5) (oi := ⟨some 18, _, _, _, _, _⟩) (v := ?vr5) rfl (by kernel_rfl) (by kernel_rfl) (by kernel_rfl) (fun _ _ _ h => h) (Or.inl ⟨by rfl, ?yr5⟩) hHeld ?rr5
  case yr5 =>
   intro wx hSx
   obtain ⟨d0, d1, d2, d3, d4, d5, d6, d7, d8, d9, d10⟩ := cells11 hSx.1.2
   go_simp
   try with_reducible rfl
  try simp only [actS]
  refine wpAnyH_take (i := 6) (oi := ⟨some 19, _, _, _, _, _⟩) (v := ?vr6) rfl (by kernel_rfl) (by kernel_rfl) (by kernel_rfl) (fun _ _ _ h => h) (Or.inl ⟨by rfl, ?yr6⟩) hHeld ?rr6
  case yr6 =>
   intro wx hSx
   go_simp
   try with_reducible rfl
  try simp only [actS]
  have hcell := cell_at hcur 0
  have hfr := free_at hcur 0
  replace hcell : World.cell? _ _ = some (.int .i64 k') := hcell
  refine wpAnyH_ready (rs := [7]) (by kernel_rfl) (by simp) ?_
  refine AllReadyH.cons (o := ⟨none, _, _, _, _, _⟩) rfl (fun K hK => ?_) AllReadyH.nil
  go_simp
  have hnxt := heap_set hcur 0 (.int .i64 k)
  have hH : Gee w #[.int .i64 k, .string r, .string u, .string v, .string t, .bool p, .bool o, .int .i64 s, .int .i64 z, .int .i64 c, .int .i64 m] g _ := ⟨hHeld.1.setCell hg (.int .i64 k), _, rfl, hnxt⟩
  refine hK.out _ _ hH (fun hHeld => ?_)
  clear hK K hH hcell hfr hcur
  try simp only [actS]
  generalize hWs : World.setCell _ _ _ = ws0 at hnxt hHeld ⊢
  clear hWs
  have hcur : ws0.heap[g]? = some (.cells #[.int .i64 k, .string r', .string u', .string v', .string t', .bool p', .bool o', .int .i64 s', .int .i64 z', .int .i64 c', .int .i64 m'] 43 (0, 0)) := hnxt
  clear hnxt
  refine wpAnyH_take (i := 8) (oi := ⟨some 20, _, _, _, _, _⟩) (v := ?vr8) rfl (by kernel_rfl) (by kernel_rfl) (by kernel_rfl) (fun _ _ _ h => h) (Or.inl ⟨by rfl, ?yr8⟩) hHeld ?rr8
  case yr8 =>
   intro wx hSx
   go_simp
   try with_reducible rfl
  try simp only [actS]
  have hcell := cell_at hcur 9
  have hfr := free_at hcur 9
  replace hcell : World.cell? _ _ = some (.int .i64 c') := hcell
  refine wpAnyH_ready (rs := [9]) (by kernel_rfl) (by simp) ?_
  refine AllReadyH.cons (o := ⟨none, _, _, _, _, _⟩) rfl (fun K hK => ?_) AllReadyH.nil
  go_simp
  have hnxt := heap_set hcur 9 (.int .i64 c)
  have hH : Gee w #[.int .i64 k, .string r, .string u, .string v, .string t, .bool p, .bool o, .int .i64 s, .int .i64 z, .int .i64 c, .int .i64 m] g _ := ⟨hHeld.1.setCell hg (.int .i64 c), _, rfl, hnxt⟩
  refine hK.out _ _ hH (fun hHeld => ?_)
  clear hK K hH hcell hfr hcur
  try simp only [actS]
  generalize hWs : World.setCell _ _ _ = ws1 at hnxt hHeld ⊢
  clear hWs
  have hcur : ws1.heap[g]? = some (.cells #[.int .i64 k, .string r', .string u', .string v', .string t', .bool p', .bool o', .int .i64 s', .int .i64 z', .int .i64 c, .int .i64 m'] 43 (0, 0)) := hnxt
  clear hnxt
  refine wpAnyH_take (i := 10) (oi := ⟨some 21, _, _, _, _, _⟩) (v := ?vr10) rfl (by kernel_rfl) (by kernel_rfl) (by kernel_rfl) (fun _ _ _ h => h) (Or.inl ⟨by rfl, ?yr10⟩) hHeld ?rr10
  case yr10 =>
   intro wx hSx
   go_simp
   try with_reducible rfl
  try simp only [actS]
  have hcell := cell_at hcur 10
  have hfr := free_at hcur 10
  replace hcell : World.cell? _ _ = some (.int .i64 m') := hcell
  refine wpAnyH_ready (rs := [11]) (by kernel_rfl) (by simp) ?_
  refine AllReadyH.cons (o := ⟨none, _, _, _, _, _⟩) rfl (fun K hK => ?_) AllReadyH.nil
  go_simp
  have hnxt := heap_set hcur 10 (.int .i64 m)
  have hH : Gee w #[.int .i64 k, .string r, .string u, .string v, .string t, .bool p, .bool o, .int .i64 s, .int .i64 z, .int .i64 c, .int .i64 m] g _ := ⟨hHeld.1.setCell hg (.int .i64 m), _, rfl, hnxt⟩
  refine hK.out _ _ hH (fun hHeld => ?_)
  clear hK K hH hcell hfr hcur
  try simp only [actS]
  generalize hWs : World.setCell _ _ _ = ws2 at hnxt hHeld ⊢
  clear hWs
  have hcur : ws2.heap[g]? = some (.cells #[.int .i64 k, .string r', .string u', .string v', .string t', .bool p', .bool o', .int .i64 s', .int .i64 z', .int .i64 c, .int .i64 m] 43 (0, 0)) := hnxt
  clear hnxt
  refine wpAnyH_done (by kernel_rfl) ?_ _
  have HB := Lib.hid hHeld.1.1
  obtain ⟨d0, d1, d2, d3, d4, d5, d6, d7, d8, d9, d10⟩ := cells11 hHeld.1.2
  obtain ⟨f0, f1, f2, f3, f4, f5, f6, f7, f8, f9, f10⟩ := cells11 hcur
  clear hHeld hcur
  have heq := eql_edu ⟨k, r, u, v, t, p, o, s, z, c, m⟩ ⟨k, r', u', v', t', p', o', s', z', c, m⟩
  simp only [Edu.val] at heq
  replace HL := HL.out
  generalize eqE _ _ = eb at heq HL
  cases rb
  ·go_wp2_with fail
   go_ret
   exact ⟨by rw [HL]; rfl, HB.out⟩
  ·cases eb
   ·go_wp2_with fail
    go_ret
    exact ⟨by rw [HL]; rfl, HB.out⟩
   ·go_wp2_with fail
    refine (within_any c 0 1099511627776 _).mono ?_
    rintro e wz ⟨rfl, rfl⟩
    cases hq : decide (0 ≤ c ∧ c ≤ 1099511627776)
    ·rw [hq] at HL
     go_wp2_with fail
     go_ret
     exact ⟨by rw [HL]; rfl, HB.out⟩
    ·rw [hq] at HL
     go_wp2_with fail
     refine (within_any m 0 1099511627776 _).mono ?_
     rintro e wz ⟨rfl, rfl⟩
     generalize decide (0 ≤ m ∧ m ≤ 1099511627776) = mb at HL ⊢
     go_wp2_with fail
     go_ret
     exact ⟨by rw [HL]; rfl, HB.out⟩
end Go.Proofs.YtnnapkakbdpkaaaGreat

namespace Go.Proofs.YtnnapkakbdpkaaaGreat
set_option maxRecDepth 20000
open Go.RowKit
theorem size_toList (v : ByteArray) : (v.size = 0) = (v.toList = []) := by
 rw [eq_iff_iff, size_zero, ← toList_iff, ByteArray.toList_eq ⟨#[]⟩]
theorem local_ref (e : Edu) : localB e = (namedB 64 e.user && (decide (0 ≤ e.tick ∧ e.tick ≤ 1099511627776 ∧ 0 ≤ e.stamp ∧ e.stamp ≤ 1099511627776) && kindB e)) := by
 unfold localB stampsB
 rw [Bool.and_assoc]
set_option maxHeartbeats 6400000 in
theorem refLocal3_any (e : Edu) (w : World) (hr : e.room.size ≤ maxLen) (hu : e.user.size ≤ maxLen) (hv : e.event.size ≤ maxLen) (ht : e.thread.size ≤ maxLen) : Calls Tryz.prog 35 #[e.val] w fun x w' => x = .returned (.bool (localB e)) ∧ Below w.heap.size w w' := by
 have hd : e.kind = 1 ∨ e.kind = 2 ∨ e.kind = 3 ∨ (e.kind ≠ 1 ∧ e.kind ≠ 2 ∧ e.kind ≠ 3) := by omega
 have hu2 := fun w => refNamed_any e.user 64 w hu
 have hr2 := fun w => refNamed_any e.room 33 w hr
 have hv2 := fun w => refEvent_any e.event w hv
 have ht2 := fun w => refThread_any e.thread w ht
 have HL := local_ref e
 unfold kindB at HL
 simp only [size_toList] at HL
 obtain ⟨k, r, u, v, t, p, o, s, z, c, m⟩ := e
 simp only [Edu.val] at hu2 hr2 hv2 ht2 HL hd ⊢
 clear hr hu hv ht
 generalize namedB 64 u = bu at *
 generalize namedB 33 r = br at *
 generalize eventB v = be at *
 generalize threadB t = bt at *
 generalize localB _ = lb at *
 replace hu2 := Lib.hid hu2
 replace hr2 := Lib.hid hr2
 replace hv2 := Lib.hid hv2
 replace ht2 := Lib.hid ht2
 replace HL := Lib.hid HL
 have hb0 := Lib.hid (below_new w (.cells #[.int .i64 k, .string r, .string u, .string v, .string t, .bool p, .bool o, .int .i64 s, .int .i64 z, .int .i64 c, .int .i64 m] 43))
 obtain ⟨d0, d1, d2, d3, d4, d5, d6, d7, d8, d9, d10⟩ := cells11 (heap_alloc_new w (.cells #[.int .i64 k, .string r, .string u, .string v, .string t, .bool p, .bool o, .int .i64 s, .int .i64 z, .int .i64 c, .int .i64 m] 43))
 go_enter Tryz.func35, Tryz.ntmps35
 go_wp2_with fail
 generalize hW : (w.alloc (.cells #[.int .i64 k, .string r, .string u, .string v, .string t, .bool p, .bool o, .int .i64 s, .int .i64 z, .int .i64 c, .int .i64 m] 43)) = W at *
 clear hW
 refine (hu2.out _).mono ?_
 rintro e wx ⟨rfl, rfl⟩
 go_wp2_with fail
 refine (hr2.out _).mono ?_
 rintro e wx ⟨rfl, rfl⟩
 go_wp2_with fail
 refine (hv2.out _).mono ?_
 rintro e wx ⟨rfl, rfl⟩
 go_wp2_with fail
 refine (ht2.out _).mono ?_
 rintro e wx ⟨rfl, rfl⟩
 clear hu2 hr2 hv2 ht2
 by_cases hst : bu = true ∧ (0 ≤ c ∧ c ≤ 1099511627776 ∧ 0 ≤ m ∧ m ≤ 1099511627776)
 ·obtain ⟨rfl, hst⟩ := hst
  rw [decide_eq_true hst] at HL
  obtain ⟨s1, s2, s3, s4⟩ := hst
  have q1 : decide (c < 0) = false := decide_eq_false (by omega)
  have q2 : decide (1099511627776 < c) = false := decide_eq_false (by omega)
  have q3 : decide (m < 0) = false := decide_eq_false (by omega)
  have q4 : decide (1099511627776 < m) = false := decide_eq_false (by omega)
  clear s1 s2 s3 s4
  rcases hd with rfl | rfl | rfl | ⟨h1, h2, h3⟩
  ·go_wp2_with fail
   all_goals
    go_ret
    refine ⟨?_, hb0.out⟩
    rw [HL.out]
    first | (simp [*]; done) | (simp [*]; omega) | (simp [*]; rw [Bool.eq_iff_iff]; simp; done) | (simp [*]; rw [Bool.eq_iff_iff]; simp; omega)
  ·cases o
   ·go_upto_region 11 with (fail)
    go_cut [7] (fun s7 wx => s7 = .bool (decide (s = 0)) ∧ W = wx)
    case first =>
     go_wp2_with fail
     all_goals
      go_meet
      refine ⟨?_, rfl⟩
      first | rfl | (simp [*]; done) | (congr 1; rw [Bool.eq_iff_iff]; simp)
    case rest =>
     obtain ⟨rfl, rfl⟩ := hcut
     replace HL := HL.out
     simp only [Bool.false_eq_true, if_false] at HL
     generalize decide (s = 0) = sb at *
     replace HL := Lib.hid HL
     go_wp2_with fail
     all_goals
      go_ret
      refine ⟨?_, hb0.out⟩
      rw [HL.out]
      first | (simp [*]; done) | (simp [*]; omega) | (simp [*]; rw [Bool.eq_iff_iff]; simp; done) | (simp [*]; rw [Bool.eq_iff_iff]; simp; omega)
   ·go_upto_region 11 with (fail)
    go_cut [7] (fun s7 wx => s7 = .bool (decide (1 ≤ s ∧ s ≤ 60)) ∧ W = wx)
    case first =>
     go_wp2_with fail
     all_goals
      go_meet
      refine ⟨?_, rfl⟩
      first | (simp [*]; done) | (congr 1; rw [Bool.eq_iff_iff]; simp; omega)
    case rest =>
     obtain ⟨rfl, rfl⟩ := hcut
     replace HL := HL.out
     simp only [if_true] at HL
     generalize decide (1 ≤ s ∧ s ≤ 60) = sb at *
     replace HL := Lib.hid HL
     go_wp2_with fail
     all_goals
      go_ret
      refine ⟨?_, hb0.out⟩
      rw [HL.out]
      first | (simp [*]; done) | (simp [*]; omega) | (simp [*]; rw [Bool.eq_iff_iff]; simp; done) | (simp [*]; rw [Bool.eq_iff_iff]; simp; omega)
  ·go_wp2_with fail
   all_goals
    go_ret
    refine ⟨?_, hb0.out⟩
    rw [HL.out]
    first | (simp [*]; done) | (simp [*]; omega) | (simp [*]; rw [Bool.eq_iff_iff]; simp; done) | (simp [*]; rw [Bool.eq_iff_iff]; simp; omega)
  ·have e1 : (k == 1) = false := by simp [h1]
   have e2 : (k == 2) = false := by simp [h2]
   have e3 : (k == 3) = false := by simp [h3]
   go_wp2_with fail
   go_ret
   refine ⟨?_, hb0.out⟩
   rw [HL.out]
   simp [h1, h2, h3]
 ·have hn : lb = false := by
   rw [HL.out]
   cases bu
   ·rfl
   ·rw [decide_eq_false (fun h => hst ⟨rfl, h⟩)]
    rfl
  clear HL hd
  have hd : bu = false ∨ (bu = true ∧ c < 0) ∨ (bu = true ∧ ¬ c < 0 ∧ 1099511627776 < c) ∨ (bu = true ∧ ¬ c < 0 ∧ ¬ 1099511627776 < c ∧ m < 0) ∨ (bu = true ∧ ¬ c < 0 ∧ ¬ 1099511627776 < c ∧ ¬ m < 0 ∧ 1099511627776 < m) := by
   cases bu
   ·exact .inl rfl
   ·by_cases x1 : c < 0
    ·exact .inr (.inl ⟨rfl, x1⟩)
    ·by_cases x2 : 1099511627776 < c
     ·exact .inr (.inr (.inl ⟨rfl, x1, x2⟩))
     ·by_cases x3 : m < 0
      ·exact .inr (.inr (.inr (.inl ⟨rfl, x1, x2, x3⟩)))
      ·exact .inr (.inr (.inr (.inr ⟨rfl, x1, x2, x3, Int.not_le.1 (fun x4 => hst ⟨rfl, by omega⟩)⟩)))
  clear hst
  rcases hd with rfl | ⟨rfl, x1⟩ | ⟨rfl, x1, x2⟩ | ⟨rfl, x1, x2, x3⟩ | ⟨rfl, x1, x2, x3, x4⟩
  ·go_wp2_with fail
   go_ret
   exact ⟨by rw [hn]; rfl, hb0.out⟩
  ·have q1 : decide (c < 0) = true := decide_eq_true x1
   go_wp2_with fail
   go_ret
   exact ⟨by rw [hn]; rfl, hb0.out⟩
  ·have q1 : decide (c < 0) = false := decide_eq_false x1
   have q2 : decide (1099511627776 < c) = true := decide_eq_true x2
   go_wp2_with fail
   go_ret
   exact ⟨by rw [hn]; rfl, hb0.out⟩
  ·have q1 : decide (c < 0) = false := decide_eq_false x1
   have q2 : decide (1099511627776 < c) = false := decide_eq_false x2
   have q3 : decide (m < 0) = true := decide_eq_true x3
   go_wp2_with fail
   go_ret
   exact ⟨by rw [hn]; rfl, hb0.out⟩
  ·have q1 : decide (c < 0) = false := decide_eq_false x1
   have q2 : decide (1099511627776 < c) = false := decide_eq_false x2
   have q3 : decide (m < 0) = false := decide_eq_false x3
   have q4 : decide (1099511627776 < m) = true := decide_eq_true x4
   go_wp2_with fail
   go_ret
   exact ⟨by rw [hn]; rfl, hb0.out⟩
end Go.Proofs.YtnnapkakbdpkaaaGreat
namespace Go.Proofs.YtnnapkakbdpkaaaGreat
open Go.RowKit
set_option maxRecDepth 20000
end Go.Proofs.YtnnapkakbdpkaaaGreat
