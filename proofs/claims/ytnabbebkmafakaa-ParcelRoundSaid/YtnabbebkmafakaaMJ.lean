/-
  Package edu: Local, May, Write.
-/
import Derived.Test.YtnabbebkmafakaaMI
import Derived.Deep.DeepCutAuto
namespace Go.Proofs.Ytnabbebkmafakaa
open Go.RowKit
set_option linter.unusedVariables false
set_option linter.unusedSimpArgs false
set_option maxRecDepth 20000

/-- Of an EDU's fields those that its kind names, and whether they are right. -/
def namedA (e : Edu) : Edu :=
  if e.kind = 1 then ⟨0, e.room, e.user, e.event, e.thread, e.priv, false, 0, 0, 0, 0⟩
  else if e.kind = 2 then ⟨0, e.room, e.user, ⟨#[]⟩, ⟨#[]⟩, false, e.on, if e.on then e.span else 0, 0, 0, 0⟩
  else if e.kind = 3 then ⟨0, ⟨#[]⟩, e.user, ⟨#[]⟩, ⟨#[]⟩, false, false, 0, e.state, 0, 0⟩
  else ⟨0, ⟨#[]⟩, ⟨#[]⟩, ⟨#[]⟩, ⟨#[]⟩, false, false, 0, 0, 0, 0⟩
def rightA (e : Edu) : Bool :=
  if e.kind = 1 then namedB 33 e.room && namedB 64 e.user && eventB e.event && threadB e.thread
  else if e.kind = 2 then namedB 33 e.room && namedB 64 e.user && (!e.on || decide (1 ≤ e.span ∧ e.span ≤ 60))
  else if e.kind = 3 then namedB 64 e.user && decide (0 ≤ e.state ∧ e.state ≤ 2)
  else false
/-- Are two the same, field by field? -/
def eqE (a b : Edu) : Bool := (a.kind == b.kind) && ((a.room.toList == b.room.toList) && ((a.user.toList == b.user.toList) && ((a.event.toList == b.event.toList) && ((a.thread.toList == b.thread.toList) && ((a.priv == b.priv) && ((a.on == b.on) && ((a.span == b.span) && ((a.state == b.state) && ((a.tick == b.tick) && (a.stamp == b.stamp))))))))))
theorem toList_iff (a b : ByteArray) : a.toList = b.toList ↔ a = b := by
  constructor
  · intro h
    rw [ByteArray.toList_eq, ByteArray.toList_eq] at h
    obtain ⟨⟨x⟩⟩ := a
    obtain ⟨⟨y⟩⟩ := b
    simp at h
    rw [h]
  · rintro rfl
    rfl
theorem eqE_iff (a b : Edu) : eqE a b = true ↔ a = b := by
  unfold eqE
  obtain ⟨k, r, u, v, t, p, o, s, z, c, m⟩ := a
  obtain ⟨k', r', u', v', t', p', o', s', z', c', m'⟩ := b
  simp only [Bool.and_eq_true, beq_iff_eq, toList_iff, Edu.mk.injEq]
theorem size_zero {a : ByteArray} : a.size = 0 ↔ a = ⟨#[]⟩ := by
  constructor
  · intro h
    obtain ⟨⟨x⟩⟩ := a
    cases x with
    | nil => rfl
    | cons y l => cases h
  · rintro rfl
    rfl
/-- May it be local? As the code tells it. -/
theorem local_eq (e : Edu) : localB e = (rightA e && (eqE e { namedA e with kind := e.kind, tick := e.tick, stamp := e.stamp } && (decide (0 ≤ e.tick ∧ e.tick ≤ 1099511627776) && decide (0 ≤ e.stamp ∧ e.stamp ≤ 1099511627776)))) := by
  rw [Bool.eq_iff_iff]
  simp only [Bool.and_eq_true, eqE_iff]
  obtain ⟨k, r, u, v, t, p, o, s, z, c, m⟩ := e
  simp only [localB, stampsB, kindB, rightA, namedA, Bool.and_eq_true, decide_eq_true_iff]
  by_cases h1 : k = 1
  · subst h1
    simp [size_zero]
    cases o <;> simp
    all_goals (constructor <;> (intro h; simp_all; try rfl))
  · by_cases h2 : k = 2
    · subst h2
      simp [size_zero]
      cases o <;> simp
      all_goals (constructor <;> (intro h; simp_all; try rfl))
    · by_cases h3 : k = 3
      · subst h3
        simp [size_zero]
        cases o <;> simp
        all_goals (constructor <;> (intro h; simp_all; try rfl))
      · simp [h1, h2, h3]
end Go.Proofs.Ytnabbebkmafakaa

namespace Go.Proofs.Ytnabbebkmafakaa
open Go.RowKit
set_option linter.unusedVariables false
set_option linter.unusedSimpArgs false
set_option maxRecDepth 20000

theorem asksF_any (k : Int) (w : World) : Calls Try.prog 87 #[.int .i64 k] w fun x w' => x = .returned (.func (.func (if k = 1 then 90 else if k = 2 then 95 else if k = 3 then 96 else 97)) #[] #[]) ∧ w = w' := by
  by_cases h1 : k = 1
  · subst h1
    go_enter Try.func87, Try.ntmps87
    go_wp2
    go_ret
    exact ⟨rfl, rfl⟩
  · have q1 : (k == 1) = false := by simp [h1]
    by_cases h2 : k = 2
    · subst h2
      go_enter Try.func87, Try.ntmps87
      go_wp2
      go_ret
      exact ⟨rfl, rfl⟩
    · have q2 : (k == 2) = false := by simp [h2]
      by_cases h3 : k = 3
      · subst h3
        go_enter Try.func87, Try.ntmps87
        go_wp2
        go_ret
        exact ⟨rfl, rfl⟩
      · have q3 : (k == 3) = false := by simp [h3]
        go_enter Try.func87, Try.ntmps87
        go_wp2
        go_ret
        exact ⟨rfl, rfl⟩

theorem asked (e : Edu) (hr : e.room.size ≤ maxLen) (hu : e.user.size ≤ maxLen) (hv : e.event.size ≤ maxLen) (ht : e.thread.size ≤ maxLen) : ∃ F, (∀ w, Calls Try.prog 87 #[.int .i64 e.kind] w fun x w' => x = .returned (.func (.func F) #[] #[]) ∧ w = w') ∧
    (∀ args w, (callFunc F args).run Try.prog w = .ok (.enter F args) w) ∧ ∀ w, Calls Try.prog F #[e.val] w fun x w' => x = .returned (.tuple #[(namedA e).val, .bool (rightA e)]) ∧ Below w.heap.size w w' := by
  refine ⟨_, fun w => asksF_any e.kind w, fun args w => ?_, fun w => ?_⟩
  · by_cases h1 : e.kind = 1
    · rw [if_pos h1]; go_simp
    · rw [if_neg h1]
      by_cases h2 : e.kind = 2
      · rw [if_pos h2]; go_simp
      · rw [if_neg h2]
        by_cases h3 : e.kind = 3
        · rw [if_pos h3]; go_simp
        · rw [if_neg h3]; go_simp
  obtain ⟨k, r, u, v, t, p, o, s, z, c, m⟩ := e
  simp only [namedA, rightA, Edu.val]
  by_cases h1 : k = 1
  · subst h1
    exact asks1_any _ r u v t p o s z c m w hr hu hv ht
  · by_cases h2 : k = 2
    · subst h2
      exact asks2_any _ r u v t p o s z c m w hr hu hv ht
    · by_cases h3 : k = 3
      · subst h3
        exact asks3_any _ r u v t p o s z c m w hr hu hv ht
      · rw [if_neg h1, if_neg h2, if_neg h3, if_neg h1, if_neg h2, if_neg h3, if_neg h1, if_neg h2, if_neg h3]
        exact asks4_any k r u v t p o s z c m w

/-- One struct behind what was there. -/
def One (w : World) (box : Array Value) (w' : World) : Prop := Below w.heap.size w w' ∧ w'.heap[w.heap.size]? = some (.cells box 50 (0, 0))
theorem One.later {w w' w'' : World} {box : Array Value} (h : One w box w') (hb : Below w'.heap.size w' w'') : One w box w'' := ⟨Go.Proofs.Ytnabbebkmafakaa.later h.1 hb, (hb.block _ (heap_lt h.2)).trans h.2⟩
theorem One.drew {w w' : World} {box : Array Value} (h : One w box w') : One w box w'.drew := ⟨h.1.drew, h.2⟩
theorem one_new (w : World) (box : Array Value) : One w box (w.alloc (.cells box 50)) := ⟨below_new w _, heap_alloc_new w _⟩
theorem One.set {w w' : World} {box new : Array Value} {g : Nat} (h : One w box w') (hg : w.heap.size < g) : One w box (w'.setRow g new) := ⟨below_setRow h.1 (by omega) _, by rw [setRow_other _ _ _ _ (by omega)]; exact h.2⟩
theorem One.setCell {w w' : World} {box : Array Value} {g i : Nat} (h : One w box w') (hg : w.heap.size < g) (u : Value) : One w box (w'.setCell ⟨g, i, none⟩ u) := ⟨h.1.setCell (by simp; omega) _, (Below.heap_setCell w' _ u _ (by simp; omega)).trans h.2⟩

def Gee (w : World) (box : Array Value) (g : Nat) (w' : World) : Prop := One w box w' ∧ ∃ X : Array Value, X.size = 11 ∧ w'.heap[g]? = some (.cells X 50 (0, 0))
theorem eql_edu (a b : Edu) (w : World) : (Op.equalIn 10000 50 a.val b.val).run Try.prog w = .ok (eqE a b) w := by
  obtain ⟨k, r, u, v, t, p, o, s, z, c, m⟩ := a
  obtain ⟨k', r', u', v', t', p', o', s', z', c', m'⟩ := b
  simp only [Edu.val, eqE]
  go_simp
  repeat' split
  all_goals simp_all

set_option maxHeartbeats 3200000 in
theorem local_any (e : Edu) (w : World) (hr : e.room.size ≤ maxLen) (hu : e.user.size ≤ maxLen) (hv : e.event.size ≤ maxLen) (ht : e.thread.size ≤ maxLen) : Calls Try.prog 73 #[e.val] w (BoolPost (localB e) w) := by
  obtain ⟨F, HF1, HF3, HF2⟩ := asked e hr hu hv ht
  have HL := Lib.hid (local_eq e)
  generalize localB e = lb at *
  generalize rightA e = rb at *
  cases hn : namedA e with
  | mk k' r' u' v' t' p' o' s' z' c' m' =>
  rw [hn] at HL HF2
  clear hn
  obtain ⟨k, r, u, v, t, p, o, s, z, c, m⟩ := e
  clear hr hu hv ht
  simp only [Edu.val] at HF2 ⊢
  simp only at HL HF1
  replace HF2 := Lib.hid HF2
  replace HF1 := Lib.hid HF1
  replace HF3 := Lib.hid HF3
  go_enter Try.func73, Try.ntmps73
  go_upto_region 1 with (fail)
  have hT := (one_new w #[.int .i64 k, .string r, .string u, .string v, .string t, .bool p, .bool o, .int .i64 s, .int .i64 z, .int .i64 c, .int .i64 m]).drew
  generalize hW : (w.alloc (.cells #[.int .i64 k, .string r, .string u, .string v, .string t, .bool p, .bool o, .int .i64 s, .int .i64 z, .int .i64 c, .int .i64 m] 50)) = W at hT ⊢
  clear hW
  go_cut [3, 4] (fun s3 s4 wx => ∃ g, s3 = .pointer (some ⟨g, 0, none⟩) ∧ s4 = .bool rb ∧ Hid (One w #[.int .i64 k, .string r, .string u, .string v, .string t, .bool p, .bool o, .int .i64 s, .int .i64 z, .int .i64 c, .int .i64 m] wx) ∧ Hid (wx.heap[g]? = some (.cells #[.int .i64 k', .string r', .string u', .string v', .string t', .bool p', .bool o', .int .i64 s', .int .i64 z', .int .i64 c', .int .i64 m'] 50 (0, 0))) ∧ w.heap.size < g)
  case first =>
    refine wp_region_held_drew (S := fun w' => One w #[.int .i64 k, .string r, .string u, .string v, .string t, .bool p, .bool o, .int .i64 s, .int .i64 z, .int .i64 c, .int .i64 m] w') (by kernel_rfl) hT (fun hHeld => ?_)
    clear hT
    refine wpAnyH_take (i := 0) (oi := ⟨some 6, _, _, _, _, _⟩) (v := ?v0) rfl (by kernel_rfl) (by kernel_rfl) (by kernel_rfl) (fun _ _ _ h => h) (Or.inl ⟨by rfl, ?y0⟩) hHeld ?r0
    case y0 =>
      intro wx hSx
      go_simp
      try with_reducible rfl
    try simp only [Act.put, List.setIfInBounds_toArray, List.set_cons_zero, List.set_cons_succ]
    refine wpAnyH_take (i := 1) (oi := ⟨some 7, _, _, _, _, _⟩) (v := ?v1) rfl (by kernel_rfl) (by kernel_rfl) (by kernel_rfl) (fun _ _ _ h => h) (Or.inl ⟨by rfl, ?y1⟩) hHeld ?r1
    case y1 =>
      intro wx hSx
      obtain ⟨d0, d1, d2, d3, d4, d5, d6, d7, d8, d9, d10⟩ := cells11 hSx.2
      go_simp
      try with_reducible rfl
    try simp only [Act.put, List.setIfInBounds_toArray, List.set_cons_zero, List.set_cons_succ]
    refine anyH_asks (i := 2) (oi := ⟨some 8, _, _, _, _, _⟩) (v := .func (.func F) #[] #[]) rfl (by kernel_rfl) (by kernel_rfl) (by kernel_rfl) (fun _ _ _ h => h) ⟨by rfl, fun wx hSx => ⟨_, _, ?e2, HF1.out _⟩⟩ hHeld ?r2
    case e2 => go_simp
    try simp only [Act.put, List.setIfInBounds_toArray, List.set_cons_zero, List.set_cons_succ]
    refine wpAnyH_take (i := 3) (oi := ⟨some 9, _, _, _, _, _⟩) (v := ?v3) rfl (by kernel_rfl) (by kernel_rfl) (by kernel_rfl) (fun _ _ _ h => h) (Or.inl ⟨by rfl, ?y3⟩) hHeld ?r3
    case y3 =>
      intro wx hSx
      obtain ⟨d0, d1, d2, d3, d4, d5, d6, d7, d8, d9, d10⟩ := cells11 hSx.2
      go_simp
      try with_reducible rfl
    try simp only [Act.put, List.setIfInBounds_toArray, List.set_cons_zero, List.set_cons_succ]
    refine wpAnyH_ready (rs := [4, 8]) (by kernel_rfl) (by simp) ?_
    refine AllReadyH.cons (o := ⟨some 10, _, _, _, _, _⟩) rfl (fun K hK => ?wayA) (AllReadyH.cons (o := ⟨some 3, _, _, _, _, _⟩) rfl (fun K hK => ?wayB) AllReadyH.nil)
    case wayA =>
      go_simp
      rw [HF3.out, Oper.upon_enter]
      refine (HF2.out _).mono ?_
      rintro e wn ⟨rfl, hbn⟩
      refine hK.out _ _ (hHeld.later hbn) (fun hH => ?_)
      replace hHeld := hH
      clear hK K hbn hH
      try simp only [Act.put, List.setIfInBounds_toArray, List.set_cons_zero, List.set_cons_succ]
      refine wpAnyH_take (i := 5) (oi := ⟨some 5, _, _, _, _, _⟩) (v := ?vA5) rfl (by kernel_rfl) (by kernel_rfl) (by kernel_rfl) (fun _ _ _ h => h) (Or.inl ⟨by rfl, ?yA5⟩) hHeld ?rA5
      case yA5 =>
        intro wx hSx
        go_simp
        try with_reducible rfl
      try simp only [Act.put, List.setIfInBounds_toArray, List.set_cons_zero, List.set_cons_succ]
      refine wpAnyH_take (i := 6) (oi := ⟨some 11, _, _, _, _, _⟩) (v := ?vA6) rfl (by kernel_rfl) (by kernel_rfl) (by kernel_rfl) (fun _ _ _ h => h) (Or.inl ⟨by rfl, ?yA6⟩) hHeld ?rA6
      case yA6 =>
        intro wx hSx
        go_simp
        try with_reducible rfl
      try simp only [Act.put, List.setIfInBounds_toArray, List.set_cons_zero, List.set_cons_succ]
      refine wpAnyH_take (i := 7) (oi := ⟨some 12, _, _, _, _, _⟩) (v := ?vA7) rfl (by kernel_rfl) (by kernel_rfl) (by kernel_rfl) (fun _ _ _ h => h) (Or.inl ⟨by rfl, ?yA7⟩) hHeld ?rA7
      case yA7 =>
        intro wx hSx
        go_simp
        try with_reducible rfl
      try simp only [Act.put, List.setIfInBounds_toArray, List.set_cons_zero, List.set_cons_succ]
      refine wpAnyH_ready (rs := [8]) (by kernel_rfl) (by simp) ?_
      refine AllReadyH.cons (o := ⟨some 3, _, _, _, _, _⟩) rfl (fun K hK => ?_) AllReadyH.nil
      have hlt := heap_lt hHeld.2
      have hnew := heap_alloc_new wn (.cells #[.int .i64 0, .string ⟨#[]⟩, .string ⟨#[]⟩, .string ⟨#[]⟩, .string ⟨#[]⟩, .bool false, .bool false, .int .i64 0, .int .i64 0, .int .i64 0, .int .i64 0] 50)
      have hH := hHeld.later (below_new wn (.cells #[.int .i64 0, .string ⟨#[]⟩, .string ⟨#[]⟩, .string ⟨#[]⟩, .string ⟨#[]⟩, .bool false, .bool false, .int .i64 0, .int .i64 0, .int .i64 0, .int .i64 0] 50))
      go_simp
      refine hK.out _ _ hH (fun hHeld => ?_)
      clear hK K hH
      try simp only [Act.put, List.setIfInBounds_toArray, List.set_cons_zero, List.set_cons_succ]
      generalize hW3 : World.alloc _ _ = W3 at hnew hHeld ⊢
      clear hW3
      generalize hgg : wn.heap.size = g at hnew hlt ⊢
      clear hgg
      refine wpAnyH_ready (rs := [9]) (by kernel_rfl) (by simp) ?_
      refine AllReadyH.cons (o := ⟨none, _, _, _, _, _⟩) rfl (fun K hK => ?_) AllReadyH.nil
      rw [if_pos (by rfl)]
      refine wp_store_row 50 (.tmp 3) (.tmp 11) rfl g #[.int .i64 k', .string r', .string u', .string v', .string t', .bool p', .bool o', .int .i64 s', .int .i64 z', .int .i64 c', .int .i64 m'] rfl rfl 50 #[.int .i64 0, .string ⟨#[]⟩, .string ⟨#[]⟩, .string ⟨#[]⟩, .string ⟨#[]⟩, .bool false, .bool false, .int .i64 0, .int .i64 0, .int .i64 0, .int .i64 0] hnew edu_info rfl (one11 _ _ _ _ _ _ _ _ _ _ _) ?_
      have hset := setRow_heap _ _ _ #[.int .i64 k', .string r', .string u', .string v', .string t', .bool p', .bool o', .int .i64 s', .int .i64 z', .int .i64 c', .int .i64 m'] _ _ hnew
      have hH := hHeld.set (new := #[.int .i64 k', .string r', .string u', .string v', .string t', .bool p', .bool o', .int .i64 s', .int .i64 z', .int .i64 c', .int .i64 m']) hlt
      refine hK.out _ _ hH (fun hHeld => ?_)
      clear hK K hH
      try simp only [Act.put, List.setIfInBounds_toArray, List.set_cons_zero, List.set_cons_succ]
      generalize hW2 : World.setRow _ _ _ = W2 at hset hHeld ⊢
      clear hW2
      refine wpAnyH_take (i := 10) (oi := ⟨some 4, _, _, _, _, _⟩) (v := ?vA10) rfl (by kernel_rfl) (by kernel_rfl) (by kernel_rfl) (fun _ _ _ h => h) (Or.inl ⟨by rfl, ?yA10⟩) hHeld ?rA10
      case yA10 =>
        intro wx hSx
        go_simp
        try with_reducible rfl
      try simp only [Act.put, List.setIfInBounds_toArray, List.set_cons_zero, List.set_cons_succ]
      refine wpAnyH_done (by kernel_rfl) ?_ _
      have HO := Lib.hid hHeld
      have HS := Lib.hid hset
      clear hHeld hset
      go_wp2_with fail
      go_meet
      exact ⟨g, rfl, rfl, HO, HS, hlt⟩
    case wayB =>
      generalize hWd : W.drew = wd at hHeld ⊢
      clear hWd
      have hlt := heap_lt hHeld.2
      have hnew := heap_alloc_new wd (.cells #[.int .i64 0, .string ⟨#[]⟩, .string ⟨#[]⟩, .string ⟨#[]⟩, .string ⟨#[]⟩, .bool false, .bool false, .int .i64 0, .int .i64 0, .int .i64 0, .int .i64 0] 50)
      have hH := hHeld.later (below_new wd (.cells #[.int .i64 0, .string ⟨#[]⟩, .string ⟨#[]⟩, .string ⟨#[]⟩, .string ⟨#[]⟩, .bool false, .bool false, .int .i64 0, .int .i64 0, .int .i64 0, .int .i64 0] 50))
      go_simp
      refine hK.out _ _ hH (fun hHeld => ?_)
      clear hK K hH
      try simp only [Act.put, List.setIfInBounds_toArray, List.set_cons_zero, List.set_cons_succ]
      generalize hW3 : World.alloc _ _ = W3 at hnew hHeld ⊢
      clear hW3
      generalize hgg : wd.heap.size = g at hnew hlt ⊢
      clear hgg
      refine wpAnyH_ready (rs := [4]) (by kernel_rfl) (by simp) ?_
      refine AllReadyH.cons (o := ⟨some 10, _, _, _, _, _⟩) rfl (fun K hK => ?_) AllReadyH.nil
      go_simp
      rw [HF3.out, Oper.upon_enter]
      refine (HF2.out _).mono ?_
      rintro e wn ⟨rfl, hbn⟩
      replace hnew := (hbn.block _ (heap_lt hnew)).trans hnew
      refine hK.out _ _ (hHeld.later hbn) (fun hH => ?_)
      replace hHeld := hH
      clear hK K hbn hH
      try simp only [Act.put, List.setIfInBounds_toArray, List.set_cons_zero, List.set_cons_succ]
      refine wpAnyH_take (i := 5) (oi := ⟨some 5, _, _, _, _, _⟩) (v := ?vB5) rfl (by kernel_rfl) (by kernel_rfl) (by kernel_rfl) (fun _ _ _ h => h) (Or.inl ⟨by rfl, ?yB5⟩) hHeld ?rB5
      case yB5 =>
        intro wx hSx
        go_simp
        try with_reducible rfl
      try simp only [Act.put, List.setIfInBounds_toArray, List.set_cons_zero, List.set_cons_succ]
      refine wpAnyH_take (i := 6) (oi := ⟨some 11, _, _, _, _, _⟩) (v := ?vB6) rfl (by kernel_rfl) (by kernel_rfl) (by kernel_rfl) (fun _ _ _ h => h) (Or.inl ⟨by rfl, ?yB6⟩) hHeld ?rB6
      case yB6 =>
        intro wx hSx
        go_simp
        try with_reducible rfl
      try simp only [Act.put, List.setIfInBounds_toArray, List.set_cons_zero, List.set_cons_succ]
      refine wpAnyH_take (i := 7) (oi := ⟨some 12, _, _, _, _, _⟩) (v := ?vB7) rfl (by kernel_rfl) (by kernel_rfl) (by kernel_rfl) (fun _ _ _ h => h) (Or.inl ⟨by rfl, ?yB7⟩) hHeld ?rB7
      case yB7 =>
        intro wx hSx
        go_simp
        try with_reducible rfl
      try simp only [Act.put, List.setIfInBounds_toArray, List.set_cons_zero, List.set_cons_succ]
      refine wpAnyH_ready (rs := [9]) (by kernel_rfl) (by simp) ?_
      refine AllReadyH.cons (o := ⟨none, _, _, _, _, _⟩) rfl (fun K hK => ?_) AllReadyH.nil
      rw [if_pos (by rfl)]
      refine wp_store_row 50 (.tmp 3) (.tmp 11) rfl g #[.int .i64 k', .string r', .string u', .string v', .string t', .bool p', .bool o', .int .i64 s', .int .i64 z', .int .i64 c', .int .i64 m'] rfl rfl 50 #[.int .i64 0, .string ⟨#[]⟩, .string ⟨#[]⟩, .string ⟨#[]⟩, .string ⟨#[]⟩, .bool false, .bool false, .int .i64 0, .int .i64 0, .int .i64 0, .int .i64 0] hnew edu_info rfl (one11 _ _ _ _ _ _ _ _ _ _ _) ?_
      have hset := setRow_heap _ _ _ #[.int .i64 k', .string r', .string u', .string v', .string t', .bool p', .bool o', .int .i64 s', .int .i64 z', .int .i64 c', .int .i64 m'] _ _ hnew
      have hH := hHeld.set (new := #[.int .i64 k', .string r', .string u', .string v', .string t', .bool p', .bool o', .int .i64 s', .int .i64 z', .int .i64 c', .int .i64 m']) hlt
      refine hK.out _ _ hH (fun hHeld => ?_)
      clear hK K hH
      try simp only [Act.put, List.setIfInBounds_toArray, List.set_cons_zero, List.set_cons_succ]
      generalize hW2 : World.setRow _ _ _ = W2 at hset hHeld ⊢
      clear hW2
      refine wpAnyH_take (i := 10) (oi := ⟨some 4, _, _, _, _, _⟩) (v := ?vB10) rfl (by kernel_rfl) (by kernel_rfl) (by kernel_rfl) (fun _ _ _ h => h) (Or.inl ⟨by rfl, ?yB10⟩) hHeld ?rB10
      case yB10 =>
        intro wx hSx
        go_simp
        try with_reducible rfl
      try simp only [Act.put, List.setIfInBounds_toArray, List.set_cons_zero, List.set_cons_succ]
      refine wpAnyH_done (by kernel_rfl) ?_ _
      have HO := Lib.hid hHeld
      have HS := Lib.hid hset
      clear hHeld hset
      go_wp2_with fail
      go_meet
      exact ⟨g, rfl, rfl, HO, HS, hlt⟩
  case rest =>
    obtain ⟨g, rfl, rfl, HO, HS, hg⟩ := hcut
    go_upto_region 2 with (fail)
    have hT : Gee w #[.int .i64 k, .string r, .string u, .string v, .string t, .bool p, .bool o, .int .i64 s, .int .i64 z, .int .i64 c, .int .i64 m] g wc.drew := ⟨HO.out.drew, _, rfl, HS.out⟩
    have hcur := HS.out
    replace hcur : wc.drew.heap[g]? = _ := hcur
    clear HO HS
    refine wp_region_held_drew (S := fun w' => Gee w #[.int .i64 k, .string r, .string u, .string v, .string t, .bool p, .bool o, .int .i64 s, .int .i64 z, .int .i64 c, .int .i64 m] g w') (by kernel_rfl) hT (fun hHeld => ?_)
    clear hT
    generalize hwd : wc.drew = wd at hcur hHeld ⊢
    clear hwd
    refine wpAnyH_take (i := 0) (oi := ⟨some 13, _, _, _, _, _⟩) (v := ?vr0) rfl (by kernel_rfl) (by kernel_rfl) (by kernel_rfl) (fun _ _ _ h => h) (Or.inl ⟨by rfl, ?yr0⟩) hHeld ?rr0
    case yr0 =>
      intro wx hSx
      go_simp
      try with_reducible rfl
    try simp only [Act.put, List.setIfInBounds_toArray, List.set_cons_zero, List.set_cons_succ]
    refine wpAnyH_take (i := 1) (oi := ⟨some 14, _, _, _, _, _⟩) (v := ?vr1) rfl (by kernel_rfl) (by kernel_rfl) (by kernel_rfl) (fun _ _ _ h => h) (Or.inl ⟨by rfl, ?yr1⟩) hHeld ?rr1
    case yr1 =>
      intro wx hSx
      obtain ⟨d0, d1, d2, d3, d4, d5, d6, d7, d8, d9, d10⟩ := cells11 hSx.1.2
      go_simp
      try with_reducible rfl
    try simp only [Act.put, List.setIfInBounds_toArray, List.set_cons_zero, List.set_cons_succ]
    refine wpAnyH_take (i := 2) (oi := ⟨some 15, _, _, _, _, _⟩) (v := ?vr2) rfl (by kernel_rfl) (by kernel_rfl) (by kernel_rfl) (fun _ _ _ h => h) (Or.inl ⟨by rfl, ?yr2⟩) hHeld ?rr2
    case yr2 =>
      intro wx hSx
      go_simp
      try with_reducible rfl
    try simp only [Act.put, List.setIfInBounds_toArray, List.set_cons_zero, List.set_cons_succ]
    refine wpAnyH_take (i := 3) (oi := ⟨some 16, _, _, _, _, _⟩) (v := ?vr3) rfl (by kernel_rfl) (by kernel_rfl) (by kernel_rfl) (fun _ _ _ h => h) (Or.inl ⟨by rfl, ?yr3⟩) hHeld ?rr3
    case yr3 =>
      intro wx hSx
      obtain ⟨d0, d1, d2, d3, d4, d5, d6, d7, d8, d9, d10⟩ := cells11 hSx.1.2
      go_simp
      try with_reducible rfl
    try simp only [Act.put, List.setIfInBounds_toArray, List.set_cons_zero, List.set_cons_succ]
    refine wpAnyH_take (i := 4) (oi := ⟨some 17, _, _, _, _, _⟩) (v := ?vr4) rfl (by kernel_rfl) (by kernel_rfl) (by kernel_rfl) (fun _ _ _ h => h) (Or.inl ⟨by rfl, ?yr4⟩) hHeld ?rr4
    case yr4 =>
      intro wx hSx
      go_simp
      try with_reducible rfl
    try simp only [Act.put, List.setIfInBounds_toArray, List.set_cons_zero, List.set_cons_succ]
    refine wpAnyH_take (i := 5) (oi := ⟨some 18, _, _, _, _, _⟩) (v := ?vr5) rfl (by kernel_rfl) (by kernel_rfl) (by kernel_rfl) (fun _ _ _ h => h) (Or.inl ⟨by rfl, ?yr5⟩) hHeld ?rr5
    case yr5 =>
      intro wx hSx
      obtain ⟨d0, d1, d2, d3, d4, d5, d6, d7, d8, d9, d10⟩ := cells11 hSx.1.2
      go_simp
      try with_reducible rfl
    try simp only [Act.put, List.setIfInBounds_toArray, List.set_cons_zero, List.set_cons_succ]
    refine wpAnyH_take (i := 6) (oi := ⟨some 19, _, _, _, _, _⟩) (v := ?vr6) rfl (by kernel_rfl) (by kernel_rfl) (by kernel_rfl) (fun _ _ _ h => h) (Or.inl ⟨by rfl, ?yr6⟩) hHeld ?rr6
    case yr6 =>
      intro wx hSx
      go_simp
      try with_reducible rfl
    try simp only [Act.put, List.setIfInBounds_toArray, List.set_cons_zero, List.set_cons_succ]
    have hcell := cell_at hcur 0
    have hfr := free_at hcur 0
    replace hcell : World.cell? _ _ = some (.int .i64 k') := hcell
    refine wpAnyH_ready (rs := [7]) (by kernel_rfl) (by simp) ?_
    refine AllReadyH.cons (o := ⟨none, _, _, _, _, _⟩) rfl (fun K hK => ?_) AllReadyH.nil
    go_simp
    have hnxt := heap_set hcur 0 (.int .i64 k)
    have hH : Gee w #[.int .i64 k, .string r, .string u, .string v, .string t, .bool p, .bool o, .int .i64 s, .int .i64 z, .int .i64 c, .int .i64 m] g _ := ⟨hHeld.1.setCell hg (.int .i64 k), _, rfl, hnxt⟩
    refine hK.out _ _ hH (fun hHeld => ?_)
    clear hK K hH hcell hfr hcur
    try simp only [Act.put, List.setIfInBounds_toArray, List.set_cons_zero, List.set_cons_succ]
    generalize hWs : World.setCell _ _ _ = ws0 at hnxt hHeld ⊢
    clear hWs
    have hcur : ws0.heap[g]? = some (.cells #[.int .i64 k, .string r', .string u', .string v', .string t', .bool p', .bool o', .int .i64 s', .int .i64 z', .int .i64 c', .int .i64 m'] 50 (0, 0)) := hnxt
    clear hnxt
    refine wpAnyH_take (i := 8) (oi := ⟨some 20, _, _, _, _, _⟩) (v := ?vr8) rfl (by kernel_rfl) (by kernel_rfl) (by kernel_rfl) (fun _ _ _ h => h) (Or.inl ⟨by rfl, ?yr8⟩) hHeld ?rr8
    case yr8 =>
      intro wx hSx
      go_simp
      try with_reducible rfl
    try simp only [Act.put, List.setIfInBounds_toArray, List.set_cons_zero, List.set_cons_succ]
    have hcell := cell_at hcur 9
    have hfr := free_at hcur 9
    replace hcell : World.cell? _ _ = some (.int .i64 c') := hcell
    refine wpAnyH_ready (rs := [9]) (by kernel_rfl) (by simp) ?_
    refine AllReadyH.cons (o := ⟨none, _, _, _, _, _⟩) rfl (fun K hK => ?_) AllReadyH.nil
    go_simp
    have hnxt := heap_set hcur 9 (.int .i64 c)
    have hH : Gee w #[.int .i64 k, .string r, .string u, .string v, .string t, .bool p, .bool o, .int .i64 s, .int .i64 z, .int .i64 c, .int .i64 m] g _ := ⟨hHeld.1.setCell hg (.int .i64 c), _, rfl, hnxt⟩
    refine hK.out _ _ hH (fun hHeld => ?_)
    clear hK K hH hcell hfr hcur
    try simp only [Act.put, List.setIfInBounds_toArray, List.set_cons_zero, List.set_cons_succ]
    generalize hWs : World.setCell _ _ _ = ws1 at hnxt hHeld ⊢
    clear hWs
    have hcur : ws1.heap[g]? = some (.cells #[.int .i64 k, .string r', .string u', .string v', .string t', .bool p', .bool o', .int .i64 s', .int .i64 z', .int .i64 c, .int .i64 m'] 50 (0, 0)) := hnxt
    clear hnxt
    refine wpAnyH_take (i := 10) (oi := ⟨some 21, _, _, _, _, _⟩) (v := ?vr10) rfl (by kernel_rfl) (by kernel_rfl) (by kernel_rfl) (fun _ _ _ h => h) (Or.inl ⟨by rfl, ?yr10⟩) hHeld ?rr10
    case yr10 =>
      intro wx hSx
      go_simp
      try with_reducible rfl
    try simp only [Act.put, List.setIfInBounds_toArray, List.set_cons_zero, List.set_cons_succ]
    have hcell := cell_at hcur 10
    have hfr := free_at hcur 10
    replace hcell : World.cell? _ _ = some (.int .i64 m') := hcell
    refine wpAnyH_ready (rs := [11]) (by kernel_rfl) (by simp) ?_
    refine AllReadyH.cons (o := ⟨none, _, _, _, _, _⟩) rfl (fun K hK => ?_) AllReadyH.nil
    go_simp
    have hnxt := heap_set hcur 10 (.int .i64 m)
    have hH : Gee w #[.int .i64 k, .string r, .string u, .string v, .string t, .bool p, .bool o, .int .i64 s, .int .i64 z, .int .i64 c, .int .i64 m] g _ := ⟨hHeld.1.setCell hg (.int .i64 m), _, rfl, hnxt⟩
    refine hK.out _ _ hH (fun hHeld => ?_)
    clear hK K hH hcell hfr hcur
    try simp only [Act.put, List.setIfInBounds_toArray, List.set_cons_zero, List.set_cons_succ]
    generalize hWs : World.setCell _ _ _ = ws2 at hnxt hHeld ⊢
    clear hWs
    have hcur : ws2.heap[g]? = some (.cells #[.int .i64 k, .string r', .string u', .string v', .string t', .bool p', .bool o', .int .i64 s', .int .i64 z', .int .i64 c, .int .i64 m] 50 (0, 0)) := hnxt
    clear hnxt
    refine wpAnyH_done (by kernel_rfl) ?_ _
    have HB := Lib.hid hHeld.1.1
    obtain ⟨d0, d1, d2, d3, d4, d5, d6, d7, d8, d9, d10⟩ := cells11 hHeld.1.2
    obtain ⟨f0, f1, f2, f3, f4, f5, f6, f7, f8, f9, f10⟩ := cells11 hcur
    clear hHeld hcur
    have heq := eql_edu ⟨k, r, u, v, t, p, o, s, z, c, m⟩ ⟨k, r', u', v', t', p', o', s', z', c, m⟩
    simp only [Edu.val] at heq
    replace HL := HL.out
    generalize eqE _ _ = eb at heq HL
    cases rb
    · go_wp2_with fail
      go_ret
      exact ⟨by rw [HL]; rfl, HB.out⟩
    · cases eb
      · go_wp2_with fail
        go_ret
        exact ⟨by rw [HL]; rfl, HB.out⟩
      · go_wp2_with fail
        refine (within_any c 0 1099511627776 _).mono ?_
        rintro e wz ⟨rfl, rfl⟩
        cases hq : decide (0 ≤ c ∧ c ≤ 1099511627776)
        · rw [hq] at HL
          go_wp2_with fail
          go_ret
          exact ⟨by rw [HL]; rfl, HB.out⟩
        · rw [hq] at HL
          go_wp2_with fail
          refine (within_any m 0 1099511627776 _).mono ?_
          rintro e wz ⟨rfl, rfl⟩
          generalize decide (0 ≤ m ∧ m ≤ 1099511627776) = mb at HL ⊢
          go_wp2_with fail
          go_ret
          exact ⟨by rw [HL]; rfl, HB.out⟩

set_option maxHeartbeats 800000 in
theorem may_any (e : Edu) (w : World) (hr : e.room.size ≤ maxLen) (hu : e.user.size ≤ maxLen) (hv : e.event.size ≤ maxLen) (ht : e.thread.size ≤ maxLen) : Calls Try.prog 53 #[e.val] w (BoolPost (mayB e) w) := by
  have hL := fun w => local_any e w hr hu hv ht
  have HM := Lib.hid (show mayB e = (localB e && !e.priv) from rfl)
  generalize mayB e = mb at *
  generalize localB e = lb at *
  obtain ⟨k, r, u, v, t, p, o, s, z, c, m⟩ := e
  clear hr hu hv ht
  simp only [Edu.val] at hL ⊢
  simp only at HM
  replace hL := Lib.hid hL
  go_enter Try.func53, Try.ntmps53
  go_wp2_with fail
  have hT := one_new w #[.int .i64 k, .string r, .string u, .string v, .string t, .bool p, .bool o, .int .i64 s, .int .i64 z, .int .i64 c, .int .i64 m]
  generalize hW : (w.alloc (.cells #[.int .i64 k, .string r, .string u, .string v, .string t, .bool p, .bool o, .int .i64 s, .int .i64 z, .int .i64 c, .int .i64 m] 50)) = W at hT ⊢
  clear hW
  refine (hL.out _).mono ?_
  rintro e w1 ⟨rfl, hb1⟩
  replace hT := hT.later hb1
  clear hb1
  obtain ⟨d0, d1, d2, d3, d4, d5, d6, d7, d8, d9, d10⟩ := cells11 hT.2
  have HB := Lib.hid hT.1
  clear hT
  cases lb
  · go_wp2_with fail
    go_ret
    exact ⟨by rw [HM.out]; rfl, HB.out⟩
  · cases p
    all_goals
      go_wp2_with fail
      go_ret
      exact ⟨by rw [HM.out]; rfl, HB.out⟩
end Go.Proofs.Ytnabbebkmafakaa

namespace Go.Proofs.Ytnabbebkmafakaa
open Go.RowKit
set_option linter.unusedVariables false
set_option linter.unusedSimpArgs false
set_option maxRecDepth 20000

/-- The texts of an EDU, and its last numbers. -/
def txtK (e : Edu) (k : Nat) : ByteArray := if k = 0 then e.room else if k = 1 then e.user else if k = 2 then e.event else e.thread
def numK (e : Edu) (k : Nat) : Int := if k = 0 then e.span else if k = 1 then e.state else if k = 2 then e.tick else e.stamp
def headB (e : Edu) : Nat → List UInt8
  | 0 => digs (natI e.kind)
  | k + 1 => headB e k ++ textB (txtK e k)
def tailB (e : Edu) : Nat → List UInt8
  | 0 => headB e 4 ++ flagB e.on
  | k + 1 => tailB e k ++ digs (natI (numK e k))
theorem tail_all (e : Edu) : tailB e 4 = bytesB e := by
  simp [tailB, headB, bytesB, txtK, numK, List.append_assoc]
def Edu.short (e : Edu) : Prop := e.room.size ≤ 40 ∧ e.user.size ≤ 40 ∧ e.event.size ≤ 40 ∧ e.thread.size ≤ 40
theorem txt_short {e : Edu} (h : e.short) (k : Nat) : (txtK e k).size ≤ 40 := by
  obtain ⟨h1, h2, h3, h4⟩ := h
  unfold txtK
  split
  · exact h1
  · split
    · exact h2
    · split
      · exact h3
      · exact h4
theorem num_fits {e : Edu} (h : e.fits) (k : Nat) : -9223372036854775808 ≤ numK e k ∧ numK e k ≤ 9223372036854775807 := by
  obtain ⟨h0, h1, h2, h3, h4⟩ := h
  unfold numK
  split
  · exact h1
  · split
    · exact h2
    · split
      · exact h3
      · exact h4
theorem head_len {e : Edu} (hf : e.fits) (h : e.short) : ∀ k, (headB e k).length ≤ 9 + 49 * k
  | 0 => len_digs _ (natI_lt _ hf.1.2)
  | k + 1 => by
    have h1 := head_len hf h k
    have h2 := textB_len (txtK e k)
    have h3 := txt_short h k
    have h4 := len_digs (txtK e k).size (Nat.lt_of_le_of_lt h3 (by decide))
    rw [headB, List.length_append]
    omega
theorem tail_len {e : Edu} (hf : e.fits) (h : e.short) : ∀ k, (tailB e k).length ≤ 206 + 9 * k
  | 0 => by
    have h1 := head_len hf h 4
    rw [tailB, List.length_append]
    have : (flagB e.on).length = 1 := rfl
    omega
  | k + 1 => by
    have h1 := tail_len hf h k
    have h4 := len_digs _ (natI_lt _ (num_fits hf k).2)
    rw [tailB, List.length_append]
    omega
theorem bytes_len {e : Edu} (hf : e.fits) (h : e.short) : (bytesB e).length ≤ 242 := by rw [← tail_all]; exact tail_len hf h 4

/-- A struct, and a list of its own behind it. -/
def Listed (w : World) (box : Array Value) (L : Nat) (l : Array Value) (ty : TypeId) (w' : World) : Prop := One w box w' ∧ w'.heap[L]? = some (.cells l ty (0, 0)) ∧ w.heap.size < L
theorem Listed.later {w w' w'' : World} {box l : Array Value} {L : Nat} {ty : TypeId} (h : Listed w box L l ty w') (hb : Below w'.heap.size w' w'') : Listed w box L l ty w'' := ⟨h.1.later hb, (hb.block _ (heap_lt h.2.1)).trans h.2.1, h.2.2⟩

theorem str_cell (e : Edu) {w : World} {L : Nat} {ty : TypeId} (h : w.heap[L]? = some (.cells #[.string e.room, .string e.user, .string e.event, .string e.thread] ty (0, 0))) {k : Nat} (hk : k < 4) : w.cell? ⟨L, k, none⟩ = some (.string (txtK e k)) := by
  rw [cell_at h k]
  rcases (show k = 0 ∨ k = 1 ∨ k = 2 ∨ k = 3 by omega) with rfl | rfl | rfl | rfl <;> rfl
theorem int_cell (e : Edu) {w : World} {L : Nat} {ty : TypeId} (h : w.heap[L]? = some (.cells #[.int .i64 e.span, .int .i64 e.state, .int .i64 e.tick, .int .i64 e.stamp] ty (0, 0))) {k : Nat} (hk : k < 4) : w.cell? ⟨L, k, none⟩ = some (.int .i64 (numK e k)) := by
  rw [cell_at h k]
  rcases (show k = 0 ∨ k = 1 ∨ k = 2 ∨ k = 3 by omega) with rfl | rfl | rfl | rfl <;> rfl

set_option maxHeartbeats 3200000 in
theorem laid_any (e : Edu) (w : World) (hf : e.fits) (hs : e.short) : Calls Try.prog 54 #[e.val] w (PutPost w (bytesB e)) := by
  have HH := Lib.hid (head_len hf hs)
  have HT := Lib.hid (tail_len hf hs)
  have HA := Lib.hid (tail_all e)
  have HX := Lib.hid (txt_short hs)
  have HN := Lib.hid (num_fits hf)
  have hk0 := hf.1
  have HC := Lib.hid (fun (W : World) (L : Nat) (ty : TypeId) h (k : Nat) => str_cell e (w := W) (L := L) (ty := ty) h (k := k))
  have HI := Lib.hid (fun (W : World) (L : Nat) (ty : TypeId) h (k : Nat) => int_cell e (w := W) (L := L) (ty := ty) h (k := k))
  have H0 := Lib.hid (show headB e 0 = digs (natI e.kind) from rfl)
  have H1 := Lib.hid (show ∀ k, headB e (k + 1) = headB e k ++ textB (txtK e k) from fun _ => rfl)
  have H2 := Lib.hid (show ∀ k, tailB e (k + 1) = tailB e k ++ digs (natI (numK e k)) from fun _ => rfl)
  have H3 := Lib.hid (show tailB e 0 = headB e 4 ++ flagB e.on from rfl)
  clear hf hs
  generalize headB e = hd at *
  generalize tailB e = tl at *
  generalize bytesB e = bb at *
  generalize txtK e = tk at *
  generalize numK e = nk at *
  obtain ⟨k, r, u, v, t, p, o, s, z, c, m⟩ := e
  simp only [Edu.val] at *
  go_enter Try.func54, Try.ntmps54
  go_wp2_with fail
  have hO := one_new w #[.int .i64 k, .string r, .string u, .string v, .string t, .bool p, .bool o, .int .i64 s, .int .i64 z, .int .i64 c, .int .i64 m]
  have hWs := size_alloc1 w (.cells #[.int .i64 k, .string r, .string u, .string v, .string t, .bool p, .bool o, .int .i64 s, .int .i64 z, .int .i64 c, .int .i64 m] 50)
  generalize hW : (w.alloc (.cells #[.int .i64 k, .string r, .string u, .string v, .string t, .bool p, .bool o, .int .i64 s, .int .i64 z, .int .i64 c, .int .i64 m] 50)) = W at hO hWs ⊢
  clear hW
  refine (number_put (.slice none 0 0) [] 0 k _ (Row.nil _ _) (by simp) hk0.1 hk0.2).mono ?_
  rintro e w1 ⟨⟨g1, cap1, rfl, hg1, ho1⟩, hb1⟩
  rw [List.nil_append, ← H0.out] at ho1 ⊢
  replace hO := hO.later hb1
  obtain ⟨d0, d1, d2, d3, d4, d5, d6, d7, d8, d9, d10⟩ := cells11 hO.2
  have HO := Lib.hid hO
  have HW := Lib.hid ho1
  have hg1' : w.heap.size ≤ g1 := by have := HO.out.1.size; have := heap_lt HO.out.2; have := hWs; omega
  clear hO hb1 ho1 hg1 hWs W H0
  go_wp2_with fail
  have HL := Lib.hid (show Listed w #[.int .i64 k, .string r, .string u, .string v, .string t, .bool p, .bool o, .int .i64 s, .int .i64 z, .int .i64 c, .int .i64 m] w1.heap.size #[.string r, .string u, .string v, .string t] 9 (w1.alloc (.cells #[.string r, .string u, .string v, .string t] 9)) from ⟨HO.out.later (below_new w1 _), heap_alloc_new w1 _, heap_lt HO.out.2⟩)
  replace HW := Lib.hid (HW.out.below (below_new w1 (.cells #[.string r, .string u, .string v, .string t] 9)))
  have hlw : w.heap.size < w1.heap.size := heap_lt HO.out.2
  generalize hW : (w1.alloc (.cells #[.string r, .string u, .string v, .string t] 9)) = W at HL HW ⊢
  generalize hLL : w1.heap.size = L at HL hlw ⊢
  clear hW hLL HO d0 d1 d2 d3 d4 d5 d6 d7 d8 d9 d10
  clear w1
  go_loopw [3, 21] (fun b i wr => ∃ j : Nat, j ≤ 4 ∧ i = .int .i64 (j : Int) ∧ Hid (∃ g cap, b = .slice (some ⟨g, 0, none⟩) (hd j).length cap ∧ w.heap.size ≤ g ∧ Own wr g cap (hd j)) ∧ Hid (Listed w #[.int .i64 k, .string r, .string u, .string v, .string t, .bool p, .bool o, .int .i64 s, .int .i64 z, .int .i64 c, .int .i64 m] L #[.string r, .string u, .string v, .string t] 9 wr)) (fun _ i _ => 4 - (intOf i).toNat)
  case atStart => exact ⟨0, by omega, rfl, Lib.hid ⟨_, _, rfl, hg1', HW.out⟩, HL⟩
  case round =>
    obtain ⟨j, hj, rfl, HR, HK⟩ := hrel
    obtain ⟨g, cap, rfl, hgw, ho⟩ := HR.out
    replace ho := Lib.hid ho
    clear HR HW HL
    by_cases hlt : j < 4
    · have hc := HC.out _ _ _ HK.out.2.1 j hlt
      have q1 : decide ((j : Int) < 4) = true := decide_eq_true (by omega)
      have hlen := HH.out j
      have hl2 : (hd j).length ≤ 1000000 := by omega
      have hxs := HX.out j
      go_wp2_with fail
      refine (text_put _ (hd j) 0 (tk j) _ (ho.out.row (Nat.zero_le _)) hl2 (by omega)).mono ?_
      rintro e w2 ⟨⟨g2, cap2, rfl, hg2, ho2⟩, hb2⟩
      have HR2 := Lib.hid (show ∃ g cap, Value.slice (some ⟨g2, 0, none⟩) ((hd j).length + (textB (tk j)).length) cap2 = .slice (some ⟨g, 0, none⟩) (hd (j + 1)).length cap ∧ w.heap.size ≤ g ∧ Own w2 g cap (hd (j + 1)) from ⟨g2, cap2, by rw [H1.out, List.length_append], by have := HK.out.1.1.size; omega, own_cast ho2 (H1.out j).symm⟩)
      replace HK := Lib.hid (HK.out.later hb2)
      clear hb2 ho2 hc
      go_wp2_with fail
      go_roundw
      case rel => exact ⟨j + 1, by omega, by go_num, HR2, HK⟩
      case measure => simp [intOf]; omega
    · obtain rfl : j = 4 := by omega
      have hlen := HH.out 4
      have hl2 : (hd 4).length ≤ 1000000 := by omega
      obtain ⟨d0, d1, d2, d3, d4, d5, d6, d7, d8, d9, d10⟩ := cells11 HK.out.1.2
      go_wp2_with fail
      clear d0 d1 d2 d3 d4 d5 d6 d7 d8 d9 d10
      refine (flag_put _ (hd 4) 0 o _ (ho.out.row (Nat.zero_le _)) hl2).mono ?_
      rintro e w3 ⟨⟨g3, cap3, rfl, hg3, ho3⟩, hb3⟩
      rw [← H3.out] at ho3 ⊢
      have HO := Lib.hid (HK.out.later hb3).1
      have hgw3 : w.heap.size ≤ g3 := by have := HK.out.1.1.size; omega
      have HW := Lib.hid ho3
      clear hb3 ho3 HK ho hg3 hlen hl2
      obtain ⟨d0, d1, d2, d3, d4, d5, d6, d7, d8, d9, d10⟩ := cells11 HO.out.2
      go_wp2_with fail
      have HL := Lib.hid (show Listed w #[.int .i64 k, .string r, .string u, .string v, .string t, .bool p, .bool o, .int .i64 s, .int .i64 z, .int .i64 c, .int .i64 m] w3.heap.size #[.int .i64 s, .int .i64 z, .int .i64 c, .int .i64 m] 3 (w3.alloc (.cells #[.int .i64 s, .int .i64 z, .int .i64 c, .int .i64 m] 3)) from ⟨HO.out.later (below_new w3 _), heap_alloc_new w3 _, heap_lt HO.out.2⟩)
      replace HW := Lib.hid (HW.out.below (below_new w3 (.cells #[.int .i64 s, .int .i64 z, .int .i64 c, .int .i64 m] 3)))
      have hlw3 : w.heap.size < w3.heap.size := heap_lt HO.out.2
      generalize hW : (w3.alloc (.cells #[.int .i64 s, .int .i64 z, .int .i64 c, .int .i64 m] 3)) = W3 at HL HW ⊢
      generalize hLL : w3.heap.size = L3 at HL hlw3 ⊢
      clear hW hLL HO d0 d1 d2 d3 d4 d5 d6 d7 d8 d9 d10
      clear w3
      go_loopw [3, 43] (fun b i wr => ∃ j : Nat, j ≤ 4 ∧ i = .int .i64 (j : Int) ∧ Hid (∃ g cap, b = .slice (some ⟨g, 0, none⟩) (tl j).length cap ∧ w.heap.size ≤ g ∧ Own wr g cap (tl j)) ∧ Hid (Listed w #[.int .i64 k, .string r, .string u, .string v, .string t, .bool p, .bool o, .int .i64 s, .int .i64 z, .int .i64 c, .int .i64 m] L3 #[.int .i64 s, .int .i64 z, .int .i64 c, .int .i64 m] 3 wr)) (fun _ i _ => 4 - (intOf i).toNat)
      case atStart => exact ⟨0, by omega, rfl, Lib.hid ⟨_, _, rfl, hgw3, HW.out⟩, HL⟩
      case round =>
        obtain ⟨j, hj, rfl, HR, HK⟩ := hrel
        obtain ⟨g, cap, rfl, hgw, ho⟩ := HR.out
        replace ho := Lib.hid ho
        clear HR HW HL
        by_cases hlt : j < 4
        · have hc := HI.out _ _ _ HK.out.2.1 j hlt
          have q1 : decide ((j : Int) < 4) = true := decide_eq_true (by omega)
          have hlen := HT.out j
          have hl2 : (tl j).length ≤ 1000000 := by omega
          have hxs := HN.out j
          go_wp2_with fail
          refine (number_put _ (tl j) 0 (nk j) _ (ho.out.row (Nat.zero_le _)) hl2 hxs.1 hxs.2).mono ?_
          rintro e w2 ⟨⟨g2, cap2, rfl, hg2, ho2⟩, hb2⟩
          have HR2 := Lib.hid (show ∃ g cap, Value.slice (some ⟨g2, 0, none⟩) ((tl j).length + (digs (natI (nk j))).length) cap2 = .slice (some ⟨g, 0, none⟩) (tl (j + 1)).length cap ∧ w.heap.size ≤ g ∧ Own w2 g cap (tl (j + 1)) from ⟨g2, cap2, by rw [H2.out, List.length_append], by have := HK.out.1.1.size; omega, own_cast ho2 (H2.out j).symm⟩)
          replace HK := Lib.hid (HK.out.later hb2)
          clear hb2 ho2 hc
          go_wp2_with fail
          go_roundw
          case rel => exact ⟨j + 1, by omega, by go_num, HR2, HK⟩
          case measure => simp [intOf]; omega
        · obtain rfl : j = 4 := by omega
          go_wp2_with fail
          go_ret
          rw [HA.out] at *
          exact ⟨⟨g, cap, rfl, hgw, own_cast ho.out HA.out⟩, HK.out.1.1⟩

theorem short_max {e : Edu} (h : e.short) : e.room.size ≤ maxLen ∧ e.user.size ≤ maxLen ∧ e.event.size ≤ maxLen ∧ e.thread.size ≤ maxLen := by
  obtain ⟨h1, h2, h3, h4⟩ := h
  unfold maxLen
  omega
theorem write_no (e : Edu) (w : World) (hs : e.short) (hm : mayB e = false) : Calls Try.prog 32 #[e.val] w fun x w' => x = .returned (.tuple #[.slice none 0 0, .int .i64 1]) ∧ Below w.heap.size w w' := by
  obtain ⟨a1, a2, a3, a4⟩ := short_max hs
  have hL := fun w => may_any e w a1 a2 a3 a4
  rw [hm] at hL
  obtain ⟨k, r, u, v, t, p, o, s, z, c, m⟩ := e
  clear a1 a2 a3 a4 hs hm
  simp only [Edu.val] at hL ⊢
  replace hL := Lib.hid hL
  go_enter Try.func32, Try.ntmps32
  go_wp2_with fail
  have hT := one_new w #[.int .i64 k, .string r, .string u, .string v, .string t, .bool p, .bool o, .int .i64 s, .int .i64 z, .int .i64 c, .int .i64 m]
  generalize hW : (w.alloc (.cells #[.int .i64 k, .string r, .string u, .string v, .string t, .bool p, .bool o, .int .i64 s, .int .i64 z, .int .i64 c, .int .i64 m] 50)) = W at hT ⊢
  clear hW
  refine (hL.out _).mono ?_
  rintro e w1 ⟨rfl, hb1⟩
  have HB := Lib.hid (hT.later hb1).1
  clear hb1 hT
  go_wp2_with fail
  go_ret2
  exact ⟨rfl, HB.out⟩
theorem write_yes (e : Edu) (w : World) (hf : e.fits) (hs : e.short) (hm : mayB e = true) : Calls Try.prog 32 #[e.val] w fun x w' => (∃ g cap, x = .returned (.tuple #[.slice (some ⟨g, 0, none⟩) (bytesB e).length cap, .int .i64 0]) ∧ w.heap.size ≤ g ∧ Own w' g cap (bytesB e)) ∧ Below w.heap.size w w' := by
  obtain ⟨a1, a2, a3, a4⟩ := short_max hs
  have hL := fun w => may_any e w a1 a2 a3 a4
  have hB := fun w => laid_any e w hf hs
  rw [hm] at hL
  generalize bytesB e = bb at *
  obtain ⟨k, r, u, v, t, p, o, s, z, c, m⟩ := e
  clear a1 a2 a3 a4 hs hm hf
  simp only [Edu.val] at hL hB ⊢
  replace hL := Lib.hid hL
  replace hB := Lib.hid hB
  go_enter Try.func32, Try.ntmps32
  go_wp2_with fail
  have hT := one_new w #[.int .i64 k, .string r, .string u, .string v, .string t, .bool p, .bool o, .int .i64 s, .int .i64 z, .int .i64 c, .int .i64 m]
  generalize hW : (w.alloc (.cells #[.int .i64 k, .string r, .string u, .string v, .string t, .bool p, .bool o, .int .i64 s, .int .i64 z, .int .i64 c, .int .i64 m] 50)) = W at hT ⊢
  clear hW
  refine (hL.out _).mono ?_
  rintro e w1 ⟨rfl, hb1⟩
  have hT1 := hT.later hb1
  have HB := Lib.hid hT1
  obtain ⟨d0, d1, d2, d3, d4, d5, d6, d7, d8, d9, d10⟩ := cells11 hT1.2
  clear hb1 hT hT1
  go_wp2_with fail
  clear d0 d1 d2 d3 d4 d5 d6 d7 d8 d9 d10
  refine (hB.out _).mono ?_
  rintro e w2 ⟨⟨g2, cap2, rfl, hg2, ho2⟩, hb2⟩
  have HB2 := Lib.hid (HB.out.later hb2).1
  have HG := Lib.hid (show w.heap.size ≤ g2 by have := HB.out.1.size; omega)
  replace ho2 := Lib.hid ho2
  clear hb2 hg2
  go_wp2_with fail
  go_ret2
  exact ⟨⟨g2, cap2, rfl, HG.out, ho2.out⟩, HB2.out⟩
end Go.Proofs.Ytnabbebkmafakaa
