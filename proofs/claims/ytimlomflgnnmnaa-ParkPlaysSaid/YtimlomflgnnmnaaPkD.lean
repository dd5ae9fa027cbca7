/-
  The document's park: Waits, Put, Take; whether two rows of EDUs are the same.
-/
import Derived.Test.YtimlomflgnnmnaaPkC
import Derived.Deep.RegionHeld3
namespace Go.Proofs.Ytimlomflgnnmnaa
set_option maxRecDepth 20000
open Go.RowKit
set_option linter.unusedVariables false
set_option linter.unusedSimpArgs false

/-! ### Receipts of few -/
def waitE (e : Edu) : Edu := { goodE { e with kind := 0 } with event := eventS e.stamp }
theorem roomK_size : ∀ k : Fin 2, (roomK k.val).size ≤ 100 := by decide +kernel
theorem userK_size : ∀ k : Fin 9, (userK k.val).size ≤ 100 := by decide +kernel
theorem eventK_size : ∀ k : Fin 9, (eventK k.val).size ≤ 100 := by decide +kernel
theorem threadK_size : ∀ k : Fin 11, (threadK k.val).size ≤ 100 := by decide +kernel
theorem wait_good (e : Edu) : goodE { e with kind := 0 } = good1 { e with kind := 0 } := by
  unfold goodE
  rw [if_pos (show aroundI ({ e with kind := 0 } : Edu).kind 3 = 0 from rfl)]
theorem wait_brief (e : Edu) : (waitE e).brief := by
  unfold waitE
  rw [wait_good]
  have h1 := roomK_size ⟨aroundN e.span 2, aroundN_lt _ (m := 2) (by decide)⟩
  have h2 := userK_size ⟨aroundN e.state 9, aroundN_lt _ (m := 9) (by decide)⟩
  have h3 := eventK_size ⟨aroundN e.stamp 9, aroundN_lt _ (m := 9) (by decide)⟩
  have h4 := threadK_size ⟨aroundN (e.thread.size : Int) 11, aroundN_lt _ (m := 11) (by decide)⟩
  exact ⟨Nat.le_trans h1 (by decide), Nat.le_trans h2 (by decide), Nat.le_trans h3 (by decide), Nat.le_trans h4 (by decide)⟩
theorem few_brief (e : Edu) : (fewE e).brief :=
  ⟨Nat.le_trans (fewS_size e.room 40) (by decide), Nat.le_trans (fewS_size e.user 40) (by decide), Nat.le_trans (fewS_size e.event 40) (by decide), Nat.le_trans (fewS_size e.thread 40) (by decide)⟩
theorem wait_def (e g : Edu) (h : goodE { e with kind := 0 } = g) : waitE e = { g with event := eventS e.stamp } := by
  unfold waitE
  rw [h]

set_option maxHeartbeats 1600000 in
theorem waits_any (e : Edu) (w : World) (he : e.well) :
    Calls Try.prog 10 #[e.val] w fun x w' => x = .returned (waitE e).val ∧ Below w.heap.size w w' := by
  obtain ⟨⟨-, hf2, hf3, hf4, hf5⟩, -, -, hv, ht⟩ := he
  have HG := Lib.hid (fun W => good_any { e with kind := 0 } W ⟨⟨(by decide : (-9223372036854775808 : Int) ≤ 0), (by decide : (0 : Int) ≤ 9223372036854775807)⟩, hf2, hf3, hf4, hf5⟩ hv ht)
  have HE := Lib.hid (fun W => eventOf_any e.stamp W hf5.1 hf5.2)
  obtain ⟨x, hx⟩ : ∃ x, goodE { e with kind := 0 } = x := ⟨_, rfl⟩
  have HW := wait_def e x hx
  rw [hx] at HG
  rw [HW]
  clear HW hx hf2 hf3 hf4 hf5 hv ht
  obtain ⟨k, r, u, z, t, pr, o, s, y, c, m⟩ := e
  obtain ⟨xk, xr, xu, xz, xt, xp, xo, xs, xy, xc, xm⟩ := x
  simp only [Edu.val] at *
  generalize eventS m = ev at *
  go_enter Try.func10, Try.ntmps10
  go_upto_region 1 with (fail)
  generalize hW : (w.alloc _).alloc _ = W
  have hT := two_new hW rfl
  clear hW
  have z1 := free_at hT.2.1 0
  obtain ⟨d0, d1, d2, d3, d4, d5, d6, d7, d8, d9, d10⟩ := cells11 hT.2.1
  go_upto_region 2 with (fail)
  have hT1 : Two w #[.int .i64 0, .string r, .string u, .string z, .string t, .bool pr, .bool o, .int .i64 s, .int .i64 y, .int .i64 c, .int .i64 m] (W.setCell ⟨w.heap.size, 0, none⟩ (.int .i64 0)) := by
    obtain ⟨h1, h2, X, hX, h3⟩ := hT
    exact ⟨h1.setCell (Nat.le_refl _) _, heap_set h2 0 _, X, hX, (Below.heap_setCell W _ _ _ (by simp)).trans h3⟩
  generalize World.setCell _ _ _ = W1 at hT1 ⊢
  clear z1 d0 d1 d2 d3 d4 d5 d6 d7 d8 d9 d10 hT
  obtain ⟨d0, d1, d2, d3, d4, d5, d6, d7, d8, d9, d10⟩ := cells11 hT1.2.1
  go_wp2_with fail
  go_at_call 21
  refine (HG.out _).mono ?_
  rintro e w2 ⟨rfl, hb⟩
  replace hT1 := hT1.later hb
  clear hb HG d0 d1 d2 d3 d4 d5 d6 d7 d8 d9 d10
  have hlt : w.heap.size + 1 < w2.heap.size := by obtain ⟨X, hX, h3⟩ := hT1.2.2; exact smem_lt h3
  have HN : Gd w _ w2.heap.size #[.int .i64 xk, .string xr, .string xu, .string xz, .string xt, .bool xp, .bool xo, .int .i64 xs, .int .i64 xy, .int .i64 xc, .int .i64 xm] (w2.alloc (.cells #[.int .i64 xk, .string xr, .string xu, .string xz, .string xt, .bool xp, .bool xo, .int .i64 xs, .int .i64 xy, .int .i64 xc, .int .i64 xm] 32)) := ⟨hT1.later (below_new _ _), heap_alloc_new w2 _, hlt⟩
  clear hT1
  go_upto_region 3 with (fail)
  generalize World.alloc _ _ = w3 at HN ⊢
  generalize w2.heap.size = g3 at HN hlt ⊢
  obtain ⟨d0, d1, d2, d3, d4, d5, d6, d7, d8, d9, d10⟩ := cells11 HN.1.2.1
  go_wp2_with fail
  go_at_call 22
  refine (HE.out _).mono ?_
  rintro e w4 ⟨rfl, hb⟩
  replace HN := HN.later hb
  clear hb HE d0 d1 d2 d3 d4 d5 d6 d7 d8 d9 d10
  have z0 := cell_at HN.2.1 3
  have z1 := free_at HN.2.1 3
  simp only [List.getElem?_toArray, List.getElem?_cons_succ, List.getElem?_cons_zero] at z0
  go_upto_region 4 with (fail)
  have HN4 := HN.store (i := 3) (u := .string ev)
  simp only [List.setIfInBounds_toArray, List.set_cons_zero, List.set_cons_succ] at HN4
  generalize World.setCell _ _ _ = w5 at HN4 ⊢
  clear HN z0 z1
  obtain ⟨a0, a1, a2, a3, a4, a5, a6, a7, a8, a9, a10⟩ := cells11 HN4.2.1
  obtain ⟨X, hX, hx3⟩ := HN4.1.2.2
  have Hset := Lib.hid (setRow_heap _ _ _ #[.int .i64 xk, .string xr, .string xu, .string ev, .string xt, .bool xp, .bool xo, .int .i64 xs, .int .i64 xy, .int .i64 xc, .int .i64 xm] _ _ hx3)
  have HB := Lib.hid (HN4.1.set (new := #[.int .i64 xk, .string xr, .string xu, .string ev, .string xt, .bool xp, .bool xo, .int .i64 xs, .int .i64 xy, .int .i64 xc, .int .i64 xm]) rfl).1
  replace hx3 := Lib.hid hx3
  clear HN4
  go_wp2_with (refine wpList_store_row rfl 32 (.tmp 2) (.tmp 11) rfl (w.heap.size + 1) #[.int .i64 xk, .string xr, .string xu, .string ev, .string xt, .bool xp, .bool xo, .int .i64 xs, .int .i64 xy, .int .i64 xc, .int .i64 xm] rfl rfl 32 X hx3.out edu_info (hX.trans rfl) (one11 _ _ _ _ _ _ _ _ _ _ _) ?_)
  generalize hW2 : World.setRow _ _ _ = W3 at Hset HB ⊢
  clear hW2 a0 a1 a2 a3 a4 a5 a6 a7 a8 a9 a10
  obtain ⟨d0, d1, d2, d3, d4, d5, d6, d7, d8, d9, d10⟩ := cells11 Hset.out
  go_wp2_with fail
  refine bodyPost_ret (v := .agg #[.int .i64 xk, .string xr, .string xu, .string ev, .string xt, .bool xp, .bool xo, .int .i64 xs, .int .i64 xy, .int .i64 xc, .int .i64 xm]) ?_ rfl ⟨rfl, HB.out⟩
  simp [results, Try.results10, go_sem, d0, d1, d2, d3, d4, d5, d6, d7, d8, d9, d10]

/-! ### The same -/
theorem take_step {a b : List Edu} {k : Nat} {x y : Edu} (h : a.take k = b.take k) (hx : a[k]? = some x) (hy : b[k]? = some y) (he : eqE x y = true) : a.take (k + 1) = b.take (k + 1) := by
  rw [List.take_add_one, List.take_add_one, hx, hy, h, (eqE_iff x y).1 he]
theorem apart_at {a b : List Edu} {k : Nat} {x y : Edu} (hx : a[k]? = some x) (hy : b[k]? = some y) (he : eqE x y = false) : sameL a b = false := by
  cases h : sameL a b with
  | false => rfl
  | true =>
    have h1 := (sameL_iff a b).1 h
    subst h1
    rw [hx] at hy
    injection hy with hy
    subst hy
    rw [(eqE_iff x x).2 rfl] at he
    cases he
theorem apart_len {a b : List Edu} (h : a.length ≠ b.length) : sameL a b = false := by
  cases h1 : sameL a b with
  | false => rfl
  | true => exact absurd (congrArg List.length ((sameL_iff a b).1 h1)) h
theorem same_all {a b : List Edu} (hl : a.length = b.length) (h : a.take a.length = b.take a.length) : sameL a b = true := by
  rw [List.take_length, hl, List.take_length] at h
  exact (sameL_iff a b).2 h
theorem sameL_self (l : List Edu) : sameL l l = true := (sameL_iff l l).2 rfl

set_option maxHeartbeats 1600000 in
theorem sameEdus_any (v v' : Value) (es es' : List Edu) (w : World) (hE : LE.Slice w v es) (hE' : LE.Slice w v' es') :
    Calls Try.prog 13 #[v, v'] w fun x w' => x = .returned (.bool (sameL es es')) ∧ Below w.heap.size w w' := by
  obtain ⟨A, cap, rfl, h1, h2, -⟩ := id hE
  obtain ⟨A', cap', rfl, h1', h2', -⟩ := id hE'
  unfold maxLen at h2 h2'
  have HE := Lib.hid hE
  have HE' := Lib.hid hE'
  clear hE hE'
  have HNk := Lib.hid (fun (k : Nat) (x y : Edu) (hx : es[k]? = some x) (hy : es'[k]? = some y) h => apart_at hx hy h)
  have HNl := Lib.hid (fun h => apart_len (a := es) (b := es') h)
  have HYl := Lib.hid (fun h1 h2 => same_all (a := es) (b := es') h1 h2)
  generalize sameL es es' = R at *
  go_enter Try.func13, Try.ntmps13
  by_cases hlen : es.length = es'.length
  rotate_left
  · have q1 : ((es.length : Int) == (es'.length : Int)) = false := by simp; omega
    have q2 : decide ((es.length : Int) = (es'.length : Int)) = false := by simp; omega
    have HR := HNl.out hlen
    subst HR
    go_wp2_with fail
    go_ret
    exact ⟨rfl, Below.refl _ _⟩
  have HL := Lib.hid hlen
  generalize hN' : es'.length = N' at *
  subst hlen
  go_wp2_with fail
  go_loopw [5] (fun i wr => ∃ k : Nat, k ≤ es.length ∧ i = .int .i64 (k : Int) ∧ Hid (es.take k = es'.take k) ∧ Hid (Below w.heap.size w wr)) (fun i _ => es.length - (intOf i).toNat)
  case atStart => exact ⟨0, Nat.zero_le _, rfl, Lib.hid rfl, Lib.hid (Below.refl _ _)⟩
  case round =>
    obtain ⟨k, hk, rfl, hsame, hbel⟩ := hrel
    by_cases hlt : k < es.length
    · have q2 : decide ((k : Int) < (es.length : Int)) = true := by simp; omega
      have he : es[k]? = some es[k] := List.getElem?_eq_getElem hlt
      generalize es[k] = e at he
      have he' : es'[k]? = some (es'[k]'(by omega)) := List.getElem?_eq_getElem (by omega)
      generalize es'[k]'(by omega) = e' at he'
      obtain ⟨b, off, rfl, hb, hr⟩ := (HE.out.below hbel.out).at he
      obtain ⟨b', off', rfl, hb', hr'⟩ := (HE'.out.below hbel.out).at he'
      have hix := fun w => index_any (P := Try.prog) knE (by decide) (b := b) (off := off) (cap := cap) hlt w
      have hix' := fun w => index_any (P := Try.prog) knE (by decide) (b := b') (off := off') (cap := cap') hlt w
      simp only [LE] at hix hix' hr hr'
      have heq := fun w => eql_edu e e' w
      have HS := Lib.hid (fun h => take_step hsame.out he he' h)
      have HN := Lib.hid (fun h => HNk.out k e e' he he' h)
      obtain ⟨d0, d1, d2, d3, d4, d5, d6, d7, d8, d9, d10⟩ := range11 hr
      obtain ⟨c0, c1, c2, c3, c4, c5, c6, c7, c8, c9, c10⟩ := range11 hr'
      clear he he' hr hr' hsame
      generalize eqE e e' = M at *
      obtain ⟨x0, x1, x2, x3, x4, x5, x6, x7, x8, x9, x10⟩ := e
      obtain ⟨y0, y1, y2, y3, y4, y5, y6, y7, y8, y9, y10⟩ := e'
      simp only [Edu.val] at heq
      simp only at d0 d1 d2 d3 d4 d5 d6 d7 d8 d9 d10 c0 c1 c2 c3 c4 c5 c6 c7 c8 c9 c10
      go_wp2_with fail
      go_quiet (fail)
      clear d0 d1 d2 d3 d4 d5 d6 d7 d8 d9 d10 c0 c1 c2 c3 c4 c5 c6 c7 c8 c9 c10 hix hix' heq
      cases M
      · have HR := HN.out rfl
        subst HR
        clear HN HS HNk HNl HYl
        go_wp2_with fail
        go_ret
        exact ⟨rfl, below_drewN hbel.out _⟩
      · have HS1 := Lib.hid (HS.out rfl)
        clear HN HS
        go_wp2_with fail
        refine ⟨⟨k + 1, by omega, by go_num, HS1, Lib.hid (below_drewN hbel.out _)⟩, ?_⟩
        simp [intOf]; omega
    · obtain rfl : k = es.length := by omega
      have q2 : decide ((es.length : Int) < (es.length : Int)) = false := by simp
      have HR := HYl.out (by first | trivial | rw [hN']) hsame.out
      subst HR
      clear HNk HNl HYl
      go_wp2_with fail
      go_ret
      exact ⟨rfl, hbel.out⟩
end Go.Proofs.Ytimlomflgnnmnaa
