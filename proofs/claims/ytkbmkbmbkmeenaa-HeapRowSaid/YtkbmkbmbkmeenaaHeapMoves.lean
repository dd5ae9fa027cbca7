/-
  HeapMoves' walk, over what a heap of the code keeps to.
-/
import Derived.Test.YtkbmkbmbkmeenaaHeapPlays
import Derived.Test.YtkbmkbmbkmeenaaEntOrd
namespace Go.Proofs.Ytkbmkbmbkmeenaa
set_option maxRecDepth 20000
open Go.RowKit
set_option linter.unusedVariables false
set_option linter.unusedSimpArgs false

section
variable {C : Heaps} {w0 w w' : World} {gc gr : Nat} {l : List Ent} {V : Value}
theorem keep_below (h : C.Joint w0 w gc gr l l ∧ w.cell? ⟨gr, 0, none⟩ = some V) (hb : Below w.heap.size w w') : C.Joint w0 w' gc gr l l ∧ w'.cell? ⟨gr, 0, none⟩ = some V := ⟨h.1.later hb, (hb.cell (p := ⟨gr, 0, none⟩) h.1.ref.lt).trans h.2⟩
end
theorem around_nat (n : Int) (m : Nat) (w : World) (h0 : -9223372036854775808 ≤ n) (h1 : n ≤ 9223372036854775807) (hm0 : 0 < m) (hm1 : m ≤ 1000) (j : Nat) (hj : aroundI n m = (j : Int)) :
    Calls Try.prog 26 #[.int .i64 n, .int .i64 (m : Int)] w fun e w' => e = .returned (.int .i64 (j : Int)) ∧ w = w' := by
  rw [← hj]
  exact around_any n m w h0 h1 (by omega) (by omega)
theorem quiet_left {P : Program} {f : FuncId} {args : Array Value} {w : World} {n : Nat} {v : Value} (h : Calls P f args (w.drewN n) fun e w' => e = .returned v ∧ w.drewN n = w') : Calls P f args (w.drewN n) fun e w'' => e = .returned v ∧ ∃ m, w'' = w.drewN m :=
  h.mono fun _ _ ⟨he, hm⟩ => ⟨he, n, hm.symm⟩

set_option maxHeartbeats 3200000 in
theorem heapMoves_walk (C : Heaps) (A : Option Addr) (cap : Nat) (os : List Deed) (kk tt : Int) (w : World) (ha : LO.Slice w (.slice A os.length cap) os) (hok : ∀ o ∈ os, o.arg) (k0 : -9223372036854775808 ≤ kk) (k1 : kk ≤ 9223372036854775807) (t0 : -9223372036854775808 ≤ tt) (t1 : tt ≤ 9223372036854775807) :
    Calls Try.prog 7 #[.slice A os.length cap, .int .i64 kk, .int .i64 tt] w fun e w' => e = .returned (.bool true) ∧ Below w.heap.size w w' := by
  have HA := Lib.hid ha
  have hlen := ha.len
  unfold maxLen at hlen
  clear ha
  replace hok := Lib.hid hok
  go_enter Try.func7, Try.ntmps7
  go_wp2_with fail
  go_at_call 8
  refine (C.new w).mono ?_
  rintro e w1 ⟨gc, rfl, hc, b1, f1⟩
  have hbx : Hid (Below w1.heap.size w1 (w1.alloc (.cells #[.slice none 0 0] 28))) := Lib.hid ((Below.refl _ _).alloc (Nat.le_refl _) _)
  obtain ⟨hc2, ho2⟩ := C.keep hc hbx.out.size (fun k hk => hbx.out.block k (C.old hc hk))
  have J : Hid (C.Joint w (w1.alloc (.cells #[.slice none 0 0] 28)) gc w1.heap.size [] []) := Lib.hid ⟨hc2, ⟨⟨_, heap_alloc_new w1 _, Lies.Mine.nil _ _⟩, fun x hx => (List.not_mem_nil hx).elim⟩, b1.trans (hbx.out.mono b1.size), fun k hk => f1 k (ho2 k hk), b1.size⟩
  clear hc b1 f1 hc2 ho2 hbx
  go_wp2_with fail
  generalize World.alloc _ _ = w2 at J ⊢
  generalize w1.heap.size = gr at J ⊢
  go_loopw [9] (fun i wr => ∃ (k : Nat) (l : List Ent), k ≤ 12 ∧ k ≤ os.length ∧ i = .int .i64 (k : Int) ∧ l.length ≤ k ∧ Hid (RowL l) ∧ Hid (C.Joint w wr gc gr l l)) (fun i _ => 12 - (intOf i).toNat)
  case atStart => exact ⟨0, [], by omega, by omega, rfl, by simp, Lib.hid row_nil, J⟩
  case round =>
    clear J
    obtain ⟨k, l, hk, hkl, rfl, hl, HR, J⟩ := hrel
    by_cases hin : k < os.length ∧ k < 12
    · obtain ⟨hi1, hi2⟩ := hin
      have q1 : decide ((k : Int) < (os.length : Int)) = true := decide_eq_true (by omega)
      have q2 : decide ((k : Int) < 12) = true := decide_eq_true (by omega)
      have hx : os[k]? = some os[k] := List.getElem?_eq_getElem hi1
      have hox : Hid (os[k].arg) := Lib.hid (hok.out _ (List.getElem_mem _))
      generalize os[k] = x at hx hox
      obtain ⟨b, off, rfl, d0, d1, d2⟩ := arg_at (C := C) (gc := gc) (gr := gr) (lc := l) (lr := l) HA.out hx J.out.below
      have hi := index_any (P := Try.prog) knO (by decide) (b := b) (off := off) (cap := cap) hi1
      simp only [LO] at hi
      clear hx
      go_wp2_with fail
      go_at_call 9
      refine (fewO_any x _ hox.out).mono ?_
      rintro e w3 ⟨rfl, b3⟩
      replace J := Lib.hid (J.out.later b3)
      clear b3 d0 d1 d2 hi
      have HO : Hid (x.few.ok) := Lib.hid hox.out.few
      go_upto_region 9 with (fail)
      have hbx : Hid (Below w3.heap.size w3 (w3.alloc (.cells #[.int .i64 x.act, .int .i64 x.tick, .string (fewS x.key 4)] 30))) := Lib.hid ((Below.refl _ _).alloc (Nat.le_refl _) _)
      have hoh : Hid ((w3.alloc (.cells #[.int .i64 x.act, .int .i64 x.tick, .string (fewS x.key 4)] 30)).heap[w3.heap.size]? = some (.cells #[.int .i64 x.act, .int .i64 x.tick, .string (fewS x.key 4)] 30 (0, 0))) := Lib.hid (heap_alloc_new w3 _)
      have hno : Hid (¬ C.own (w3.alloc (.cells #[.int .i64 x.act, .int .i64 x.tick, .string (fewS x.key 4)] 30)) gc w3.heap.size) := Lib.hid (fun h => Nat.lt_irrefl _ (C.old J.out.code ((C.keep J.out.code hbx.out.size (fun k hk => hbx.out.block k (C.old J.out.code hk))).2 _ h)))
      replace J := Lib.hid (J.out.later hbx.out)
      clear hbx
      generalize World.alloc w3 _ = w4 at J hoh hno ⊢
      generalize w3.heap.size = bo at hoh hno ⊢
      have d0 : w4.cell? ⟨bo, 0, none⟩ = some (.int .i64 x.act) := cell_at hoh.out 0
      have d1 : w4.cell? ⟨bo, 1, none⟩ = some (.int .i64 x.tick) := cell_at hoh.out 1
      have d2 : w4.cell? ⟨bo, 2, none⟩ = some (.string (fewS x.key 4)) := cell_at hoh.out 2
      go_wp2_with fail
      go_at_call 23
      refine (C.put x.few.ent J.out.code (by omega) HO.out.ent).mono ?_
      rintro e w5 ⟨rfl, hc5, t5⟩
      replace hoh := Lib.hid ((t5.block bo (smem_lt hoh.out) hno.out).trans hoh.out)
      replace J := Lib.hid (J.out.codes hc5 t5)
      clear hno hc5 t5 d0 d1 d2
      have d0 : w5.cell? ⟨bo, 0, none⟩ = some (.int .i64 x.act) := cell_at hoh.out 0
      have d1 : w5.cell? ⟨bo, 1, none⟩ = some (.int .i64 x.tick) := cell_at hoh.out 1
      have d2 : w5.cell? ⟨bo, 2, none⟩ = some (.string (fewS x.key 4)) := cell_at hoh.out 2
      go_wp2_with fail
      go_at_call 24
      refine (refPut_any gr l x.few.ent w5 J.out.ref (by omega) HO.out.ent).mono ?_
      rintro e w6 ⟨rfl, hr6, g6⟩
      replace J := Lib.hid (J.out.refs hr6 g6)
      have hl2 : (putL x.few.ent l).length ≤ k + 1 := Nat.le_trans (put_len _ _) (by omega)
      have HR2 := Lib.hid (row_put (x := x.few.ent) HR.out)
      clear hr6 g6 d0 d1 d2 hoh
      generalize putL x.few.ent l = l2 at J hl2 HR2
      go_wp2_with fail
      refine ⟨⟨k + 1, l2, by omega, by omega, by go_num, hl2, HR2, J⟩, ?_⟩
      simp [intOf]; omega
    · have hend : os.length ≤ k ∨ (k < os.length ∧ 12 ≤ k) := by omega
      obtain ⟨A3, cap3, c3⟩ := ref_cell J.out.ref
      have hlc := J.out.ref
      cases hle : l with
      | nil =>
        subst hle
        simp only [List.length_nil] at c3
        clear hlc
        rcases hend with q1 | ⟨q1, q2⟩
        all_goals go_wp2_with fail
        all_goals
          go_at_call 16
          refine (lives_any C _).mono ?_
          rintro e w7 ⟨rfl, b7⟩
          replace J := Lib.hid (J.out.later b7)
          clear b7
          go_wp2_with fail
          go_ret
          exact ⟨rfl, J.out.below⟩
      | cons y r =>
        have hne : 0 < l.length := by rw [hle]; simp
        have hab := aroundI_bd kk (l.length : Int) (by omega)
        obtain ⟨j, hj⟩ : ∃ j : Nat, aroundI kk (l.length : Int) = (j : Int) := ⟨(aroundI kk (l.length : Int)).toNat, by omega⟩
        have hjl : j < l.length := by omega
        have hx : l[j]? = some l[j] := List.getElem?_eq_getElem hjl
        have hxo : Hid (l[j].ok) := Lib.hid (hlc.2 _ (List.getElem_mem _))
        generalize l[j] = x at hx hxo
        obtain ⟨b, off, rfl, hb, hr⟩ := (ref_slice hlc c3).at hx
        obtain ⟨d0, d1⟩ := range2 hr
        have hi := index_any (P := Try.prog) knE (by decide) (b := b) (off := off) (cap := cap3) hjl
        simp only [LE] at d0 d1 hi
        have q3 : ((l.length : Int) == 0) = false := by rw [beq_eq_false_iff_ne]; omega
        have HJ := Lib.hid hj
        have j0 : (0 : Int) ≤ (j : Int) := by omega
        have j1 : (j : Int) < (l.length : Int) := by omega
        clear hx hr hle hab hj hlc
        clear hin
        rcases hend with q1 | ⟨q1, q2⟩
        all_goals go_wp2_with fail
        all_goals
          go_quiet (first | (go_at_call 26; exact quiet_left (around_nat kk l.length _ k0 k1 hne (by omega) j HJ.out)))
          replace J := Lib.hid (J.out.drewN nq)
          clear c3 d0 d1 hi
          generalize World.drewN _ nq = w3 at J ⊢
          have HX : Hid (Ent.ok ⟨tt, x.key⟩) := Lib.hid ⟨hxo.out.1, t0, t1⟩
          go_wp2_with fail
          go_at_call 23
          refine (C.put ⟨tt, x.key⟩ J.out.code (by omega) HX.out).mono ?_
          rintro e w4 ⟨rfl, hc4, t4⟩
          replace J := Lib.hid (J.out.codes hc4 t4)
          clear hc4 t4
          go_wp2_with fail
          go_at_call 24
          refine (refPut_any gr l ⟨tt, x.key⟩ w4 J.out.ref (by omega) HX.out).mono ?_
          rintro e w5 ⟨rfl, hr5, g5⟩
          replace J := Lib.hid (J.out.refs hr5 g5)
          clear hr5 g5
          obtain ⟨e1, e2⟩ := tick_put (x := ⟨tt, x.key⟩) HR.out
          have hl3 : (putL ⟨tt, x.key⟩ l).length ≤ 13 := Nat.le_trans (put_len _ _) (by omega)
          generalize putL ⟨tt, x.key⟩ l = l3 at J e1 e2 hl3
          simp only at e1 e2
          go_wp2_with fail
          go_at_call 19
          refine (C.at' x.key J.out.code (by omega) (Nat.le_trans hxo.out.1 (by unfold maxLen; omega))).mono ?_
          rintro e w6 ⟨rfl, hc6, t6⟩
          rw [e1, e2]
          replace J := Lib.hid (J.out.codes hc6 t6)
          clear hc6 t6 e1 e2
          obtain ⟨A4, cap4, c4⟩ := ref_cell J.out.ref
          have hkeep := And.intro J.out c4
          go_wp2_with fail
          go_region_held3 (fun w' => C.Joint w w' gc gr l3 l3 ∧ w'.cell? ⟨gr, 0, none⟩ = some (.slice A4 l3.length cap4)) (first | exact keep_draw (by assumption) | exact keep_draws (by assumption) _ | exact keep_turn (by assumption) (by assumption) (by assumption) | exact keep_below (by assumption) (by assumption) | assumption)
            (first
              | (go_at_call 14; refine (all_keep (C := C) (w0 := w) (gr := gr) (l := l3) (V := .slice A4 l3.length cap4) (by assumption) (by omega)).mono ?_; rintro e w8 ⟨⟨v3, rfl, m3, _⟩, hc8, t8⟩)
              | (go_at_call 13; refine (same_keep (C := C) (w0 := w) (gc := gc) (gr := gr) (l := l3) (V := .slice A4 l3.length cap4) (by assumption) (by assumption)).mono ?_; rintro e w9 ⟨rfl, d9, rfl⟩)
              | (go_at_call 15; refine (len_keep (C := C) (w0 := w) (gr := gr) (l := l3) (V := .slice A4 l3.length cap4) (by assumption) (by omega)).mono ?_; rintro e wa ⟨rfl, hca, ta⟩)
              | (go_at_call 16; refine (lives_any C _).mono ?_; rintro e wl ⟨rfl, bl⟩))
          all_goals
            rename_i hH
            have J2 := Lib.hid hH.1
            go_wp2_with fail
            go_ret
            exact ⟨rfl, J2.out.below⟩
end Go.Proofs.Ytkbmkbmbkmeenaa
