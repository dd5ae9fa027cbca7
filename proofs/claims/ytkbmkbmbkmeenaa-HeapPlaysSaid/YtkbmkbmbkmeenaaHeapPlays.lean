/-
  HeapPlays' walk, over what a heap of the code keeps to.
-/
import Derived.Test.YtkbmkbmbkmeenaaHeapDo
import Derived.Deep.RegionHeld3
import Derived.Deep.DeepCutAuto
namespace Go.Proofs.Ytkbmkbmbkmeenaa
set_option maxRecDepth 20000
open Go.RowKit
set_option linter.unusedVariables false
set_option linter.unusedSimpArgs false

/-- How deeds lie. -/
def LO : Lies Deed := ⟨30, 3, fun x => [.int .i64 x.act, .int .i64 x.tick, .string x.key], fun _ => rfl, fun x u hu => by
  simp only [List.mem_cons, List.not_mem_nil, or_false] at hu
  rcases hu with rfl | rfl | rfl <;> rfl⟩
theorem knO : Kn Try.prog LO 22 (.agg #[.int .i64 0, .int .i64 0, .string ⟨#[]⟩]) 32 := ⟨Try.underlying22, by kernel_rfl, rfl, by decide⟩
theorem range3 {w : World} {b o : Nat} {x : Deed} (h : w.rangeAt b o [.int .i64 x.act, .int .i64 x.tick, .string x.key]) : w.cell? ⟨b, o, none⟩ = some (.int .i64 x.act) ∧ w.cell? ⟨b, o + 1, none⟩ = some (.int .i64 x.tick) ∧ w.cell? ⟨b, o + 2, none⟩ = some (.string x.key) := ⟨h 0 _ rfl, h 1 _ rfl, h 2 _ rfl⟩
/-- What was handed in is still there. -/
theorem arg_at {C : Heaps} {w0 w : World} {gc gr i : Nat} {lc lr : List Ent} {A : Option Addr} {n cap : Nat} {os : List Deed} {x : Deed} (h : LO.Slice w0 (.slice A n cap) os) (hi : os[i]? = some x) (hb : Below w0.heap.size w0 w) : ∃ b off, A = some ⟨b, off, none⟩ ∧ w.cell? ⟨b, off + i * 3, none⟩ = some (.int .i64 x.act) ∧ w.cell? ⟨b, off + i * 3 + 1, none⟩ = some (.int .i64 x.tick) ∧ w.cell? ⟨b, off + i * 3 + 2, none⟩ = some (.string x.key) := by
  obtain ⟨b, off, hA, _, hr⟩ := (h.below hb).at hi
  exact ⟨b, off, hA, range3 hr⟩
theorem put_done {o : Deed} {l : List Ent} {n : Nat} (h : l.length ≤ n) : (doneL o l).length ≤ n + 1 := by
  unfold doneL
  split
  · exact Nat.le_trans (put_len _ _) (by omega)
  · split
    · exact Nat.le_trans (drop_len _ _) (by omega)
    · split
      · have := congrArg List.length (due_split o.tick l)
        rw [List.length_append] at this
        omega
      · simp
theorem mine_ne_ref {α : Type} {L : Lies α} {w : World} {B g : Nat} {v : Value} {xs : List α} {l : List Ent} (h : L.Mine w B v xs) (ne : L.e ≠ 28) (hr : RefH w g l) : ∀ k, v.ownBlock = some k → some k ≠ some g := by
  intro k hk e
  injection e with e
  subst e
  obtain ⟨⟨u, hh, _⟩, _⟩ := hr
  rcases h with ⟨rfl, _⟩ | ⟨g', off, cap, cur, rfl, _, hh', _⟩
  · cases hk
  · simp only [Value.ownBlock, Option.some.injEq] at hk
    subst hk
    rw [hh] at hh'
    injection hh' with hh'
    injection hh' with _ hh'
    exact ne hh'.symm
theorem ref_slice {w : World} {g : Nat} {l : List Ent} {V : Value} (h : RefH w g l) (hc : w.cell? ⟨g, 0, none⟩ = some V) : LE.Slice w V l := by
  obtain ⟨⟨v, hh, hm⟩, _⟩ := h
  have := cell_at hh 0
  rw [this] at hc
  injection hc with hc
  rw [← hc]
  exact hm.slice
theorem ref_cell {w : World} {g : Nat} {l : List Ent} (h : RefH w g l) : ∃ A cap, w.cell? ⟨g, 0, none⟩ = some (.slice A l.length cap) := by
  obtain ⟨⟨v, hh, hm⟩, _⟩ := h
  obtain ⟨A, c, rfl, _⟩ := hm.shape
  exact ⟨A, c, cell_at hh 0⟩

section
variable {C : Heaps} {w0 w w' : World} {gc gr : Nat} {l : List Ent} {V : Value}
theorem keep_turn (h : C.Joint w0 w gc gr l l ∧ w.cell? ⟨gr, 0, none⟩ = some V) (hc : C.CH w' gc l) (ht : TurnC C.own w w' gc) : C.Joint w0 w' gc gr l l ∧ w'.cell? ⟨gr, 0, none⟩ = some V := by
  refine ⟨h.1.codes hc ht, ?_⟩
  obtain ⟨⟨v, hh, _⟩, _⟩ := h.1.ref
  rw [← h.2]
  exact World.cell?_of_block (ht.block gr (smem_lt hh) (fun ho => C.typed h.1.code ho _ _ _ (.inr rfl) hh))
theorem all_keep (h : C.Joint w0 w gc gr l l ∧ w.cell? ⟨gr, 0, none⟩ = some V) (hl : l.length ≤ 100) : Calls Try.prog 14 #[.pointer (some ⟨gc, 0, none⟩)] w fun e w' => (∃ v, e = .returned v ∧ LC.Mine w' w.heap.size v l ∧ ToldC C.own w' gc v) ∧ C.CH w' gc l ∧ TurnC C.own w w' gc := C.all h.1.code hl
theorem len_keep (h : C.Joint w0 w gc gr l l ∧ w.cell? ⟨gr, 0, none⟩ = some V) (hl : l.length ≤ 100) : Calls Try.prog 15 #[.pointer (some ⟨gc, 0, none⟩)] w fun e w' => e = .returned (.int .i64 (l.length : Int)) ∧ C.CH w' gc l ∧ TurnC C.own w w' gc := C.len h.1.code hl
theorem same_keep (h : C.Joint w0 w gc gr l l ∧ w.cell? ⟨gr, 0, none⟩ = some V) {v : Value} {B : Nat} (hv : LC.Mine w B v l) : Calls Try.prog 13 #[v, V] w fun e w' => e = .returned (.bool (decide (l = l))) ∧ ∃ d, w' = w.drewN d := sameEnts_any v V l l w hv.slice (ref_slice h.1.ref h.2)
theorem keep_draw (h : C.Joint w0 w gc gr l l ∧ w.cell? ⟨gr, 0, none⟩ = some V) : C.Joint w0 w.drew gc gr l l ∧ w.drew.cell? ⟨gr, 0, none⟩ = some V := ⟨h.1.drew, h.2⟩
theorem keep_draws (h : C.Joint w0 w gc gr l l ∧ w.cell? ⟨gr, 0, none⟩ = some V) (d : Nat) : C.Joint w0 (w.drewN d) gc gr l l ∧ (w.drewN d).cell? ⟨gr, 0, none⟩ = some V := ⟨h.1.drewN d, h.2⟩
end

set_option maxHeartbeats 3200000 in
theorem heapPlays_walk (C : Heaps) (A : Option Addr) (cap : Nat) (os : List Deed) (w : World) (ha : LO.Slice w (.slice A os.length cap) os) (hok : ∀ o ∈ os, o.arg) :
    Calls Try.prog 3 #[.slice A os.length cap] w fun e w' => e = .returned (.bool true) ∧ Below w.heap.size w w' := by
  have HA := Lib.hid ha
  have hlen := ha.len
  unfold maxLen at hlen
  clear ha
  replace hok := Lib.hid hok
  go_enter Try.func3, Try.ntmps3
  go_wp2_with fail
  go_at_call 8
  refine (C.new w).mono ?_
  rintro e w1 ⟨gc, rfl, hc, b1, f1⟩
  have hbx : Hid (Below w1.heap.size w1 (w1.alloc (.cells #[.slice none 0 0] 28))) := Lib.hid ((Below.refl _ _).alloc (Nat.le_refl _) _)
  obtain ⟨hc2, ho2⟩ := C.keep hc hbx.out.size (fun k hk => hbx.out.block k (C.old hc hk))
  have J : Hid (C.Joint w (w1.alloc (.cells #[.slice none 0 0] 28)) gc w1.heap.size [] []) := Lib.hid ⟨hc2, ⟨⟨_, heap_alloc_new w1 _, Lies.Mine.nil _ _⟩, fun x hx => (List.not_mem_nil hx).elim⟩, b1.trans (hbx.out.mono b1.size), fun k hk => f1 k (ho2 k hk), b1.size⟩
  clear hc b1 f1 hc2 ho2 hbx
  go_wp2_with fail
  generalize World.alloc _ _ = w2 at J ⊢
  generalize w1.heap.size = gr at J ⊢
  go_loopw [5] (fun i wr => ∃ (k : Nat) (l : List Ent), k ≤ 24 ∧ k ≤ os.length ∧ i = .int .i64 (k : Int) ∧ l.length ≤ k ∧ Hid (C.Joint w wr gc gr l l)) (fun i _ => 24 - (intOf i).toNat)
  case atStart => exact ⟨0, [], by omega, by omega, rfl, by simp, J⟩
  case round =>
    clear J
    obtain ⟨k, l, hk, hkl, rfl, hl, J⟩ := hrel
    by_cases hin : k < os.length ∧ k < 24
    · obtain ⟨hi1, hi2⟩ := hin
      have q1 : decide ((k : Int) < (os.length : Int)) = true := decide_eq_true (by omega)
      have q2 : decide ((k : Int) < 24) = true := decide_eq_true (by omega)
      have hx : os[k]? = some os[k] := List.getElem?_eq_getElem hi1
      have hox : Hid (os[k].arg) := Lib.hid (hok.out _ (List.getElem_mem _))
      generalize os[k] = x at hx hox
      obtain ⟨b, off, rfl, d0, d1, d2⟩ := arg_at (C := C) (gc := gc) (gr := gr) (lc := l) (lr := l) HA.out hx J.out.below
      have hi := index_any (P := Try.prog) knO (by decide) (b := b) (off := off) (cap := cap) hi1
      simp only [LO] at hi
      clear hx
      go_wp2_with fail
      go_at_call 9
      refine (fewO_any x _ hox.out).mono ?_
      rintro e w3 ⟨rfl, b3⟩
      replace J := Lib.hid (J.out.later b3)
      clear b3 d0 d1 d2 hi
      have HO : Hid (x.few.ok) := Lib.hid hox.out.few
      go_upto_region 9 with (fail)
      have hbx : Hid (Below w3.heap.size w3 (w3.alloc (.cells #[.int .i64 x.act, .int .i64 x.tick, .string (fewS x.key 4)] 30))) := Lib.hid ((Below.refl _ _).alloc (Nat.le_refl _) _)
      have hoh : Hid ((w3.alloc (.cells #[.int .i64 x.act, .int .i64 x.tick, .string (fewS x.key 4)] 30)).heap[w3.heap.size]? = some (.cells #[.int .i64 x.act, .int .i64 x.tick, .string (fewS x.key 4)] 30 (0, 0))) := Lib.hid (heap_alloc_new w3 _)
      have hno : Hid (¬ C.own (w3.alloc (.cells #[.int .i64 x.act, .int .i64 x.tick, .string (fewS x.key 4)] 30)) gc w3.heap.size) := Lib.hid (fun h => Nat.lt_irrefl _ (C.old J.out.code ((C.keep J.out.code hbx.out.size (fun k hk => hbx.out.block k (C.old J.out.code hk))).2 _ h)))
      replace J := Lib.hid (J.out.later hbx.out)
      clear hbx
      generalize World.alloc w3 _ = w4 at J hoh hno ⊢
      generalize w3.heap.size = bo at hoh hno ⊢
      have d0 : w4.cell? ⟨bo, 0, none⟩ = some (.int .i64 x.act) := cell_at hoh.out 0
      have d1 : w4.cell? ⟨bo, 1, none⟩ = some (.int .i64 x.tick) := cell_at hoh.out 1
      have d2 : w4.cell? ⟨bo, 2, none⟩ = some (.string (fewS x.key 4)) := cell_at hoh.out 2
      go_wp2_with fail
      go_at_call 10
      refine (do_any C gc l x.few w4 J.out.code (by omega) HO.out).mono ?_
      rintro e w5 ⟨⟨v1, rfl, m1, o1⟩, hc5, t5⟩
      replace hoh := Lib.hid ((t5.block bo (smem_lt hoh.out) hno.out).trans hoh.out)
      replace J := Lib.hid (J.out.codes hc5 t5)
      replace m1 := Lib.hid m1
      clear hno hc5 t5 d0 d1 d2 o1
      have d0 : w5.cell? ⟨bo, 0, none⟩ = some (.int .i64 x.act) := cell_at hoh.out 0
      have d1 : w5.cell? ⟨bo, 1, none⟩ = some (.int .i64 x.tick) := cell_at hoh.out 1
      have d2 : w5.cell? ⟨bo, 2, none⟩ = some (.string (fewS x.key 4)) := cell_at hoh.out 2
      go_wp2_with fail
      go_at_call 11
      refine (refDo_any gr l x.few w5 J.out.ref (by omega) HO.out).mono ?_
      rintro e w6 ⟨⟨v2, rfl, m2⟩, hr6, g6⟩
      have s1 := Lib.hid (m1.out.grown g6 (mine_ne_ref m1.out (by decide) J.out.ref)).slice
      have s2 := Lib.hid m2.slice
      replace J := Lib.hid (J.out.refs hr6 g6)
      have hl2 : (doneL x.few l).length ≤ k + 1 := put_done hl
      clear hr6 g6 m1 m2 d0 d1 d2 hoh
      generalize doneL x.few l = l2 at J hl2
      generalize (saidL x.few l).map Ent.key = ts at s1 s2
      obtain ⟨A3, cap3, c3⟩ := ref_cell J.out.ref
      have hkeep := And.intro J.out c3
      replace s1 := Lib.hid (show LT.Slice w6.drew v1 ts from s1.out)
      replace s2 := Lib.hid (show LT.Slice w6.drew v2 ts from s2.out)
      go_wp2_with fail
      go_region_held3 (fun w' => C.Joint w w' gc gr l2 l2 ∧ w'.cell? ⟨gr, 0, none⟩ = some (.slice A3 l2.length cap3)) (first | exact keep_draw (by assumption) | exact keep_draws (by assumption) _ | exact keep_turn (by assumption) (by assumption) (by assumption) | assumption)
        (first
          | (go_at_call 12; refine (sameTexts_any v1 v2 ts ts _ s1.out s2.out).mono ?_; rintro e w7 ⟨rfl, d, rfl⟩)
          | (go_at_call 14; refine (all_keep (C := C) (w0 := w) (gr := gr) (l := l2) (V := .slice A3 l2.length cap3) (by assumption) (by omega)).mono ?_; rintro e w8 ⟨⟨v3, rfl, m3, _⟩, hc8, t8⟩)
          | (go_at_call 13; refine (same_keep (C := C) (w0 := w) (gc := gc) (gr := gr) (l := l2) (V := .slice A3 l2.length cap3) (by assumption) (by assumption)).mono ?_; rintro e w9 ⟨rfl, d9, rfl⟩)
          | (go_at_call 15; refine (len_keep (C := C) (w0 := w) (gr := gr) (l := l2) (V := .slice A3 l2.length cap3) (by assumption) (by omega)).mono ?_; rintro e wa ⟨rfl, hca, ta⟩))
      all_goals
        rename_i hH
        have J2 := Lib.hid hH.1
        go_wp2_with fail
        refine ⟨⟨k + 1, l2, by omega, by omega, by go_num, hl2, J2⟩, ?_⟩
        simp [intOf]; omega
    · have hend : decide ((k : Int) < (os.length : Int)) = false ∨ (decide ((k : Int) < (os.length : Int)) = true ∧ decide ((k : Int) < 24) = false) := by simp; omega
      rcases hend with q1 | ⟨q1, q2⟩
      all_goals go_wp2_with fail
      all_goals
        go_at_call 16
        refine (lives_any C _).mono ?_
        rintro e w7 ⟨rfl, b7⟩
        replace J := Lib.hid (J.out.later b7)
        clear b7
        go_wp2_with fail
        go_ret
        exact ⟨rfl, J.out.below⟩
end Go.Proofs.Ytkbmkbmbkmeenaa
