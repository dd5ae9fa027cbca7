/-
  HeapAsks' walk, over what a heap of the code keeps to.
-/
import Derived.Test.YtkbmkbmbkmeenaaHeapLists
import Derived.StillTailTactics
import Derived.Deep.RegionHeld
namespace Go.Proofs.Ytkbmkbmbkmeenaa
set_option maxRecDepth 20000
open Go.RowKit
set_option linter.unusedVariables false
set_option linter.unusedSimpArgs false


section
variable {C : Heaps} {w0 w w' : World} {gc gr : Nat} {lc lr l : List Ent} {vw vg : Value} {ws gs : List ByteArray}
theorem Heaps.Rows.refs {lr' : List Ent} (h : C.Rows w0 w gc gr lc lr vw ws vg gs) (hr : RefH w' gr lr') (hg : w.grownBy w' (some gr)) : C.Rows w0 w' gc gr lc lr' vw ws vg gs := by
  obtain ⟨⟨v, hh, _⟩, _⟩ := h.J.ref
  obtain ⟨_, ho⟩ := C.keep h.J.code hg.size (fun k hk => hg.block k (C.old h.J.code hk) (fun e => by injection e with e; subst e; exact C.typed h.J.code hk _ _ _ (.inr rfl) hh))
  exact ⟨h.J.refs hr hg, h.mw.grown hg (mine_ne_ref h.mw (by decide) h.J.ref), h.mg.grown hg (mine_ne_ref h.mg (by decide) h.J.ref), fun k hk e => h.aw k hk (ho k e), fun k hk e => h.ag k hk (ho k e), h.ne⟩
theorem Heaps.Rows.drew (h : C.Rows w0 w gc gr lc lr vw ws vg gs) : C.Rows w0 w.drew gc gr lc lr vw ws vg gs := h.later ⟨rfl, rfl, rfl, Nat.le_refl _, fun _ _ => rfl⟩
/-- A text of the row. -/
theorem rows_cell {n cap j : Nat} {s : ByteArray} {b off : Nat} (h : C.Rows w0 w gc gr lc lr (.slice (some ⟨b, off, none⟩) n cap) ws vg gs) (hx : Hid (ws[j]? = some s)) : w.cell? ⟨b, off + j, none⟩ = some (.string s) := by
  obtain ⟨b', off', hA, _, hr⟩ := h.mw.slice.at hx.out
  injection hA with hA
  injection hA with e1 e2 _
  subst e1 e2
  have := hr 0 _ rfl
  simpa [LT] using this
theorem rows_cellz {n cap j : Nat} {s : ByteArray} {b : Nat} (h : C.Rows w0 w gc gr lc lr (.slice (some ⟨b, 0, none⟩) n cap) ws vg gs) (hx : Hid (ws[j]? = some s)) : w.cell? ⟨b, j, none⟩ = some (.string s) := by
  have := rows_cell h hx
  rwa [Nat.zero_add] at this
theorem drop_code (k : ByteArray) (h : C.Rows w0 w gc gr l lr vw ws vg gs) (hl : l.length ≤ 100) (hk : k.size ≤ maxLen) : Calls Try.prog 21 #[.pointer (some ⟨gc, 0, none⟩), .string k] w fun e w' => e = .returned (.bool (hasL k l)) ∧ C.Rows w0 w' gc gr (dropL k l) lr vw ws vg gs :=
  (C.drop k h.J.code hl hk).mono fun e w' ⟨h1, h2, h3⟩ => ⟨h1, h.codes h2 h3⟩
theorem drop_ref (k : ByteArray) (h : C.Rows w0 w gc gr lc l vw ws vg gs) (hl : l.length ≤ 100) : Calls Try.prog 22 #[.pointer (some ⟨gr, 0, none⟩), .string k] w fun e w' => e = .returned (.bool (hasL k l)) ∧ C.Rows w0 w' gc gr lc (dropL k l) vw ws vg gs :=
  (refDrop_any gr l k w h.J.ref (by omega)).mono fun e w' ⟨h1, h2, h3⟩ => ⟨h1, h.refs h2 h3⟩
theorem len_code (h : C.Rows w0 w gc gr l lr vw ws vg gs) (hl : l.length ≤ 100) : Calls Try.prog 15 #[.pointer (some ⟨gc, 0, none⟩)] w fun e w' => e = .returned (.int .i64 (l.length : Int)) ∧ C.Rows w0 w' gc gr l lr vw ws vg gs ∧ ∀ V, w.cell? ⟨gr, 0, none⟩ = some V → w'.cell? ⟨gr, 0, none⟩ = some V :=
  (C.len h.J.code hl).mono fun e w' ⟨h1, h2, h3⟩ => ⟨h1, h.codes h2 h3, fun V hV => by
    obtain ⟨⟨v, hh, _⟩, _⟩ := h.J.ref
    exact (World.cell?_of_block (h3.block gr (smem_lt hh) (fun ho => C.typed h.J.code ho _ _ _ (.inr rfl) hh))).trans hV⟩
end
theorem ref_key {w : World} {g j b o n cap : Nat} {l : List Ent} {x : Ent} (h : RefH w g l) (hc : w.cell? ⟨g, 0, none⟩ = some (.slice (some ⟨b, o, none⟩) n cap)) (hx : Hid (l[j]? = some x)) : w.cell? ⟨b, o + j * 2 + 1, none⟩ = some (.string x.key) := by
  obtain ⟨b', o', hA, _, hr⟩ := (ref_slice h hc).at hx.out
  injection hA with hA
  injection hA with e1 e2 _
  subst e1 e2
  exact (range2 hr).2
theorem anyH_narrow {P : Program} {md : _} {ops : _} {Q : _} {S S' : World → Prop} (hS : ∀ w, S' w → S w) : ∀ (fuel : Nat) (listed : Array Bool) (a : Act) (w : World), wpAnyH P md ops Q S' fuel listed a w → wpAnyH P md ops Q S fuel listed a w
  | 0, _, _, _, h => h
  | fuel + 1, _, _, _, h => ⟨h.1, fun i hi => wpOp_mono (fun a' w' h' => ⟨hS _ h'.1, anyH_narrow hS fuel _ a' w' h'.2⟩) (h.2 i hi)⟩
theorem eql_entC (x y : Ent) (w : World) : (Op.equalIn 10000 45 (.agg #[.int .i64 x.tick, .string x.key]) (.agg #[.int .i64 y.tick, .string y.key])).run Try.prog w = .ok (decide (x = y)) w := by
  have h : decide (x = y) = ((x.tick == y.tick) && (x.key.toList == y.key.toList)) := by
    obtain ⟨a, k⟩ := x
    obtain ⟨a', k'⟩ := y
    rw [keyB, Bool.eq_iff_iff]
    simp
  rw [h]
  go_simp
  repeat' split
  all_goals simp_all

set_option maxHeartbeats 6400000 in
theorem heapAsks_walk (C : Heaps) (A : Option Addr) (cap : Nat) (os : List Deed) (key : ByteArray) (w : World) (ha : LO.Slice w (.slice A os.length cap) os) (hok : ∀ o ∈ os, o.arg) (hky : key.size ≤ maxLen) :
    Calls Try.prog 4 #[.slice A os.length cap, .string key] w fun e w' => e = .returned (.bool true) ∧ Below w.heap.size w w' := by
  have HA := Lib.hid ha
  have hlen := ha.len
  unfold maxLen at hlen
  clear ha
  replace hok := Lib.hid hok
  go_enter Try.func4, Try.ntmps4
  go_wp2_with fail
  go_at_call 8
  refine (C.new w).mono ?_
  rintro e w1 ⟨gc, rfl, hc, b1, f1⟩
  have hbx : Hid (Below w1.heap.size w1 (w1.alloc (.cells #[.slice none 0 0] 28))) := Lib.hid ((Below.refl _ _).alloc (Nat.le_refl _) _)
  obtain ⟨hc2, ho2⟩ := C.keep hc hbx.out.size (fun k hk => hbx.out.block k (C.old hc hk))
  have J : Hid (C.Joint w (w1.alloc (.cells #[.slice none 0 0] 28)) gc w1.heap.size [] []) := Lib.hid ⟨hc2, ⟨⟨_, heap_alloc_new w1 _, Lies.Mine.nil _ _⟩, fun x hx => (List.not_mem_nil hx).elim⟩, b1.trans (hbx.out.mono b1.size), fun k hk => f1 k (ho2 k hk), b1.size⟩
  clear hc b1 f1 hc2 ho2 hbx
  go_wp2_with fail
  generalize World.alloc _ _ = w2 at J ⊢
  generalize w1.heap.size = gr at J ⊢
  go_loopw [7] (fun i wr => ∃ (k : Nat) (l : List Ent), k ≤ 16 ∧ k ≤ os.length ∧ i = .int .i64 (k : Int) ∧ l.length ≤ k ∧ Hid (C.Joint w wr gc gr l l)) (fun i _ => 16 - (intOf i).toNat)
  case atStart => exact ⟨0, [], by omega, by omega, rfl, by simp, J⟩
  case round =>
    clear J
    obtain ⟨k, l, hk, hkl, rfl, hl, J⟩ := hrel
    by_cases hin : k < os.length ∧ k < 16
    · obtain ⟨hi1, hi2⟩ := hin
      have q1 : decide ((k : Int) < (os.length : Int)) = true := decide_eq_true (by omega)
      have q2 : decide ((k : Int) < 16) = true := decide_eq_true (by omega)
      have hx : os[k]? = some os[k] := List.getElem?_eq_getElem hi1
      have hox : Hid (os[k].arg) := Lib.hid (hok.out _ (List.getElem_mem _))
      generalize os[k] = x at hx hox
      obtain ⟨b, off, rfl, d0, d1, d2⟩ := arg_at (C := C) (gc := gc) (gr := gr) (lc := l) (lr := l) HA.out hx J.out.below
      have hi := index_any (P := Try.prog) knO (by decide) (b := b) (off := off) (cap := cap) hi1
      simp only [LO] at hi
      have Hx := Lib.hid hx
      clear hx
      have HO : Hid (x.few.ok) := Lib.hid hox.out.few
      go_wp2_with fail
      go_at_call 9
      refine (fewO_any x _ hox.out).mono ?_
      rintro e w3 ⟨rfl, b3⟩
      replace J := Lib.hid (J.out.later b3)
      clear b3 d0 d1 d2
      go_wp2_with fail
      go_at_call 10
      refine (do_any C gc l x.few w3 J.out.code (by omega) HO.out).mono ?_
      rintro e w4 ⟨⟨v1, rfl, m1, o1⟩, hc4, t4⟩
      replace J := Lib.hid (J.out.codes hc4 t4)
      clear hc4 t4 m1 o1
      obtain ⟨b', off', hA', d0, d1, d2⟩ := arg_at (C := C) (gc := gc) (gr := gr) (lc := l) (lr := l) HA.out Hx.out J.out.below
      injection hA' with hA'
      injection hA' with e1 e2 _
      subst e1 e2
      go_wp2_with fail
      go_at_call 9
      refine (fewO_any x _ hox.out).mono ?_
      rintro e w5 ⟨rfl, b5⟩
      replace J := Lib.hid (J.out.later b5)
      clear b5 d0 d1 d2
      go_wp2_with fail
      go_at_call 11
      refine (refDo_any gr l x.few w5 J.out.ref (by omega) HO.out).mono ?_
      rintro e w6 ⟨⟨v2, rfl, m2⟩, hr6, g6⟩
      replace J := Lib.hid (J.out.refs hr6 g6)
      have hl2 : (doneL x.few l).length ≤ k + 1 := put_done hl
      clear hr6 g6 m2
      generalize doneL x.few l = l2 at J hl2
      go_wp2_with fail
      refine ⟨⟨k + 1, l2, by omega, by omega, by go_num, hl2, J⟩, ?_⟩
      simp [intOf]; omega
    · have hend : os.length ≤ k ∨ (k < os.length ∧ 16 ≤ k) := by omega
      clear hin
      have hl16 : l.length ≤ 16 := by omega
      have HF := fewS_size key 4
      rcases hend with q1 | ⟨q1, q2⟩
      · go_wp2_with fail
        go_at_call 17
        refine (few_any key 4 (by decide) _ hky).mono ?_
        rintro e wz ⟨rfl, rfl⟩
        generalize fewS key 4 = s at HF ⊢
        have hbx : Hid (Below wr.heap.size wr (wr.alloc (.cells #[.string s] 9))) := Lib.hid ((Below.refl _ _).alloc (Nat.le_refl _) _)
        have R : Hid (C.Rows w (wr.alloc (.cells #[.string s] 9)) gc gr l l (.slice none 0 0) [] (.slice (some ⟨wr.heap.size, 0, none⟩) 1 1) [s]) := Lib.hid ((Heaps.Rows.start (C := C) J.out).put (vg := .slice none 0 0) ⟨hbx.out.os, hbx.out.tape, hbx.out.output, hbx.out.size, fun k hk _ => hbx.out.block k hk⟩ (.inr ⟨wr.heap.size, 0, 1, _, rfl, J.out.below.size, heap_alloc_new wr _, Nat.le_refl _, by unfold maxLen; omega, by simp [LT], by simp [LT, Lies.vs]⟩) (fun k hk => by simp only [Value.ownBlock, Option.some.injEq] at hk; exact .inr (by omega)))
        clear J hbx
        go_upto_region 11 with (fail)
        generalize World.alloc wr _ = w3 at R ⊢
        generalize wr.heap.size = kb at R ⊢
        obtain ⟨A3, cap3, c3⟩ := ref_cell R.out.J.ref
        cases hle : l with
        | nil =>
          subst hle
          simp only [List.length_nil] at c3
          replace R := Lib.hid R.out.swap
          go_wp2_with fail
          clear c3
          go_at_call 18
          refine (C.first R.out.J.code (by simp; try omega)).mono ?_
          rintro e w4 ⟨rfl, hc4, t4⟩
          replace R := Lib.hid (R.out.codes hc4 t4)
          clear hc4 t4
          rw [show (firstE []).val = .agg #[.int .i64 0, .string ⟨#[]⟩] from rfl, show decide (([] : List Ent) ≠ []) = false from rfl]
          go_upto_region 14 with (fail)
          have hbx : Hid (Below w4.heap.size w4 (w4.alloc (.cells #[.int .i64 0, .string ⟨#[]⟩] 45))) := Lib.hid ((Below.refl _ _).alloc (Nat.le_refl _) _)
          have hoh : Hid ((w4.alloc (.cells #[.int .i64 0, .string ⟨#[]⟩] 45)).heap[w4.heap.size]? = some (.cells #[.int .i64 0, .string ⟨#[]⟩] 45 (0, 0))) := Lib.hid (heap_alloc_new w4 _)
          replace R := Lib.hid (R.out.later hbx.out)
          clear hbx
          generalize World.alloc w4 _ = w5 at R hoh ⊢
          generalize w4.heap.size = eb at hoh ⊢
          have d0 := cell_at hoh.out 0
          have d1 := cell_at hoh.out 1
          simp at d0 d1
          obtain ⟨A5, cap5, c5⟩ := ref_cell R.out.J.ref
          simp only [List.length_nil] at c5
          have qe := fun wz => (eql_entC ⟨0, ⟨#[]⟩⟩ ⟨0, ⟨#[]⟩⟩ wz)
          rw [show decide ((⟨0, ⟨#[]⟩⟩ : Ent) = ⟨0, ⟨#[]⟩⟩) = true from by simp] at qe
          go_wp2_with fail
          go_quiet (fail)
          replace R := Lib.hid (R.out.drewN nq)
          generalize World.drewN _ nq = w6 at R ⊢
          clear hoh d0 d1 c5 qe
          go_wp2_with fail
          go_loopw [11] (fun i wr => ∃ (j : Nat) (l : List Ent), j ≤ 1 ∧ i = .int .i64 (j : Int) ∧ l.length ≤ 16 ∧ Hid (C.Rows w wr gc gr l l (.slice (some ⟨kb, 0, none⟩) 1 1) [s] (.slice none 0 0) [])) (fun i _ => 1 - (intOf i).toNat)
          case atStart => exact ⟨0, [], by omega, rfl, by simp; try omega, R⟩
          case round =>
            clear R
            obtain ⟨j, l2, hj, rfl, hl2, R⟩ := hrel
            by_cases hlt : j < 1
            · have hs : ∃ u, ([s] : List ByteArray)[j]? = some u ∧ u.size ≤ maxLen := by
                  have : j = 0 ∨ j = 1 := by omega
                  unfold maxLen
                  rcases this with rfl | rfl
                  · exact ⟨s, rfl, by omega⟩
                  · omega
              obtain ⟨u, hu, huz⟩ := hs
              have Hu := Lib.hid hu
              clear hu
              have i0 : (0 : Int) ≤ (j : Int) := by omega
              have i1 : (j : Int) < 1 := by omega
              have d0 := rows_cellz R.out Hu
              go_wp2_with fail
              go_at_call 19
              refine (C.at' u R.out.J.code (by omega) huz).mono ?_
              rintro e w7 ⟨rfl, hc7, t7⟩
              replace R := Lib.hid (R.out.codes hc7 t7)
              clear hc7 t7 d0
              have d0 := rows_cellz R.out Hu
              go_wp2_with fail
              go_at_call 20
              refine (refAt_any gr l2 u w7 R.out.J.ref (by omega)).mono ?_
              rintro e wz ⟨rfl, rfl⟩
              generalize tickL u l2 = tk
              have hdl := drop_len u l2
              have hR := R.out
              have hR0 := R.out.drew
              go_wp2_with fail
              refine wp_region_held_drew (S := fun w' => w'.cell? ⟨kb, j, none⟩ = some (.string u)) (by kernel_rfl) (rows_cellz hR0 Hu) (fun hHeld => ?_)
              refine wpAnyH_take (i := 0) (oi := ⟨some 129, _, _, _, _, _⟩) (v := ?vb0) rfl (by kernel_rfl) (by kernel_rfl) (by kernel_rfl) (fun _ _ _ h => h) (Or.inl ⟨by rfl, ?yb0⟩) hHeld ?rb0
              case yb0 =>
                intro wx hSx
                go_simp
                try with_reducible rfl
              try simp only [Act.put, List.setIfInBounds_toArray, List.set_cons_zero, List.set_cons_succ]
              refine wpAnyH_take (i := 1) (oi := ⟨some 130, _, _, _, _, _⟩) (v := ?vb1) rfl (by kernel_rfl) (by kernel_rfl) (by kernel_rfl) (fun _ _ _ h => h) (Or.inl ⟨by rfl, ?yb1⟩) hHeld ?rb1
              case yb1 =>
                intro wx hSx
                go_simp
                try with_reducible rfl
              try simp only [Act.put, List.setIfInBounds_toArray, List.set_cons_zero, List.set_cons_succ]
              refine wpAnyH_take (i := 2) (oi := ⟨some 131, _, _, _, _, _⟩) (v := ?vb2) rfl (by kernel_rfl) (by kernel_rfl) (by kernel_rfl) (fun _ _ _ h => h) (Or.inl ⟨by rfl, ?yb2⟩) hHeld ?rb2
              case yb2 =>
                intro wx hSx
                go_simp
                try with_reducible rfl
              try simp only [Act.put, List.setIfInBounds_toArray, List.set_cons_zero, List.set_cons_succ]
              refine wpAnyH_take (i := 3) (oi := ⟨some 132, _, _, _, _, _⟩) (v := ?vb3) rfl (by kernel_rfl) (by kernel_rfl) (by kernel_rfl) (fun _ _ _ h => h) (Or.inl ⟨by rfl, ?yb3⟩) hHeld ?rb3
              case yb3 =>
                intro wx hSx
                go_simp
                try with_reducible rfl
              try simp only [Act.put, List.setIfInBounds_toArray, List.set_cons_zero, List.set_cons_succ]
              refine wpAnyH_take (i := 4) (oi := ⟨some 133, _, _, _, _, _⟩) (v := ?vb4) rfl (by kernel_rfl) (by kernel_rfl) (by kernel_rfl) (fun _ _ _ h => h) (Or.inl ⟨by rfl, ?yb4⟩) hHeld ?rb4
              case yb4 =>
                intro wx hSx
                go_simp
                try with_reducible rfl
              try simp only [Act.put, List.setIfInBounds_toArray, List.set_cons_zero, List.set_cons_succ]
              refine wpAnyH_take (i := 5) (oi := ⟨some 134, _, _, _, _, _⟩) (v := ?vb5) rfl (by kernel_rfl) (by kernel_rfl) (by kernel_rfl) (fun _ _ _ h => h) (Or.inl ⟨by rfl, ?yb5⟩) hHeld ?rb5
              case yb5 =>
                intro wx hSx
                go_simp
                try with_reducible rfl
              try simp only [Act.put, List.setIfInBounds_toArray, List.set_cons_zero, List.set_cons_succ]
              refine wpAnyH_take (i := 6) (oi := ⟨some 135, _, _, _, _, _⟩) (v := ?vb6) rfl (by kernel_rfl) (by kernel_rfl) (by kernel_rfl) (fun _ _ _ h => h) (Or.inl ⟨by rfl, ?yb6⟩) hHeld ?rb6
              case yb6 =>
                intro wx hSx
                go_simp
                try with_reducible rfl
              try simp only [Act.put, List.setIfInBounds_toArray, List.set_cons_zero, List.set_cons_succ]
              refine wpAnyH_take (i := 7) (oi := ⟨some 136, _, _, _, _, _⟩) (v := ?vb7) rfl (by kernel_rfl) (by kernel_rfl) (by kernel_rfl) (fun _ _ _ h => h) (Or.inl ⟨by rfl, ?yb7⟩) hHeld ?rb7
              case yb7 =>
                intro wx hSx
                go_simp
                try with_reducible rfl
              try simp only [Act.put, List.setIfInBounds_toArray, List.set_cons_zero, List.set_cons_succ]
              refine wpAnyH_take (i := 8) (oi := ⟨some 137, _, _, _, _, _⟩) (v := ?vb8) rfl (by kernel_rfl) (by kernel_rfl) (by kernel_rfl) (fun _ _ _ h => h) (Or.inl ⟨by rfl, ?yb8⟩) hHeld ?rb8
              case yb8 =>
                intro wx hSx
                go_simp
                try with_reducible rfl
              try simp only [Act.put, List.setIfInBounds_toArray, List.set_cons_zero, List.set_cons_succ]
              refine wpAnyH_take (i := 9) (oi := ⟨some 138, _, _, _, _, _⟩) (v := ?vb9) rfl (by kernel_rfl) (by kernel_rfl) (by kernel_rfl) (fun _ _ _ h => h) (Or.inl ⟨by rfl, ?yb9⟩) hHeld ?rb9
              case yb9 =>
                intro wx hSx
                go_simp
                try with_reducible rfl
              try simp only [Act.put, List.setIfInBounds_toArray, List.set_cons_zero, List.set_cons_succ]
              refine wpAnyH_take (i := 10) (oi := ⟨some 139, _, _, _, _, _⟩) (v := ?vb10) rfl (by kernel_rfl) (by kernel_rfl) (by kernel_rfl) (fun _ _ _ h => h) (Or.inl ⟨by rfl, ?yb10⟩) hHeld ?rb10
              case yb10 =>
                intro wx hSx
                go_simp
                try with_reducible rfl
              try simp only [Act.put, List.setIfInBounds_toArray, List.set_cons_zero, List.set_cons_succ]
              refine wpAnyH_take (i := 11) (oi := ⟨some 140, _, _, _, _, _⟩) (v := ?vb11) rfl (by kernel_rfl) (by kernel_rfl) (by kernel_rfl) (fun _ _ _ h => h) (Or.inl ⟨by rfl, ?yb11⟩) hHeld ?rb11
              case yb11 =>
                intro wx hSx
                go_simp
                try with_reducible rfl
              try simp only [Act.put, List.setIfInBounds_toArray, List.set_cons_zero, List.set_cons_succ]
              refine wpAnyH_take (i := 12) (oi := ⟨some 141, _, _, _, _, _⟩) (v := ?vb12) rfl (by kernel_rfl) (by kernel_rfl) (by kernel_rfl) (fun _ _ _ h => h) (Or.inl ⟨by rfl, ?yb12⟩) hHeld ?rb12
              case yb12 =>
                intro wx hSx
                go_simp
                try with_reducible rfl
              try simp only [Act.put, List.setIfInBounds_toArray, List.set_cons_zero, List.set_cons_succ]
              refine wpAnyH_take (i := 13) (oi := ⟨some 142, _, _, _, _, _⟩) (v := ?vb13) rfl (by kernel_rfl) (by kernel_rfl) (by kernel_rfl) (fun _ _ _ h => h) (Or.inl ⟨by rfl, ?yb13⟩) hHeld ?rb13
              case yb13 =>
                intro wx hSx
                go_simp
                try with_reducible rfl
              try simp only [Act.put, List.setIfInBounds_toArray, List.set_cons_zero, List.set_cons_succ]
              refine wpAnyH_take (i := 15) (oi := ⟨some 144, _, _, _, _, _⟩) (v := ?vb15) rfl (by kernel_rfl) (by kernel_rfl) (by kernel_rfl) (fun _ _ _ h => h) (Or.inl ⟨by rfl, ?yb15⟩) hHeld ?rb15
              case yb15 =>
                intro wx hSx
                go_simp
                try with_reducible rfl
              try simp only [Act.put, List.setIfInBounds_toArray, List.set_cons_zero, List.set_cons_succ]
              refine wpAnyH_take (i := 16) (oi := ⟨some 145, _, _, _, _, _⟩) (v := ?vb16) rfl (by kernel_rfl) (by kernel_rfl) (by kernel_rfl) (fun _ _ _ h => h) (Or.inl ⟨by rfl, ?yb16⟩) hHeld ?rb16
              case yb16 =>
                intro wx hSx
                go_simp
                try with_reducible rfl
              try simp only [Act.put, List.setIfInBounds_toArray, List.set_cons_zero, List.set_cons_succ]
              refine wpAnyH_take (i := 17) (oi := ⟨some 146, _, _, _, _, _⟩) (v := ?vb17) rfl (by kernel_rfl) (by kernel_rfl) (by kernel_rfl) (fun _ _ _ h => h) (Or.inl ⟨by rfl, ?yb17⟩) hHeld ?rb17
              case yb17 =>
                intro wx hSx
                go_simp
                try with_reducible rfl
              try simp only [Act.put, List.setIfInBounds_toArray, List.set_cons_zero, List.set_cons_succ]
              refine wpAnyH_take (i := 18) (oi := ⟨some 147, _, _, _, _, _⟩) (v := ?vb18) rfl (by kernel_rfl) (by kernel_rfl) (by kernel_rfl) (fun _ _ _ h => h) (Or.inl ⟨by rfl, ?yb18⟩) hHeld ?rb18
              case yb18 =>
                intro wx hSx
                go_simp
                try with_reducible rfl
              try simp only [Act.put, List.setIfInBounds_toArray, List.set_cons_zero, List.set_cons_succ]
              refine wpAnyH_take (i := 19) (oi := ⟨some 148, _, _, _, _, _⟩) (v := ?vb19) rfl (by kernel_rfl) (by kernel_rfl) (by kernel_rfl) (fun _ _ _ h => h) (Or.inl ⟨by rfl, ?yb19⟩) hHeld ?rb19
              case yb19 =>
                intro wx hSx
                go_simp
                try with_reducible rfl
              try simp only [Act.put, List.setIfInBounds_toArray, List.set_cons_zero, List.set_cons_succ]
              refine wpAnyH_ready (rs := [14]) (by kernel_rfl) (by simp) ?_
              refine AllReadyH.cons (o := ⟨some 143, _, _, _, _, _⟩) rfl (fun K hK => ?_) AllReadyH.nil
              go_simp
              refine (drop_code (C := C) (w0 := w) (gr := gr) (l := l2) (vw := .slice (some ⟨kb, 0, none⟩) 1 1) (ws := [s]) (vg := .slice none 0 0) (gs := []) u hR0 (by omega) huz).mono ?_
              rintro e wa ⟨rfl, ra⟩
              refine hK.out _ _ (rows_cellz ra Hu) (fun hHeld => ?_)
              clear hK K
              try simp only [Act.put, List.setIfInBounds_toArray, List.set_cons_zero, List.set_cons_succ]
              refine wpAnyH_ready (rs := [20]) (by kernel_rfl) (by simp) ?_
              refine AllReadyH.cons (o := ⟨some 149, _, _, _, _, _⟩) rfl (fun K hK => ?_) AllReadyH.nil
              go_simp
              refine (drop_ref (C := C) (w0 := w) (gc := gc) (l := l2) (vw := .slice (some ⟨kb, 0, none⟩) 1 1) (ws := [s]) (vg := .slice none 0 0) (gs := []) u ra (by omega)).mono ?_
              rintro e wb ⟨rfl, rb⟩
              refine hK.out _ _ (rows_cellz rb Hu) (fun hHeld => ?_)
              clear hK K
              try simp only [Act.put, List.setIfInBounds_toArray, List.set_cons_zero, List.set_cons_succ]
              obtain ⟨Ab, cb, fb⟩ := ref_cell rb.J.ref
              refine anyH_narrow (S' := fun w' => w'.cell? ⟨kb, j, none⟩ = some (.string u) ∧ w'.cell? ⟨gr, 0, none⟩ = some (.slice Ab (dropL u l2).length cb)) (fun _ h => h.1) _ _ _ _ ?_
              have hN := And.intro hHeld fb
              clear hHeld
              refine wpAnyH_take (i := 21) (oi := ⟨some 150, _, _, _, _, _⟩) (v := ?vbA21) rfl (by kernel_rfl) (by kernel_rfl) (by kernel_rfl) (fun _ _ _ h => h) (Or.inl ⟨by rfl, ?ybA21⟩) hN ?rbA21
              case ybA21 =>
                intro wx hSx
                go_simp
                try with_reducible rfl
              try simp only [Act.put, List.setIfInBounds_toArray, List.set_cons_zero, List.set_cons_succ]
              refine wpAnyH_take (i := 22) (oi := ⟨some 151, _, _, _, _, _⟩) (v := ?vbA22) rfl (by kernel_rfl) (by kernel_rfl) (by kernel_rfl) (fun _ _ _ h => h) (Or.inl ⟨by rfl, ?ybA22⟩) hN ?rbA22
              case ybA22 =>
                intro wx hSx
                go_simp
                try with_reducible rfl
              try simp only [Act.put, List.setIfInBounds_toArray, List.set_cons_zero, List.set_cons_succ]
              refine wpAnyH_take (i := 23) (oi := ⟨some 152, _, _, _, _, _⟩) (v := ?vbA23) rfl (by kernel_rfl) (by kernel_rfl) (by kernel_rfl) (fun _ _ _ h => h) (Or.inl ⟨by rfl, ?ybA23⟩) hN ?rbA23
              case ybA23 =>
                intro wx hSx
                go_simp
                try with_reducible rfl
              try simp only [Act.put, List.setIfInBounds_toArray, List.set_cons_zero, List.set_cons_succ]
              refine wpAnyH_take (i := 24) (oi := ⟨some 153, _, _, _, _, _⟩) (v := ?vbA24) rfl (by kernel_rfl) (by kernel_rfl) (by kernel_rfl) (fun _ _ _ h => h) (Or.inl ⟨by rfl, ?ybA24⟩) hN ?rbA24
              case ybA24 =>
                intro wx hSx
                go_simp
                try with_reducible rfl
              try simp only [Act.put, List.setIfInBounds_toArray, List.set_cons_zero, List.set_cons_succ]
              refine wpAnyH_take (i := 26) (oi := ⟨some 155, _, _, _, _, _⟩) (v := ?vbA26) rfl (by kernel_rfl) (by kernel_rfl) (by kernel_rfl) (fun _ _ _ h => h) (Or.inl ⟨by rfl, ?ybA26⟩) hN ?rbA26
              case ybA26 =>
                intro wx hSx
                go_simp
                try with_reducible rfl
              try simp only [Act.put, List.setIfInBounds_toArray, List.set_cons_zero, List.set_cons_succ]
              refine wpAnyH_take (i := 27) (oi := ⟨some 156, _, _, _, _, _⟩) (v := ?vbA27) rfl (by kernel_rfl) (by kernel_rfl) (by kernel_rfl) (fun _ _ _ h => h) (Or.inl ⟨by rfl, ?ybA27⟩) hN ?rbA27
              case ybA27 =>
                intro wx hSx
                go_simp
                try with_reducible rfl
              try simp only [Act.put, List.setIfInBounds_toArray, List.set_cons_zero, List.set_cons_succ]
              refine wpAnyH_take (i := 28) (oi := ⟨some 157, _, _, _, _, _⟩) (v := ?vbA28) rfl (by kernel_rfl) (by kernel_rfl) (by kernel_rfl) (fun _ _ _ h => h) (Or.inl ⟨by rfl, ?ybA28⟩) hN ?rbA28
              case ybA28 =>
                intro wx hSx
                go_simp
                try with_reducible rfl
              try simp only [Act.put, List.setIfInBounds_toArray, List.set_cons_zero, List.set_cons_succ]
              refine wpAnyH_take (i := 29) (oi := ⟨some 158, _, _, _, _, _⟩) (v := ?vbA29) rfl (by kernel_rfl) (by kernel_rfl) (by kernel_rfl) (fun _ _ _ h => h) (Or.inl ⟨by rfl, ?ybA29⟩) hN ?rbA29
              case ybA29 =>
                intro wx hSx
                go_simp
                try with_reducible rfl
              try simp only [Act.put, List.setIfInBounds_toArray, List.set_cons_zero, List.set_cons_succ]
              refine wpAnyH_take (i := 30) (oi := ⟨some 159, _, _, _, _, _⟩) (v := ?vbA30) rfl (by kernel_rfl) (by kernel_rfl) (by kernel_rfl) (fun _ _ _ h => h) (Or.inl ⟨by rfl, ?ybA30⟩) hN ?rbA30
              case ybA30 =>
                intro wx hSx
                go_simp
                try with_reducible rfl
              try simp only [Act.put, List.setIfInBounds_toArray, List.set_cons_zero, List.set_cons_succ]
              refine wpAnyH_ready (rs := [25]) (by kernel_rfl) (by simp) ?_
              refine AllReadyH.cons (o := ⟨some 154, _, _, _, _, _⟩) rfl (fun K hK => ?_) AllReadyH.nil
              go_simp
              refine (len_code (C := C) (w0 := w) (gr := gr) (l := dropL u l2) (lr := dropL u l2) (vw := .slice (some ⟨kb, 0, none⟩) 1 1) (ws := [s]) (vg := .slice none 0 0) (gs := []) rb (by omega)).mono ?_
              rintro e wc ⟨rfl, rc, fc⟩
              refine hK.out _ _ ⟨rows_cellz rc Hu, fc _ fb⟩ (fun hN => ?_)
              clear hK K
              try simp only [Act.put, List.setIfInBounds_toArray, List.set_cons_zero, List.set_cons_succ]
              refine wpAnyH_take (i := 31) (oi := ⟨some 160, _, _, _, _, _⟩) (v := ?vbA31) rfl (by kernel_rfl) (by kernel_rfl) (by kernel_rfl) (fun _ _ _ h => h) (Or.inl ⟨by rfl, ?ybA31⟩) hN ?rbA31
              case ybA31 =>
                intro wx hSx
                go_simp
                try with_reducible rfl
              try simp only [Act.put, List.setIfInBounds_toArray, List.set_cons_zero, List.set_cons_succ]
              refine wpAnyH_take (i := 32) (oi := ⟨some 161, _, _, _, _, _⟩) (v := ?vbA32) rfl (by kernel_rfl) (by kernel_rfl) (by kernel_rfl) (fun _ _ _ h => h) (Or.inl ⟨by rfl, ?ybA32⟩) hN ?rbA32
              case ybA32 =>
                intro wx hSx
                go_simp
                try with_reducible rfl
              try simp only [Act.put, List.setIfInBounds_toArray, List.set_cons_zero, List.set_cons_succ]
              refine wpAnyH_done (by kernel_rfl) ?_ _
              replace rc := Lib.hid rc
              go_wp2_with fail
              refine ⟨⟨j + 1, dropL u l2, by omega, by go_num, by omega, rc⟩, ?_⟩
              simp [intOf]; omega
            · have hjn : 1 ≤ j := by omega
              go_wp2_with fail
              go_at_call 16
              refine (lives_any C _).mono ?_
              rintro e w9 ⟨rfl, b9⟩
              replace R := Lib.hid (R.out.later b9)
              clear b9
              go_wp2_with fail
              go_ret
              exact ⟨rfl, R.out.J.below⟩
        | cons y r =>
          subst hle
          obtain ⟨z, hz⟩ : ∃ z, (y :: r)[r.length]? = some z := ⟨_, List.getElem?_eq_getElem (by simp)⟩
          have HZ : Hid z.ok := Lib.hid (R.out.J.ref.2 z (List.mem_of_getElem? hz))
          obtain ⟨b5, o5, rfl, hb5, hr5⟩ := (ref_slice R.out.J.ref c3).at hz
          obtain ⟨d2, d3⟩ := range2 hr5
          have hi := index_any (P := Try.prog) knE (by decide) (b := b5) (off := o5) (len := r.length + 1) (cap := cap3) (i := r.length) (by omega)
          simp only [LE, List.length_cons] at d2 d3 hi c3 hl16 hl
          have Hz := Lib.hid hz
          clear hz hr5
          have q9 : decide ((0 : Int) < (r.length : Int) + 1) = true := decide_eq_true (by omega)
          go_wp2_with fail
          replace R := Lib.hid R.out.drew
          replace c3 : w3.drew.cell? ⟨gr, 0, none⟩ = some (.slice (some ⟨b5, o5, none⟩) (r.length + 1) cap3) := c3
          clear d2 d3
          have hw1 := IntWalk.i64_in (r.length : Int) (by omega)
          refine wp_region_held_drew (S := fun w' => w'.cell? ⟨gr, 0, none⟩ = some (.slice (some ⟨b5, o5, none⟩) (r.length + 1) cap3) ∧ w'.cell? ⟨b5, o5 + r.length * 2 + 1, none⟩ = some (.string z.key)) (by kernel_rfl) ⟨c3, ref_key R.out.J.ref c3 Hz⟩ (fun hHeld => ?_)
          generalize w3.drew = w4 at R c3 hHeld ⊢
          refine wpAnyH_take (i := 0) (oi := ⟨some 54, _, _, _, _, _⟩) (v := ?vc0) rfl (by kernel_rfl) (by kernel_rfl) (by kernel_rfl) (fun _ _ _ h => h) (Or.inl ⟨by rfl, ?yc0⟩) hHeld ?rc0
          case yc0 =>
            intro wx hSx
            go_simp
            try with_reducible rfl
          try simp only [Act.put, List.setIfInBounds_toArray, List.set_cons_zero, List.set_cons_succ]
          refine wpAnyH_take (i := 1) (oi := ⟨some 55, _, _, _, _, _⟩) (v := ?vc1) rfl (by kernel_rfl) (by kernel_rfl) (by kernel_rfl) (fun _ _ _ h => h) (Or.inl ⟨by rfl, ?yc1⟩) hHeld ?rc1
          case yc1 =>
            intro wx hSx
            go_simp
            try with_reducible rfl
          try simp only [Act.put, List.setIfInBounds_toArray, List.set_cons_zero, List.set_cons_succ]
          refine wpAnyH_take (i := 2) (oi := ⟨some 56, _, _, _, _, _⟩) (v := ?vc2) rfl (by kernel_rfl) (by kernel_rfl) (by kernel_rfl) (fun _ _ _ h => h) (Or.inl ⟨by rfl, ?yc2⟩) hHeld ?rc2
          case yc2 =>
            intro wx hSx
            go_simp
            try with_reducible rfl
          try simp only [Act.put, List.setIfInBounds_toArray, List.set_cons_zero, List.set_cons_succ]
          refine wpAnyH_take (i := 3) (oi := ⟨some 57, _, _, _, _, _⟩) (v := ?vc3) rfl (by kernel_rfl) (by kernel_rfl) (by kernel_rfl) (fun _ _ _ h => h) (Or.inl ⟨by rfl, ?yc3⟩) hHeld ?rc3
          case yc3 =>
            intro wx hSx
            go_simp
            try with_reducible rfl
          try simp only [Act.put, List.setIfInBounds_toArray, List.set_cons_zero, List.set_cons_succ]
          refine wpAnyH_take (i := 4) (oi := ⟨some 58, _, _, _, _, _⟩) (v := ?vc4) rfl (by kernel_rfl) (by kernel_rfl) (by kernel_rfl) (fun _ _ _ h => h) (Or.inl ⟨by rfl, ?yc4⟩) hHeld ?rc4
          case yc4 =>
            intro wx hSx
            go_simp
            try with_reducible rfl
          try simp only [Act.put, List.setIfInBounds_toArray, List.set_cons_zero, List.set_cons_succ]
          refine wpAnyH_take (i := 5) (oi := ⟨some 59, _, _, _, _, _⟩) (v := ?vc5) rfl (by kernel_rfl) (by kernel_rfl) (by kernel_rfl) (fun _ _ _ h => h) (Or.inl ⟨by rfl, ?yc5⟩) hHeld ?rc5
          case yc5 =>
            intro wx hSx
            go_simp
            try with_reducible rfl
          try simp only [Act.put, List.setIfInBounds_toArray, List.set_cons_zero, List.set_cons_succ]
          refine wpAnyH_take (i := 6) (oi := ⟨some 60, _, _, _, _, _⟩) (v := ?vc6) rfl (by kernel_rfl) (by kernel_rfl) (by kernel_rfl) (fun _ _ _ h => h) (Or.inl ⟨by rfl, ?yc6⟩) hHeld ?rc6
          case yc6 =>
            intro wx hSx
            go_simp
            try with_reducible rfl
          try simp only [Act.put, List.setIfInBounds_toArray, List.set_cons_zero, List.set_cons_succ]
          refine wpAnyH_take (i := 7) (oi := ⟨some 61, _, _, _, _, _⟩) (v := ?vc7) rfl (by kernel_rfl) (by kernel_rfl) (by kernel_rfl) (fun _ _ _ h => h) (Or.inl ⟨by rfl, ?yc7⟩) hHeld ?rc7
          case yc7 =>
            intro wx hSx
            go_simp
            try with_reducible rfl
          try simp only [Act.put, List.setIfInBounds_toArray, List.set_cons_zero, List.set_cons_succ]
          refine wpAnyH_take (i := 8) (oi := ⟨some 62, _, _, _, _, _⟩) (v := ?vc8) rfl (by kernel_rfl) (by kernel_rfl) (by kernel_rfl) (fun _ _ _ h => h) (Or.inl ⟨by rfl, ?yc8⟩) hHeld ?rc8
          case yc8 =>
            intro wx hSx
            go_simp
            try with_reducible rfl
          try simp only [Act.put, List.setIfInBounds_toArray, List.set_cons_zero, List.set_cons_succ]
          refine wpAnyH_take (i := 9) (oi := ⟨some 63, _, _, _, _, _⟩) (v := ?vc9) rfl (by kernel_rfl) (by kernel_rfl) (by kernel_rfl) (fun _ _ _ h => h) (Or.inl ⟨by rfl, ?yc9⟩) hHeld ?rc9
          case yc9 =>
            intro wx hSx
            go_simp
            try with_reducible rfl
          try simp only [Act.put, List.setIfInBounds_toArray, List.set_cons_zero, List.set_cons_succ]
          refine wpAnyH_take (i := 10) (oi := ⟨some 64, _, _, _, _, _⟩) (v := ?vc10) rfl (by kernel_rfl) (by kernel_rfl) (by kernel_rfl) (fun _ _ _ h => h) (Or.inl ⟨by rfl, ?yc10⟩) hHeld ?rc10
          case yc10 =>
            intro wx hSx
            go_simp
            try with_reducible rfl
          try simp only [Act.put, List.setIfInBounds_toArray, List.set_cons_zero, List.set_cons_succ]
          refine wpAnyH_take (i := 11) (oi := ⟨some 65, _, _, _, _, _⟩) (v := ?vc11) rfl (by kernel_rfl) (by kernel_rfl) (by kernel_rfl) (fun _ _ _ h => h) (Or.inl ⟨by rfl, ?yc11⟩) hHeld ?rc11
          case yc11 =>
            intro wx hSx
            go_simp
            try with_reducible rfl
          try simp only [Act.put, List.setIfInBounds_toArray, List.set_cons_zero, List.set_cons_succ]
          refine wpAnyH_take (i := 12) (oi := ⟨some 66, _, _, _, _, _⟩) (v := ?vc12) rfl (by kernel_rfl) (by kernel_rfl) (by kernel_rfl) (fun _ _ _ h => h) (Or.inl ⟨by rfl, ?yc12⟩) hHeld ?rc12
          case yc12 =>
            intro wx hSx
            go_simp
            try with_reducible rfl
          try simp only [Act.put, List.setIfInBounds_toArray, List.set_cons_zero, List.set_cons_succ]
          refine wpAnyH_take (i := 13) (oi := ⟨some 67, _, _, _, _, _⟩) (v := ?vc13) rfl (by kernel_rfl) (by kernel_rfl) (by kernel_rfl) (fun _ _ _ h => h) (Or.inl ⟨by rfl, ?yc13⟩) hHeld ?rc13
          case yc13 =>
            intro wx hSx
            go_simp
            try with_reducible rfl
          try simp only [Act.put, List.setIfInBounds_toArray, List.set_cons_zero, List.set_cons_succ]
          refine wpAnyH_ready (rs := [14]) (by kernel_rfl) (by simp) ?_
          refine AllReadyH.cons (o := ⟨some 68, _, _, _, _, _⟩) rfl (fun K hK => ?_) AllReadyH.nil
          go_simp
          have ha1 : Hid (Below w4.heap.size w4 (w4.alloc (.cells #[.string z.key] 9))) := Lib.hid ((Below.refl _ _).alloc (Nat.le_refl _) _)
          have hlit := Lib.hid (lit_slice (L := LT) w4 z.key w4.heap.size rfl #[.string z.key] rfl)
          have c4 := (ha1.out.cell (p := ⟨gr, 0, none⟩) R.out.J.ref.lt).trans c3
          replace R := Lib.hid (R.out.later ha1.out)
          refine hK.out _ _ ⟨c4, ref_key R.out.J.ref c4 Hz⟩ (fun hHeld => ?_)
          clear hK K ha1 c3
          try simp only [Act.put, List.setIfInBounds_toArray, List.set_cons_zero, List.set_cons_succ]
          refine wpAnyH_ready (rs := [15]) (by kernel_rfl) (by simp) ?_
          refine AllReadyH.cons (o := ⟨some 69, _, _, _, _, _⟩) rfl (fun K hK => ?_) AllReadyH.nil
          rw [if_pos (by rfl)]
          refine wp_puts knT (.tmp 54) (.tmp 68) 32 rfl (v := .slice (some ⟨kb, 0, none⟩) 1 1) rfl R.out.mg R.out.J.below.size (.slice (some ⟨w4.heap.size, 0, none⟩) 1 1) [z.key] 1 rfl rfl (hlit.out.srcN knT rfl) (by simp) ?_
          intro A6 ck w6 m6 b6 o6
          have c6 := b6.cell c4 (fun e => (mine_ne_ref R.out.mg (by decide) R.out.J.ref kb rfl) e.symm)
          replace R := Lib.hid (R.out.put b6 m6 o6)
          refine hK.out _ _ ⟨c6, ref_key R.out.J.ref c6 Hz⟩ (fun hHeld => ?_)
          clear hK K hlit c4 m6 b6 o6
          try simp only [Act.put, List.setIfInBounds_toArray, List.set_cons_zero, List.set_cons_succ]
          refine wpAnyH_take (i := 16) (oi := ⟨some 8, _, _, _, _, _⟩) (v := ?vc16) rfl (by kernel_rfl) (by kernel_rfl) (by kernel_rfl) (fun _ _ _ h => h) (Or.inl ⟨by rfl, ?yc16⟩) hHeld ?rc16
          case yc16 =>
            intro wx hSx
            go_simp
            try with_reducible rfl
          try simp only [Act.put, List.setIfInBounds_toArray, List.set_cons_zero, List.set_cons_succ]
          refine wpAnyH_done (by kernel_rfl) ?_ _
          replace R := Lib.hid (show C.Rows w w6 gc gr (y :: r) (y :: r) (.slice A6 2 ck) [s, z.key] (.slice none 0 0) [] from R.out.swap)
          rw [show ([s] : List ByteArray).length + 1 = 2 from rfl]
          obtain ⟨kb, ko, rfl, _, _⟩ := R.out.mw.slice.at (i := 0) (x := s) rfl
          clear hHeld c6 hi hw1 q9 hb5
          go_wp2_with fail
          go_at_call 18
          refine (C.first R.out.J.code (by simp; try omega)).mono ?_
          rintro e w4 ⟨rfl, hc4, t4⟩
          replace R := Lib.hid (R.out.codes hc4 t4)
          clear hc4 t4
          rw [show (firstE (y :: r)).val = .agg #[.int .i64 y.tick, .string y.key] from rfl, show decide ((y :: r) ≠ []) = true from by simp]
          go_upto_region 14 with (fail)
          have hbx : Hid (Below w4.heap.size w4 (w4.alloc (.cells #[.int .i64 y.tick, .string y.key] 45))) := Lib.hid ((Below.refl _ _).alloc (Nat.le_refl _) _)
          have hoh : Hid ((w4.alloc (.cells #[.int .i64 y.tick, .string y.key] 45)).heap[w4.heap.size]? = some (.cells #[.int .i64 y.tick, .string y.key] 45 (0, 0))) := Lib.hid (heap_alloc_new w4 _)
          replace R := Lib.hid (R.out.later hbx.out)
          clear hbx
          generalize World.alloc w4 _ = w5 at R hoh ⊢
          generalize w4.heap.size = eb at hoh ⊢
          have d0 := cell_at hoh.out 0
          have d1 := cell_at hoh.out 1
          simp at d0 d1
          obtain ⟨A5, cap5, c5⟩ := ref_cell R.out.J.ref
          obtain ⟨b5, o5, rfl, hb5, hr5⟩ := (ref_slice R.out.J.ref c5).at (i := 0) (x := y) rfl
          obtain ⟨d2, d3⟩ := range2 hr5
          have hi := index_any (P := Try.prog) knE (by decide) (b := b5) (off := o5) (len := r.length + 1) (cap := cap5) (i := 0) (by omega)
          rw [show ((0 : Nat) : Int) = 0 from rfl] at hi
          simp only [Nat.zero_mul, Nat.add_zero, List.length_cons] at d2 d3 hi c5
          have qe := fun wz => (eql_ent y y wz)
          rw [show decide (y = y) = true from by simp] at qe
          have q9 : decide ((0 : Int) < (r.length : Int) + 1) = true := decide_eq_true (by omega)
          go_wp2_with fail
          go_quiet (fail)
          replace R := Lib.hid (R.out.drewN nq)
          generalize World.drewN _ nq = w6 at R ⊢
          clear hoh d0 d1 d2 d3 hi hr5 c5 qe q9
          go_wp2_with fail
          go_loopw [11] (fun i wr => ∃ (j : Nat) (l : List Ent), j ≤ 2 ∧ i = .int .i64 (j : Int) ∧ l.length ≤ 16 ∧ Hid (C.Rows w wr gc gr l l (.slice (some ⟨kb, ko, none⟩) 2 ck) [s, z.key] (.slice none 0 0) [])) (fun i _ => 2 - (intOf i).toNat)
          case atStart => exact ⟨0, (y :: r), by omega, rfl, by simp; try omega, R⟩
          case round =>
            clear R
            obtain ⟨j, l2, hj, rfl, hl2, R⟩ := hrel
            by_cases hlt : j < 2
            · have hs : ∃ u, ([s, z.key] : List ByteArray)[j]? = some u ∧ u.size ≤ maxLen := by
                  have : j = 0 ∨ j = 1 := by omega
                  unfold maxLen
                  rcases this with rfl | rfl
                  · exact ⟨s, rfl, by omega⟩
                  · exact ⟨z.key, rfl, by have := HZ.out.1; omega⟩
              obtain ⟨u, hu, huz⟩ := hs
              have Hu := Lib.hid hu
              clear hu
              have i0 : (0 : Int) ≤ (j : Int) := by omega
              have i1 : (j : Int) < 2 := by omega
              have d0 := rows_cell R.out Hu
              go_wp2_with fail
              go_at_call 19
              refine (C.at' u R.out.J.code (by omega) huz).mono ?_
              rintro e w7 ⟨rfl, hc7, t7⟩
              replace R := Lib.hid (R.out.codes hc7 t7)
              clear hc7 t7 d0
              have d0 := rows_cell R.out Hu
              go_wp2_with fail
              go_at_call 20
              refine (refAt_any gr l2 u w7 R.out.J.ref (by omega)).mono ?_
              rintro e wz ⟨rfl, rfl⟩
              generalize tickL u l2 = tk
              have hdl := drop_len u l2
              have hR := R.out
              have hR0 := R.out.drew
              go_wp2_with fail
              refine wp_region_held_drew (S := fun w' => w'.cell? ⟨kb, ko + j, none⟩ = some (.string u)) (by kernel_rfl) (rows_cell hR0 Hu) (fun hHeld => ?_)
              refine wpAnyH_take (i := 0) (oi := ⟨some 129, _, _, _, _, _⟩) (v := ?vd0) rfl (by kernel_rfl) (by kernel_rfl) (by kernel_rfl) (fun _ _ _ h => h) (Or.inl ⟨by rfl, ?yd0⟩) hHeld ?rd0
              case yd0 =>
                intro wx hSx
                go_simp
                try with_reducible rfl
              try simp only [Act.put, List.setIfInBounds_toArray, List.set_cons_zero, List.set_cons_succ]
              refine wpAnyH_take (i := 1) (oi := ⟨some 130, _, _, _, _, _⟩) (v := ?vd1) rfl (by kernel_rfl) (by kernel_rfl) (by kernel_rfl) (fun _ _ _ h => h) (Or.inl ⟨by rfl, ?yd1⟩) hHeld ?rd1
              case yd1 =>
                intro wx hSx
                go_simp
                try with_reducible rfl
              try simp only [Act.put, List.setIfInBounds_toArray, List.set_cons_zero, List.set_cons_succ]
              refine wpAnyH_take (i := 2) (oi := ⟨some 131, _, _, _, _, _⟩) (v := ?vd2) rfl (by kernel_rfl) (by kernel_rfl) (by kernel_rfl) (fun _ _ _ h => h) (Or.inl ⟨by rfl, ?yd2⟩) hHeld ?rd2
              case yd2 =>
                intro wx hSx
                go_simp
                try with_reducible rfl
              try simp only [Act.put, List.setIfInBounds_toArray, List.set_cons_zero, List.set_cons_succ]
              refine wpAnyH_take (i := 3) (oi := ⟨some 132, _, _, _, _, _⟩) (v := ?vd3) rfl (by kernel_rfl) (by kernel_rfl) (by kernel_rfl) (fun _ _ _ h => h) (Or.inl ⟨by rfl, ?yd3⟩) hHeld ?rd3
              case yd3 =>
                intro wx hSx
                go_simp
                try with_reducible rfl
              try simp only [Act.put, List.setIfInBounds_toArray, List.set_cons_zero, List.set_cons_succ]
              refine wpAnyH_take (i := 4) (oi := ⟨some 133, _, _, _, _, _⟩) (v := ?vd4) rfl (by kernel_rfl) (by kernel_rfl) (by kernel_rfl) (fun _ _ _ h => h) (Or.inl ⟨by rfl, ?yd4⟩) hHeld ?rd4
              case yd4 =>
                intro wx hSx
                go_simp
                try with_reducible rfl
              try simp only [Act.put, List.setIfInBounds_toArray, List.set_cons_zero, List.set_cons_succ]
              refine wpAnyH_take (i := 5) (oi := ⟨some 134, _, _, _, _, _⟩) (v := ?vd5) rfl (by kernel_rfl) (by kernel_rfl) (by kernel_rfl) (fun _ _ _ h => h) (Or.inl ⟨by rfl, ?yd5⟩) hHeld ?rd5
              case yd5 =>
                intro wx hSx
                go_simp
                try with_reducible rfl
              try simp only [Act.put, List.setIfInBounds_toArray, List.set_cons_zero, List.set_cons_succ]
              refine wpAnyH_take (i := 6) (oi := ⟨some 135, _, _, _, _, _⟩) (v := ?vd6) rfl (by kernel_rfl) (by kernel_rfl) (by kernel_rfl) (fun _ _ _ h => h) (Or.inl ⟨by rfl, ?yd6⟩) hHeld ?rd6
              case yd6 =>
                intro wx hSx
                go_simp
                try with_reducible rfl
              try simp only [Act.put, List.setIfInBounds_toArray, List.set_cons_zero, List.set_cons_succ]
              refine wpAnyH_take (i := 7) (oi := ⟨some 136, _, _, _, _, _⟩) (v := ?vd7) rfl (by kernel_rfl) (by kernel_rfl) (by kernel_rfl) (fun _ _ _ h => h) (Or.inl ⟨by rfl, ?yd7⟩) hHeld ?rd7
              case yd7 =>
                intro wx hSx
                go_simp
                try with_reducible rfl
              try simp only [Act.put, List.setIfInBounds_toArray, List.set_cons_zero, List.set_cons_succ]
              refine wpAnyH_take (i := 8) (oi := ⟨some 137, _, _, _, _, _⟩) (v := ?vd8) rfl (by kernel_rfl) (by kernel_rfl) (by kernel_rfl) (fun _ _ _ h => h) (Or.inl ⟨by rfl, ?yd8⟩) hHeld ?rd8
              case yd8 =>
                intro wx hSx
                go_simp
                try with_reducible rfl
              try simp only [Act.put, List.setIfInBounds_toArray, List.set_cons_zero, List.set_cons_succ]
              refine wpAnyH_take (i := 9) (oi := ⟨some 138, _, _, _, _, _⟩) (v := ?vd9) rfl (by kernel_rfl) (by kernel_rfl) (by kernel_rfl) (fun _ _ _ h => h) (Or.inl ⟨by rfl, ?yd9⟩) hHeld ?rd9
              case yd9 =>
                intro wx hSx
                go_simp
                try with_reducible rfl
              try simp only [Act.put, List.setIfInBounds_toArray, List.set_cons_zero, List.set_cons_succ]
              refine wpAnyH_take (i := 10) (oi := ⟨some 139, _, _, _, _, _⟩) (v := ?vd10) rfl (by kernel_rfl) (by kernel_rfl) (by kernel_rfl) (fun _ _ _ h => h) (Or.inl ⟨by rfl, ?yd10⟩) hHeld ?rd10
              case yd10 =>
                intro wx hSx
                go_simp
                try with_reducible rfl
              try simp only [Act.put, List.setIfInBounds_toArray, List.set_cons_zero, List.set_cons_succ]
              refine wpAnyH_take (i := 11) (oi := ⟨some 140, _, _, _, _, _⟩) (v := ?vd11) rfl (by kernel_rfl) (by kernel_rfl) (by kernel_rfl) (fun _ _ _ h => h) (Or.inl ⟨by rfl, ?yd11⟩) hHeld ?rd11
              case yd11 =>
                intro wx hSx
                go_simp
                try with_reducible rfl
              try simp only [Act.put, List.setIfInBounds_toArray, List.set_cons_zero, List.set_cons_succ]
              refine wpAnyH_take (i := 12) (oi := ⟨some 141, _, _, _, _, _⟩) (v := ?vd12) rfl (by kernel_rfl) (by kernel_rfl) (by kernel_rfl) (fun _ _ _ h => h) (Or.inl ⟨by rfl, ?yd12⟩) hHeld ?rd12
              case yd12 =>
                intro wx hSx
                go_simp
                try with_reducible rfl
              try simp only [Act.put, List.setIfInBounds_toArray, List.set_cons_zero, List.set_cons_succ]
              refine wpAnyH_take (i := 13) (oi := ⟨some 142, _, _, _, _, _⟩) (v := ?vd13) rfl (by kernel_rfl) (by kernel_rfl) (by kernel_rfl) (fun _ _ _ h => h) (Or.inl ⟨by rfl, ?yd13⟩) hHeld ?rd13
              case yd13 =>
                intro wx hSx
                go_simp
                try with_reducible rfl
              try simp only [Act.put, List.setIfInBounds_toArray, List.set_cons_zero, List.set_cons_succ]
              refine wpAnyH_take (i := 15) (oi := ⟨some 144, _, _, _, _, _⟩) (v := ?vd15) rfl (by kernel_rfl) (by kernel_rfl) (by kernel_rfl) (fun _ _ _ h => h) (Or.inl ⟨by rfl, ?yd15⟩) hHeld ?rd15
              case yd15 =>
                intro wx hSx
                go_simp
                try with_reducible rfl
              try simp only [Act.put, List.setIfInBounds_toArray, List.set_cons_zero, List.set_cons_succ]
              refine wpAnyH_take (i := 16) (oi := ⟨some 145, _, _, _, _, _⟩) (v := ?vd16) rfl (by kernel_rfl) (by kernel_rfl) (by kernel_rfl) (fun _ _ _ h => h) (Or.inl ⟨by rfl, ?yd16⟩) hHeld ?rd16
              case yd16 =>
                intro wx hSx
                go_simp
                try with_reducible rfl
              try simp only [Act.put, List.setIfInBounds_toArray, List.set_cons_zero, List.set_cons_succ]
              refine wpAnyH_take (i := 17) (oi := ⟨some 146, _, _, _, _, _⟩) (v := ?vd17) rfl (by kernel_rfl) (by kernel_rfl) (by kernel_rfl) (fun _ _ _ h => h) (Or.inl ⟨by rfl, ?yd17⟩) hHeld ?rd17
              case yd17 =>
                intro wx hSx
                go_simp
                try with_reducible rfl
              try simp only [Act.put, List.setIfInBounds_toArray, List.set_cons_zero, List.set_cons_succ]
              refine wpAnyH_take (i := 18) (oi := ⟨some 147, _, _, _, _, _⟩) (v := ?vd18) rfl (by kernel_rfl) (by kernel_rfl) (by kernel_rfl) (fun _ _ _ h => h) (Or.inl ⟨by rfl, ?yd18⟩) hHeld ?rd18
              case yd18 =>
                intro wx hSx
                go_simp
                try with_reducible rfl
              try simp only [Act.put, List.setIfInBounds_toArray, List.set_cons_zero, List.set_cons_succ]
              refine wpAnyH_take (i := 19) (oi := ⟨some 148, _, _, _, _, _⟩) (v := ?vd19) rfl (by kernel_rfl) (by kernel_rfl) (by kernel_rfl) (fun _ _ _ h => h) (Or.inl ⟨by rfl, ?yd19⟩) hHeld ?rd19
              case yd19 =>
                intro wx hSx
                go_simp
                try with_reducible rfl
              try simp only [Act.put, List.setIfInBounds_toArray, List.set_cons_zero, List.set_cons_succ]
              refine wpAnyH_ready (rs := [14]) (by kernel_rfl) (by simp) ?_
              refine AllReadyH.cons (o := ⟨some 143, _, _, _, _, _⟩) rfl (fun K hK => ?_) AllReadyH.nil
              go_simp
              refine (drop_code (C := C) (w0 := w) (gr := gr) (l := l2) (vw := .slice (some ⟨kb, ko, none⟩) 2 ck) (ws := [s, z.key]) (vg := .slice none 0 0) (gs := []) u hR0 (by omega) huz).mono ?_
              rintro e wa ⟨rfl, ra⟩
              refine hK.out _ _ (rows_cell ra Hu) (fun hHeld => ?_)
              clear hK K
              try simp only [Act.put, List.setIfInBounds_toArray, List.set_cons_zero, List.set_cons_succ]
              refine wpAnyH_ready (rs := [20]) (by kernel_rfl) (by simp) ?_
              refine AllReadyH.cons (o := ⟨some 149, _, _, _, _, _⟩) rfl (fun K hK => ?_) AllReadyH.nil
              go_simp
              refine (drop_ref (C := C) (w0 := w) (gc := gc) (l := l2) (vw := .slice (some ⟨kb, ko, none⟩) 2 ck) (ws := [s, z.key]) (vg := .slice none 0 0) (gs := []) u ra (by omega)).mono ?_
              rintro e wb ⟨rfl, rb⟩
              refine hK.out _ _ (rows_cell rb Hu) (fun hHeld => ?_)
              clear hK K
              try simp only [Act.put, List.setIfInBounds_toArray, List.set_cons_zero, List.set_cons_succ]
              obtain ⟨Ab, cb, fb⟩ := ref_cell rb.J.ref
              refine anyH_narrow (S' := fun w' => w'.cell? ⟨kb, ko + j, none⟩ = some (.string u) ∧ w'.cell? ⟨gr, 0, none⟩ = some (.slice Ab (dropL u l2).length cb)) (fun _ h => h.1) _ _ _ _ ?_
              have hN := And.intro hHeld fb
              clear hHeld
              refine wpAnyH_take (i := 21) (oi := ⟨some 150, _, _, _, _, _⟩) (v := ?vdA21) rfl (by kernel_rfl) (by kernel_rfl) (by kernel_rfl) (fun _ _ _ h => h) (Or.inl ⟨by rfl, ?ydA21⟩) hN ?rdA21
              case ydA21 =>
                intro wx hSx
                go_simp
                try with_reducible rfl
              try simp only [Act.put, List.setIfInBounds_toArray, List.set_cons_zero, List.set_cons_succ]
              refine wpAnyH_take (i := 22) (oi := ⟨some 151, _, _, _, _, _⟩) (v := ?vdA22) rfl (by kernel_rfl) (by kernel_rfl) (by kernel_rfl) (fun _ _ _ h => h) (Or.inl ⟨by rfl, ?ydA22⟩) hN ?rdA22
              case ydA22 =>
                intro wx hSx
                go_simp
                try with_reducible rfl
              try simp only [Act.put, List.setIfInBounds_toArray, List.set_cons_zero, List.set_cons_succ]
              refine wpAnyH_take (i := 23) (oi := ⟨some 152, _, _, _, _, _⟩) (v := ?vdA23) rfl (by kernel_rfl) (by kernel_rfl) (by kernel_rfl) (fun _ _ _ h => h) (Or.inl ⟨by rfl, ?ydA23⟩) hN ?rdA23
              case ydA23 =>
                intro wx hSx
                go_simp
                try with_reducible rfl
              try simp only [Act.put, List.setIfInBounds_toArray, List.set_cons_zero, List.set_cons_succ]
              refine wpAnyH_take (i := 24) (oi := ⟨some 153, _, _, _, _, _⟩) (v := ?vdA24) rfl (by kernel_rfl) (by kernel_rfl) (by kernel_rfl) (fun _ _ _ h => h) (Or.inl ⟨by rfl, ?ydA24⟩) hN ?rdA24
              case ydA24 =>
                intro wx hSx
                go_simp
                try with_reducible rfl
              try simp only [Act.put, List.setIfInBounds_toArray, List.set_cons_zero, List.set_cons_succ]
              refine wpAnyH_take (i := 26) (oi := ⟨some 155, _, _, _, _, _⟩) (v := ?vdA26) rfl (by kernel_rfl) (by kernel_rfl) (by kernel_rfl) (fun _ _ _ h => h) (Or.inl ⟨by rfl, ?ydA26⟩) hN ?rdA26
              case ydA26 =>
                intro wx hSx
                go_simp
                try with_reducible rfl
              try simp only [Act.put, List.setIfInBounds_toArray, List.set_cons_zero, List.set_cons_succ]
              refine wpAnyH_take (i := 27) (oi := ⟨some 156, _, _, _, _, _⟩) (v := ?vdA27) rfl (by kernel_rfl) (by kernel_rfl) (by kernel_rfl) (fun _ _ _ h => h) (Or.inl ⟨by rfl, ?ydA27⟩) hN ?rdA27
              case ydA27 =>
                intro wx hSx
                go_simp
                try with_reducible rfl
              try simp only [Act.put, List.setIfInBounds_toArray, List.set_cons_zero, List.set_cons_succ]
              refine wpAnyH_take (i := 28) (oi := ⟨some 157, _, _, _, _, _⟩) (v := ?vdA28) rfl (by kernel_rfl) (by kernel_rfl) (by kernel_rfl) (fun _ _ _ h => h) (Or.inl ⟨by rfl, ?ydA28⟩) hN ?rdA28
              case ydA28 =>
                intro wx hSx
                go_simp
                try with_reducible rfl
              try simp only [Act.put, List.setIfInBounds_toArray, List.set_cons_zero, List.set_cons_succ]
              refine wpAnyH_take (i := 29) (oi := ⟨some 158, _, _, _, _, _⟩) (v := ?vdA29) rfl (by kernel_rfl) (by kernel_rfl) (by kernel_rfl) (fun _ _ _ h => h) (Or.inl ⟨by rfl, ?ydA29⟩) hN ?rdA29
              case ydA29 =>
                intro wx hSx
                go_simp
                try with_reducible rfl
              try simp only [Act.put, List.setIfInBounds_toArray, List.set_cons_zero, List.set_cons_succ]
              refine wpAnyH_take (i := 30) (oi := ⟨some 159, _, _, _, _, _⟩) (v := ?vdA30) rfl (by kernel_rfl) (by kernel_rfl) (by kernel_rfl) (fun _ _ _ h => h) (Or.inl ⟨by rfl, ?ydA30⟩) hN ?rdA30
              case ydA30 =>
                intro wx hSx
                go_simp
                try with_reducible rfl
              try simp only [Act.put, List.setIfInBounds_toArray, List.set_cons_zero, List.set_cons_succ]
              refine wpAnyH_ready (rs := [25]) (by kernel_rfl) (by simp) ?_
              refine AllReadyH.cons (o := ⟨some 154, _, _, _, _, _⟩) rfl (fun K hK => ?_) AllReadyH.nil
              go_simp
              refine (len_code (C := C) (w0 := w) (gr := gr) (l := dropL u l2) (lr := dropL u l2) (vw := .slice (some ⟨kb, ko, none⟩) 2 ck) (ws := [s, z.key]) (vg := .slice none 0 0) (gs := []) rb (by omega)).mono ?_
              rintro e wc ⟨rfl, rc, fc⟩
              refine hK.out _ _ ⟨rows_cell rc Hu, fc _ fb⟩ (fun hN => ?_)
              clear hK K
              try simp only [Act.put, List.setIfInBounds_toArray, List.set_cons_zero, List.set_cons_succ]
              refine wpAnyH_take (i := 31) (oi := ⟨some 160, _, _, _, _, _⟩) (v := ?vdA31) rfl (by kernel_rfl) (by kernel_rfl) (by kernel_rfl) (fun _ _ _ h => h) (Or.inl ⟨by rfl, ?ydA31⟩) hN ?rdA31
              case ydA31 =>
                intro wx hSx
                go_simp
                try with_reducible rfl
              try simp only [Act.put, List.setIfInBounds_toArray, List.set_cons_zero, List.set_cons_succ]
              refine wpAnyH_take (i := 32) (oi := ⟨some 161, _, _, _, _, _⟩) (v := ?vdA32) rfl (by kernel_rfl) (by kernel_rfl) (by kernel_rfl) (fun _ _ _ h => h) (Or.inl ⟨by rfl, ?ydA32⟩) hN ?rdA32
              case ydA32 =>
                intro wx hSx
                go_simp
                try with_reducible rfl
              try simp only [Act.put, List.setIfInBounds_toArray, List.set_cons_zero, List.set_cons_succ]
              refine wpAnyH_done (by kernel_rfl) ?_ _
              replace rc := Lib.hid rc
              go_wp2_with fail
              refine ⟨⟨j + 1, dropL u l2, by omega, by go_num, by omega, rc⟩, ?_⟩
              simp [intOf]; omega
            · have hjn : 2 ≤ j := by omega
              go_wp2_with fail
              go_at_call 16
              refine (lives_any C _).mono ?_
              rintro e w9 ⟨rfl, b9⟩
              replace R := Lib.hid (R.out.later b9)
              clear b9
              go_wp2_with fail
              go_ret
              exact ⟨rfl, R.out.J.below⟩
      · go_wp2_with fail
        go_at_call 17
        refine (few_any key 4 (by decide) _ hky).mono ?_
        rintro e wz ⟨rfl, rfl⟩
        generalize fewS key 4 = s at HF ⊢
        have hbx : Hid (Below wr.heap.size wr (wr.alloc (.cells #[.string s] 9))) := Lib.hid ((Below.refl _ _).alloc (Nat.le_refl _) _)
        have R : Hid (C.Rows w (wr.alloc (.cells #[.string s] 9)) gc gr l l (.slice none 0 0) [] (.slice (some ⟨wr.heap.size, 0, none⟩) 1 1) [s]) := Lib.hid ((Heaps.Rows.start (C := C) J.out).put (vg := .slice none 0 0) ⟨hbx.out.os, hbx.out.tape, hbx.out.output, hbx.out.size, fun k hk _ => hbx.out.block k hk⟩ (.inr ⟨wr.heap.size, 0, 1, _, rfl, J.out.below.size, heap_alloc_new wr _, Nat.le_refl _, by unfold maxLen; omega, by simp [LT], by simp [LT, Lies.vs]⟩) (fun k hk => by simp only [Value.ownBlock, Option.some.injEq] at hk; exact .inr (by omega)))
        clear J hbx
        go_upto_region 11 with (fail)
        generalize World.alloc wr _ = w3 at R ⊢
        generalize wr.heap.size = kb at R ⊢
        obtain ⟨A3, cap3, c3⟩ := ref_cell R.out.J.ref
        cases hle : l with
        | nil =>
          subst hle
          simp only [List.length_nil] at c3
          replace R := Lib.hid R.out.swap
          go_wp2_with fail
          clear c3
          go_at_call 18
          refine (C.first R.out.J.code (by simp; try omega)).mono ?_
          rintro e w4 ⟨rfl, hc4, t4⟩
          replace R := Lib.hid (R.out.codes hc4 t4)
          clear hc4 t4
          rw [show (firstE []).val = .agg #[.int .i64 0, .string ⟨#[]⟩] from rfl, show decide (([] : List Ent) ≠ []) = false from rfl]
          go_upto_region 14 with (fail)
          have hbx : Hid (Below w4.heap.size w4 (w4.alloc (.cells #[.int .i64 0, .string ⟨#[]⟩] 45))) := Lib.hid ((Below.refl _ _).alloc (Nat.le_refl _) _)
          have hoh : Hid ((w4.alloc (.cells #[.int .i64 0, .string ⟨#[]⟩] 45)).heap[w4.heap.size]? = some (.cells #[.int .i64 0, .string ⟨#[]⟩] 45 (0, 0))) := Lib.hid (heap_alloc_new w4 _)
          replace R := Lib.hid (R.out.later hbx.out)
          clear hbx
          generalize World.alloc w4 _ = w5 at R hoh ⊢
          generalize w4.heap.size = eb at hoh ⊢
          have d0 := cell_at hoh.out 0
          have d1 := cell_at hoh.out 1
          simp at d0 d1
          obtain ⟨A5, cap5, c5⟩ := ref_cell R.out.J.ref
          simp only [List.length_nil] at c5
          have qe := fun wz => (eql_entC ⟨0, ⟨#[]⟩⟩ ⟨0, ⟨#[]⟩⟩ wz)
          rw [show decide ((⟨0, ⟨#[]⟩⟩ : Ent) = ⟨0, ⟨#[]⟩⟩) = true from by simp] at qe
          go_wp2_with fail
          go_quiet (fail)
          replace R := Lib.hid (R.out.drewN nq)
          generalize World.drewN _ nq = w6 at R ⊢
          clear hoh d0 d1 c5 qe
          go_wp2_with fail
          go_loopw [11] (fun i wr => ∃ (j : Nat) (l : List Ent), j ≤ 1 ∧ i = .int .i64 (j : Int) ∧ l.length ≤ 16 ∧ Hid (C.Rows w wr gc gr l l (.slice (some ⟨kb, 0, none⟩) 1 1) [s] (.slice none 0 0) [])) (fun i _ => 1 - (intOf i).toNat)
          case atStart => exact ⟨0, [], by omega, rfl, by simp; try omega, R⟩
          case round =>
            clear R
            obtain ⟨j, l2, hj, rfl, hl2, R⟩ := hrel
            by_cases hlt : j < 1
            · have hs : ∃ u, ([s] : List ByteArray)[j]? = some u ∧ u.size ≤ maxLen := by
                  have : j = 0 ∨ j = 1 := by omega
                  unfold maxLen
                  rcases this with rfl | rfl
                  · exact ⟨s, rfl, by omega⟩
                  · omega
              obtain ⟨u, hu, huz⟩ := hs
              have Hu := Lib.hid hu
              clear hu
              have i0 : (0 : Int) ≤ (j : Int) := by omega
              have i1 : (j : Int) < 1 := by omega
              have d0 := rows_cellz R.out Hu
              go_wp2_with fail
              go_at_call 19
              refine (C.at' u R.out.J.code (by omega) huz).mono ?_
              rintro e w7 ⟨rfl, hc7, t7⟩
              replace R := Lib.hid (R.out.codes hc7 t7)
              clear hc7 t7 d0
              have d0 := rows_cellz R.out Hu
              go_wp2_with fail
              go_at_call 20
              refine (refAt_any gr l2 u w7 R.out.J.ref (by omega)).mono ?_
              rintro e wz ⟨rfl, rfl⟩
              generalize tickL u l2 = tk
              have hdl := drop_len u l2
              have hR := R.out
              have hR0 := R.out.drew
              go_wp2_with fail
              refine wp_region_held_drew (S := fun w' => w'.cell? ⟨kb, j, none⟩ = some (.string u)) (by kernel_rfl) (rows_cellz hR0 Hu) (fun hHeld => ?_)
              refine wpAnyH_take (i := 0) (oi := ⟨some 129, _, _, _, _, _⟩) (v := ?ve0) rfl (by kernel_rfl) (by kernel_rfl) (by kernel_rfl) (fun _ _ _ h => h) (Or.inl ⟨by rfl, ?ye0⟩) hHeld ?re0
              case ye0 =>
                intro wx hSx
                go_simp
                try with_reducible rfl
              try simp only [Act.put, List.setIfInBounds_toArray, List.set_cons_zero, List.set_cons_succ]
              refine wpAnyH_take (i := 1) (oi := ⟨some 130, _, _, _, _, _⟩) (v := ?ve1) rfl (by kernel_rfl) (by kernel_rfl) (by kernel_rfl) (fun _ _ _ h => h) (Or.inl ⟨by rfl, ?ye1⟩) hHeld ?re1
              case ye1 =>
                intro wx hSx
                go_simp
                try with_reducible rfl
              try simp only [Act.put, List.setIfInBounds_toArray, List.set_cons_zero, List.set_cons_succ]
              refine wpAnyH_take (i := 2) (oi := ⟨some 131, _, _, _, _, _⟩) (v := ?ve2) rfl (by kernel_rfl) (by kernel_rfl) (by kernel_rfl) (fun _ _ _ h => h) (Or.inl ⟨by rfl, ?ye2⟩) hHeld ?re2
              case ye2 =>
                intro wx hSx
                go_simp
                try with_reducible rfl
              try simp only [Act.put, List.setIfInBounds_toArray, List.set_cons_zero, List.set_cons_succ]
              refine wpAnyH_take (i := 3) (oi := ⟨some 132, _, _, _, _, _⟩) (v := ?ve3) rfl (by kernel_rfl) (by kernel_rfl) (by kernel_rfl) (fun _ _ _ h => h) (Or.inl ⟨by rfl, ?ye3⟩) hHeld ?re3
              case ye3 =>
                intro wx hSx
                go_simp
                try with_reducible rfl
              try simp only [Act.put, List.setIfInBounds_toArray, List.set_cons_zero, List.set_cons_succ]
              refine wpAnyH_take (i := 4) (oi := ⟨some 133, _, _, _, _, _⟩) (v := ?ve4) rfl (by kernel_rfl) (by kernel_rfl) (by kernel_rfl) (fun _ _ _ h => h) (Or.inl ⟨by rfl, ?ye4⟩) hHeld ?re4
              case ye4 =>
                intro wx hSx
                go_simp
                try with_reducible rfl
              try simp only [Act.put, List.setIfInBounds_toArray, List.set_cons_zero, List.set_cons_succ]
              refine wpAnyH_take (i := 5) (oi := ⟨some 134, _, _, _, _, _⟩) (v := ?ve5) rfl (by kernel_rfl) (by kernel_rfl) (by kernel_rfl) (fun _ _ _ h => h) (Or.inl ⟨by rfl, ?ye5⟩) hHeld ?re5
              case ye5 =>
                intro wx hSx
                go_simp
                try with_reducible rfl
              try simp only [Act.put, List.setIfInBounds_toArray, List.set_cons_zero, List.set_cons_succ]
              refine wpAnyH_take (i := 6) (oi := ⟨some 135, _, _, _, _, _⟩) (v := ?ve6) rfl (by kernel_rfl) (by kernel_rfl) (by kernel_rfl) (fun _ _ _ h => h) (Or.inl ⟨by rfl, ?ye6⟩) hHeld ?re6
              case ye6 =>
                intro wx hSx
                go_simp
                try with_reducible rfl
              try simp only [Act.put, List.setIfInBounds_toArray, List.set_cons_zero, List.set_cons_succ]
              refine wpAnyH_take (i := 7) (oi := ⟨some 136, _, _, _, _, _⟩) (v := ?ve7) rfl (by kernel_rfl) (by kernel_rfl) (by kernel_rfl) (fun _ _ _ h => h) (Or.inl ⟨by rfl, ?ye7⟩) hHeld ?re7
              case ye7 =>
                intro wx hSx
                go_simp
                try with_reducible rfl
              try simp only [Act.put, List.setIfInBounds_toArray, List.set_cons_zero, List.set_cons_succ]
              refine wpAnyH_take (i := 8) (oi := ⟨some 137, _, _, _, _, _⟩) (v := ?ve8) rfl (by kernel_rfl) (by kernel_rfl) (by kernel_rfl) (fun _ _ _ h => h) (Or.inl ⟨by rfl, ?ye8⟩) hHeld ?re8
              case ye8 =>
                intro wx hSx
                go_simp
                try with_reducible rfl
              try simp only [Act.put, List.setIfInBounds_toArray, List.set_cons_zero, List.set_cons_succ]
              refine wpAnyH_take (i := 9) (oi := ⟨some 138, _, _, _, _, _⟩) (v := ?ve9) rfl (by kernel_rfl) (by kernel_rfl) (by kernel_rfl) (fun _ _ _ h => h) (Or.inl ⟨by rfl, ?ye9⟩) hHeld ?re9
              case ye9 =>
                intro wx hSx
                go_simp
                try with_reducible rfl
              try simp only [Act.put, List.setIfInBounds_toArray, List.set_cons_zero, List.set_cons_succ]
              refine wpAnyH_take (i := 10) (oi := ⟨some 139, _, _, _, _, _⟩) (v := ?ve10) rfl (by kernel_rfl) (by kernel_rfl) (by kernel_rfl) (fun _ _ _ h => h) (Or.inl ⟨by rfl, ?ye10⟩) hHeld ?re10
              case ye10 =>
                intro wx hSx
                go_simp
                try with_reducible rfl
              try simp only [Act.put, List.setIfInBounds_toArray, List.set_cons_zero, List.set_cons_succ]
              refine wpAnyH_take (i := 11) (oi := ⟨some 140, _, _, _, _, _⟩) (v := ?ve11) rfl (by kernel_rfl) (by kernel_rfl) (by kernel_rfl) (fun _ _ _ h => h) (Or.inl ⟨by rfl, ?ye11⟩) hHeld ?re11
              case ye11 =>
                intro wx hSx
                go_simp
                try with_reducible rfl
              try simp only [Act.put, List.setIfInBounds_toArray, List.set_cons_zero, List.set_cons_succ]
              refine wpAnyH_take (i := 12) (oi := ⟨some 141, _, _, _, _, _⟩) (v := ?ve12) rfl (by kernel_rfl) (by kernel_rfl) (by kernel_rfl) (fun _ _ _ h => h) (Or.inl ⟨by rfl, ?ye12⟩) hHeld ?re12
              case ye12 =>
                intro wx hSx
                go_simp
                try with_reducible rfl
              try simp only [Act.put, List.setIfInBounds_toArray, List.set_cons_zero, List.set_cons_succ]
              refine wpAnyH_take (i := 13) (oi := ⟨some 142, _, _, _, _, _⟩) (v := ?ve13) rfl (by kernel_rfl) (by kernel_rfl) (by kernel_rfl) (fun _ _ _ h => h) (Or.inl ⟨by rfl, ?ye13⟩) hHeld ?re13
              case ye13 =>
                intro wx hSx
                go_simp
                try with_reducible rfl
              try simp only [Act.put, List.setIfInBounds_toArray, List.set_cons_zero, List.set_cons_succ]
              refine wpAnyH_take (i := 15) (oi := ⟨some 144, _, _, _, _, _⟩) (v := ?ve15) rfl (by kernel_rfl) (by kernel_rfl) (by kernel_rfl) (fun _ _ _ h => h) (Or.inl ⟨by rfl, ?ye15⟩) hHeld ?re15
              case ye15 =>
                intro wx hSx
                go_simp
                try with_reducible rfl
              try simp only [Act.put, List.setIfInBounds_toArray, List.set_cons_zero, List.set_cons_succ]
              refine wpAnyH_take (i := 16) (oi := ⟨some 145, _, _, _, _, _⟩) (v := ?ve16) rfl (by kernel_rfl) (by kernel_rfl) (by kernel_rfl) (fun _ _ _ h => h) (Or.inl ⟨by rfl, ?ye16⟩) hHeld ?re16
              case ye16 =>
                intro wx hSx
                go_simp
                try with_reducible rfl
              try simp only [Act.put, List.setIfInBounds_toArray, List.set_cons_zero, List.set_cons_succ]
              refine wpAnyH_take (i := 17) (oi := ⟨some 146, _, _, _, _, _⟩) (v := ?ve17) rfl (by kernel_rfl) (by kernel_rfl) (by kernel_rfl) (fun _ _ _ h => h) (Or.inl ⟨by rfl, ?ye17⟩) hHeld ?re17
              case ye17 =>
                intro wx hSx
                go_simp
                try with_reducible rfl
              try simp only [Act.put, List.setIfInBounds_toArray, List.set_cons_zero, List.set_cons_succ]
              refine wpAnyH_take (i := 18) (oi := ⟨some 147, _, _, _, _, _⟩) (v := ?ve18) rfl (by kernel_rfl) (by kernel_rfl) (by kernel_rfl) (fun _ _ _ h => h) (Or.inl ⟨by rfl, ?ye18⟩) hHeld ?re18
              case ye18 =>
                intro wx hSx
                go_simp
                try with_reducible rfl
              try simp only [Act.put, List.setIfInBounds_toArray, List.set_cons_zero, List.set_cons_succ]
              refine wpAnyH_take (i := 19) (oi := ⟨some 148, _, _, _, _, _⟩) (v := ?ve19) rfl (by kernel_rfl) (by kernel_rfl) (by kernel_rfl) (fun _ _ _ h => h) (Or.inl ⟨by rfl, ?ye19⟩) hHeld ?re19
              case ye19 =>
                intro wx hSx
                go_simp
                try with_reducible rfl
              try simp only [Act.put, List.setIfInBounds_toArray, List.set_cons_zero, List.set_cons_succ]
              refine wpAnyH_ready (rs := [14]) (by kernel_rfl) (by simp) ?_
              refine AllReadyH.cons (o := ⟨some 143, _, _, _, _, _⟩) rfl (fun K hK => ?_) AllReadyH.nil
              go_simp
              refine (drop_code (C := C) (w0 := w) (gr := gr) (l := l2) (vw := .slice (some ⟨kb, 0, none⟩) 1 1) (ws := [s]) (vg := .slice none 0 0) (gs := []) u hR0 (by omega) huz).mono ?_
              rintro e wa ⟨rfl, ra⟩
              refine hK.out _ _ (rows_cellz ra Hu) (fun hHeld => ?_)
              clear hK K
              try simp only [Act.put, List.setIfInBounds_toArray, List.set_cons_zero, List.set_cons_succ]
              refine wpAnyH_ready (rs := [20]) (by kernel_rfl) (by simp) ?_
              refine AllReadyH.cons (o := ⟨some 149, _, _, _, _, _⟩) rfl (fun K hK => ?_) AllReadyH.nil
              go_simp
              refine (drop_ref (C := C) (w0 := w) (gc := gc) (l := l2) (vw := .slice (some ⟨kb, 0, none⟩) 1 1) (ws := [s]) (vg := .slice none 0 0) (gs := []) u ra (by omega)).mono ?_
              rintro e wb ⟨rfl, rb⟩
              refine hK.out _ _ (rows_cellz rb Hu) (fun hHeld => ?_)
              clear hK K
              try simp only [Act.put, List.setIfInBounds_toArray, List.set_cons_zero, List.set_cons_succ]
              obtain ⟨Ab, cb, fb⟩ := ref_cell rb.J.ref
              refine anyH_narrow (S' := fun w' => w'.cell? ⟨kb, j, none⟩ = some (.string u) ∧ w'.cell? ⟨gr, 0, none⟩ = some (.slice Ab (dropL u l2).length cb)) (fun _ h => h.1) _ _ _ _ ?_
              have hN := And.intro hHeld fb
              clear hHeld
              refine wpAnyH_take (i := 21) (oi := ⟨some 150, _, _, _, _, _⟩) (v := ?veA21) rfl (by kernel_rfl) (by kernel_rfl) (by kernel_rfl) (fun _ _ _ h => h) (Or.inl ⟨by rfl, ?yeA21⟩) hN ?reA21
              case yeA21 =>
                intro wx hSx
                go_simp
                try with_reducible rfl
              try simp only [Act.put, List.setIfInBounds_toArray, List.set_cons_zero, List.set_cons_succ]
              refine wpAnyH_take (i := 22) (oi := ⟨some 151, _, _, _, _, _⟩) (v := ?veA22) rfl (by kernel_rfl) (by kernel_rfl) (by kernel_rfl) (fun _ _ _ h => h) (Or.inl ⟨by rfl, ?yeA22⟩) hN ?reA22
              case yeA22 =>
                intro wx hSx
                go_simp
                try with_reducible rfl
              try simp only [Act.put, List.setIfInBounds_toArray, List.set_cons_zero, List.set_cons_succ]
              refine wpAnyH_take (i := 23) (oi := ⟨some 152, _, _, _, _, _⟩) (v := ?veA23) rfl (by kernel_rfl) (by kernel_rfl) (by kernel_rfl) (fun _ _ _ h => h) (Or.inl ⟨by rfl, ?yeA23⟩) hN ?reA23
              case yeA23 =>
                intro wx hSx
                go_simp
                try with_reducible rfl
              try simp only [Act.put, List.setIfInBounds_toArray, List.set_cons_zero, List.set_cons_succ]
              refine wpAnyH_take (i := 24) (oi := ⟨some 153, _, _, _, _, _⟩) (v := ?veA24) rfl (by kernel_rfl) (by kernel_rfl) (by kernel_rfl) (fun _ _ _ h => h) (Or.inl ⟨by rfl, ?yeA24⟩) hN ?reA24
              case yeA24 =>
                intro wx hSx
                go_simp
                try with_reducible rfl
              try simp only [Act.put, List.setIfInBounds_toArray, List.set_cons_zero, List.set_cons_succ]
              refine wpAnyH_take (i := 26) (oi := ⟨some 155, _, _, _, _, _⟩) (v := ?veA26) rfl (by kernel_rfl) (by kernel_rfl) (by kernel_rfl) (fun _ _ _ h => h) (Or.inl ⟨by rfl, ?yeA26⟩) hN ?reA26
              case yeA26 =>
                intro wx hSx
                go_simp
                try with_reducible rfl
              try simp only [Act.put, List.setIfInBounds_toArray, List.set_cons_zero, List.set_cons_succ]
              refine wpAnyH_take (i := 27) (oi := ⟨some 156, _, _, _, _, _⟩) (v := ?veA27) rfl (by kernel_rfl) (by kernel_rfl) (by kernel_rfl) (fun _ _ _ h => h) (Or.inl ⟨by rfl, ?yeA27⟩) hN ?reA27
              case yeA27 =>
                intro wx hSx
                go_simp
                try with_reducible rfl
              try simp only [Act.put, List.setIfInBounds_toArray, List.set_cons_zero, List.set_cons_succ]
              refine wpAnyH_take (i := 28) (oi := ⟨some 157, _, _, _, _, _⟩) (v := ?veA28) rfl (by kernel_rfl) (by kernel_rfl) (by kernel_rfl) (fun _ _ _ h => h) (Or.inl ⟨by rfl, ?yeA28⟩) hN ?reA28
              case yeA28 =>
                intro wx hSx
                go_simp
                try with_reducible rfl
              try simp only [Act.put, List.setIfInBounds_toArray, List.set_cons_zero, List.set_cons_succ]
              refine wpAnyH_take (i := 29) (oi := ⟨some 158, _, _, _, _, _⟩) (v := ?veA29) rfl (by kernel_rfl) (by kernel_rfl) (by kernel_rfl) (fun _ _ _ h => h) (Or.inl ⟨by rfl, ?yeA29⟩) hN ?reA29
              case yeA29 =>
                intro wx hSx
                go_simp
                try with_reducible rfl
              try simp only [Act.put, List.setIfInBounds_toArray, List.set_cons_zero, List.set_cons_succ]
              refine wpAnyH_take (i := 30) (oi := ⟨some 159, _, _, _, _, _⟩) (v := ?veA30) rfl (by kernel_rfl) (by kernel_rfl) (by kernel_rfl) (fun _ _ _ h => h) (Or.inl ⟨by rfl, ?yeA30⟩) hN ?reA30
              case yeA30 =>
                intro wx hSx
                go_simp
                try with_reducible rfl
              try simp only [Act.put, List.setIfInBounds_toArray, List.set_cons_zero, List.set_cons_succ]
              refine wpAnyH_ready (rs := [25]) (by kernel_rfl) (by simp) ?_
              refine AllReadyH.cons (o := ⟨some 154, _, _, _, _, _⟩) rfl (fun K hK => ?_) AllReadyH.nil
              go_simp
              refine (len_code (C := C) (w0 := w) (gr := gr) (l := dropL u l2) (lr := dropL u l2) (vw := .slice (some ⟨kb, 0, none⟩) 1 1) (ws := [s]) (vg := .slice none 0 0) (gs := []) rb (by omega)).mono ?_
              rintro e wc ⟨rfl, rc, fc⟩
              refine hK.out _ _ ⟨rows_cellz rc Hu, fc _ fb⟩ (fun hN => ?_)
              clear hK K
              try simp only [Act.put, List.setIfInBounds_toArray, List.set_cons_zero, List.set_cons_succ]
              refine wpAnyH_take (i := 31) (oi := ⟨some 160, _, _, _, _, _⟩) (v := ?veA31) rfl (by kernel_rfl) (by kernel_rfl) (by kernel_rfl) (fun _ _ _ h => h) (Or.inl ⟨by rfl, ?yeA31⟩) hN ?reA31
              case yeA31 =>
                intro wx hSx
                go_simp
                try with_reducible rfl
              try simp only [Act.put, List.setIfInBounds_toArray, List.set_cons_zero, List.set_cons_succ]
              refine wpAnyH_take (i := 32) (oi := ⟨some 161, _, _, _, _, _⟩) (v := ?veA32) rfl (by kernel_rfl) (by kernel_rfl) (by kernel_rfl) (fun _ _ _ h => h) (Or.inl ⟨by rfl, ?yeA32⟩) hN ?reA32
              case yeA32 =>
                intro wx hSx
                go_simp
                try with_reducible rfl
              try simp only [Act.put, List.setIfInBounds_toArray, List.set_cons_zero, List.set_cons_succ]
              refine wpAnyH_done (by kernel_rfl) ?_ _
              replace rc := Lib.hid rc
              go_wp2_with fail
              refine ⟨⟨j + 1, dropL u l2, by omega, by go_num, by omega, rc⟩, ?_⟩
              simp [intOf]; omega
            · have hjn : 1 ≤ j := by omega
              go_wp2_with fail
              go_at_call 16
              refine (lives_any C _).mono ?_
              rintro e w9 ⟨rfl, b9⟩
              replace R := Lib.hid (R.out.later b9)
              clear b9
              go_wp2_with fail
              go_ret
              exact ⟨rfl, R.out.J.below⟩
        | cons y r =>
          subst hle
          obtain ⟨z, hz⟩ : ∃ z, (y :: r)[r.length]? = some z := ⟨_, List.getElem?_eq_getElem (by simp)⟩
          have HZ : Hid z.ok := Lib.hid (R.out.J.ref.2 z (List.mem_of_getElem? hz))
          obtain ⟨b5, o5, rfl, hb5, hr5⟩ := (ref_slice R.out.J.ref c3).at hz
          obtain ⟨d2, d3⟩ := range2 hr5
          have hi := index_any (P := Try.prog) knE (by decide) (b := b5) (off := o5) (len := r.length + 1) (cap := cap3) (i := r.length) (by omega)
          simp only [LE, List.length_cons] at d2 d3 hi c3 hl16 hl
          have Hz := Lib.hid hz
          clear hz hr5
          have q9 : decide ((0 : Int) < (r.length : Int) + 1) = true := decide_eq_true (by omega)
          go_wp2_with fail
          replace R := Lib.hid R.out.drew
          replace c3 : w3.drew.cell? ⟨gr, 0, none⟩ = some (.slice (some ⟨b5, o5, none⟩) (r.length + 1) cap3) := c3
          clear d2 d3
          have hw1 := IntWalk.i64_in (r.length : Int) (by omega)
          refine wp_region_held_drew (S := fun w' => w'.cell? ⟨gr, 0, none⟩ = some (.slice (some ⟨b5, o5, none⟩) (r.length + 1) cap3) ∧ w'.cell? ⟨b5, o5 + r.length * 2 + 1, none⟩ = some (.string z.key)) (by kernel_rfl) ⟨c3, ref_key R.out.J.ref c3 Hz⟩ (fun hHeld => ?_)
          generalize w3.drew = w4 at R c3 hHeld ⊢
          refine wpAnyH_take (i := 0) (oi := ⟨some 54, _, _, _, _, _⟩) (v := ?vf0) rfl (by kernel_rfl) (by kernel_rfl) (by kernel_rfl) (fun _ _ _ h => h) (Or.inl ⟨by rfl, ?yf0⟩) hHeld ?rf0
          case yf0 =>
            intro wx hSx
            go_simp
            try with_reducible rfl
          try simp only [Act.put, List.setIfInBounds_toArray, List.set_cons_zero, List.set_cons_succ]
          refine wpAnyH_take (i := 1) (oi := ⟨some 55, _, _, _, _, _⟩) (v := ?vf1) rfl (by kernel_rfl) (by kernel_rfl) (by kernel_rfl) (fun _ _ _ h => h) (Or.inl ⟨by rfl, ?yf1⟩) hHeld ?rf1
          case yf1 =>
            intro wx hSx
            go_simp
            try with_reducible rfl
          try simp only [Act.put, List.setIfInBounds_toArray, List.set_cons_zero, List.set_cons_succ]
          refine wpAnyH_take (i := 2) (oi := ⟨some 56, _, _, _, _, _⟩) (v := ?vf2) rfl (by kernel_rfl) (by kernel_rfl) (by kernel_rfl) (fun _ _ _ h => h) (Or.inl ⟨by rfl, ?yf2⟩) hHeld ?rf2
          case yf2 =>
            intro wx hSx
            go_simp
            try with_reducible rfl
          try simp only [Act.put, List.setIfInBounds_toArray, List.set_cons_zero, List.set_cons_succ]
          refine wpAnyH_take (i := 3) (oi := ⟨some 57, _, _, _, _, _⟩) (v := ?vf3) rfl (by kernel_rfl) (by kernel_rfl) (by kernel_rfl) (fun _ _ _ h => h) (Or.inl ⟨by rfl, ?yf3⟩) hHeld ?rf3
          case yf3 =>
            intro wx hSx
            go_simp
            try with_reducible rfl
          try simp only [Act.put, List.setIfInBounds_toArray, List.set_cons_zero, List.set_cons_succ]
          refine wpAnyH_take (i := 4) (oi := ⟨some 58, _, _, _, _, _⟩) (v := ?vf4) rfl (by kernel_rfl) (by kernel_rfl) (by kernel_rfl) (fun _ _ _ h => h) (Or.inl ⟨by rfl, ?yf4⟩) hHeld ?rf4
          case yf4 =>
            intro wx hSx
            go_simp
            try with_reducible rfl
          try simp only [Act.put, List.setIfInBounds_toArray, List.set_cons_zero, List.set_cons_succ]
          refine wpAnyH_take (i := 5) (oi := ⟨some 59, _, _, _, _, _⟩) (v := ?vf5) rfl (by kernel_rfl) (by kernel_rfl) (by kernel_rfl) (fun _ _ _ h => h) (Or.inl ⟨by rfl, ?yf5⟩) hHeld ?rf5
          case yf5 =>
            intro wx hSx
            go_simp
            try with_reducible rfl
          try simp only [Act.put, List.setIfInBounds_toArray, List.set_cons_zero, List.set_cons_succ]
          refine wpAnyH_take (i := 6) (oi := ⟨some 60, _, _, _, _, _⟩) (v := ?vf6) rfl (by kernel_rfl) (by kernel_rfl) (by kernel_rfl) (fun _ _ _ h => h) (Or.inl ⟨by rfl, ?yf6⟩) hHeld ?rf6
          case yf6 =>
            intro wx hSx
            go_simp
            try with_reducible rfl
          try simp only [Act.put, List.setIfInBounds_toArray, List.set_cons_zero, List.set_cons_succ]
          refine wpAnyH_take (i := 7) (oi := ⟨some 61, _, _, _, _, _⟩) (v := ?vf7) rfl (by kernel_rfl) (by kernel_rfl) (by kernel_rfl) (fun _ _ _ h => h) (Or.inl ⟨by rfl, ?yf7⟩) hHeld ?rf7
          case yf7 =>
            intro wx hSx
            go_simp
            try with_reducible rfl
          try simp only [Act.put, List.setIfInBounds_toArray, List.set_cons_zero, List.set_cons_succ]
          refine wpAnyH_take (i := 8) (oi := ⟨some 62, _, _, _, _, _⟩) (v := ?vf8) rfl (by kernel_rfl) (by kernel_rfl) (by kernel_rfl) (fun _ _ _ h => h) (Or.inl ⟨by rfl, ?yf8⟩) hHeld ?rf8
          case yf8 =>
            intro wx hSx
            go_simp
            try with_reducible rfl
          try simp only [Act.put, List.setIfInBounds_toArray, List.set_cons_zero, List.set_cons_succ]
          refine wpAnyH_take (i := 9) (oi := ⟨some 63, _, _, _, _, _⟩) (v := ?vf9) rfl (by kernel_rfl) (by kernel_rfl) (by kernel_rfl) (fun _ _ _ h => h) (Or.inl ⟨by rfl, ?yf9⟩) hHeld ?rf9
          case yf9 =>
            intro wx hSx
            go_simp
            try with_reducible rfl
          try simp only [Act.put, List.setIfInBounds_toArray, List.set_cons_zero, List.set_cons_succ]
          refine wpAnyH_take (i := 10) (oi := ⟨some 64, _, _, _, _, _⟩) (v := ?vf10) rfl (by kernel_rfl) (by kernel_rfl) (by kernel_rfl) (fun _ _ _ h => h) (Or.inl ⟨by rfl, ?yf10⟩) hHeld ?rf10
          case yf10 =>
            intro wx hSx
            go_simp
            try with_reducible rfl
          try simp only [Act.put, List.setIfInBounds_toArray, List.set_cons_zero, List.set_cons_succ]
          refine wpAnyH_take (i := 11) (oi := ⟨some 65, _, _, _, _, _⟩) (v := ?vf11) rfl (by kernel_rfl) (by kernel_rfl) (by kernel_rfl) (fun _ _ _ h => h) (Or.inl ⟨by rfl, ?yf11⟩) hHeld ?rf11
          case yf11 =>
            intro wx hSx
            go_simp
            try with_reducible rfl
          try simp only [Act.put, List.setIfInBounds_toArray, List.set_cons_zero, List.set_cons_succ]
          refine wpAnyH_take (i := 12) (oi := ⟨some 66, _, _, _, _, _⟩) (v := ?vf12) rfl (by kernel_rfl) (by kernel_rfl) (by kernel_rfl) (fun _ _ _ h => h) (Or.inl ⟨by rfl, ?yf12⟩) hHeld ?rf12
          case yf12 =>
            intro wx hSx
            go_simp
            try with_reducible rfl
          try simp only [Act.put, List.setIfInBounds_toArray, List.set_cons_zero, List.set_cons_succ]
          refine wpAnyH_take (i := 13) (oi := ⟨some 67, _, _, _, _, _⟩) (v := ?vf13) rfl (by kernel_rfl) (by kernel_rfl) (by kernel_rfl) (fun _ _ _ h => h) (Or.inl ⟨by rfl, ?yf13⟩) hHeld ?rf13
          case yf13 =>
            intro wx hSx
            go_simp
            try with_reducible rfl
          try simp only [Act.put, List.setIfInBounds_toArray, List.set_cons_zero, List.set_cons_succ]
          refine wpAnyH_ready (rs := [14]) (by kernel_rfl) (by simp) ?_
          refine AllReadyH.cons (o := ⟨some 68, _, _, _, _, _⟩) rfl (fun K hK => ?_) AllReadyH.nil
          go_simp
          have ha1 : Hid (Below w4.heap.size w4 (w4.alloc (.cells #[.string z.key] 9))) := Lib.hid ((Below.refl _ _).alloc (Nat.le_refl _) _)
          have hlit := Lib.hid (lit_slice (L := LT) w4 z.key w4.heap.size rfl #[.string z.key] rfl)
          have c4 := (ha1.out.cell (p := ⟨gr, 0, none⟩) R.out.J.ref.lt).trans c3
          replace R := Lib.hid (R.out.later ha1.out)
          refine hK.out _ _ ⟨c4, ref_key R.out.J.ref c4 Hz⟩ (fun hHeld => ?_)
          clear hK K ha1 c3
          try simp only [Act.put, List.setIfInBounds_toArray, List.set_cons_zero, List.set_cons_succ]
          refine wpAnyH_ready (rs := [15]) (by kernel_rfl) (by simp) ?_
          refine AllReadyH.cons (o := ⟨some 69, _, _, _, _, _⟩) rfl (fun K hK => ?_) AllReadyH.nil
          rw [if_pos (by rfl)]
          refine wp_puts knT (.tmp 54) (.tmp 68) 32 rfl (v := .slice (some ⟨kb, 0, none⟩) 1 1) rfl R.out.mg R.out.J.below.size (.slice (some ⟨w4.heap.size, 0, none⟩) 1 1) [z.key] 1 rfl rfl (hlit.out.srcN knT rfl) (by simp) ?_
          intro A6 ck w6 m6 b6 o6
          have c6 := b6.cell c4 (fun e => (mine_ne_ref R.out.mg (by decide) R.out.J.ref kb rfl) e.symm)
          replace R := Lib.hid (R.out.put b6 m6 o6)
          refine hK.out _ _ ⟨c6, ref_key R.out.J.ref c6 Hz⟩ (fun hHeld => ?_)
          clear hK K hlit c4 m6 b6 o6
          try simp only [Act.put, List.setIfInBounds_toArray, List.set_cons_zero, List.set_cons_succ]
          refine wpAnyH_take (i := 16) (oi := ⟨some 8, _, _, _, _, _⟩) (v := ?vf16) rfl (by kernel_rfl) (by kernel_rfl) (by kernel_rfl) (fun _ _ _ h => h) (Or.inl ⟨by rfl, ?yf16⟩) hHeld ?rf16
          case yf16 =>
            intro wx hSx
            go_simp
            try with_reducible rfl
          try simp only [Act.put, List.setIfInBounds_toArray, List.set_cons_zero, List.set_cons_succ]
          refine wpAnyH_done (by kernel_rfl) ?_ _
          replace R := Lib.hid (show C.Rows w w6 gc gr (y :: r) (y :: r) (.slice A6 2 ck) [s, z.key] (.slice none 0 0) [] from R.out.swap)
          rw [show ([s] : List ByteArray).length + 1 = 2 from rfl]
          obtain ⟨kb, ko, rfl, _, _⟩ := R.out.mw.slice.at (i := 0) (x := s) rfl
          clear hHeld c6 hi hw1 q9 hb5
          go_wp2_with fail
          go_at_call 18
          refine (C.first R.out.J.code (by simp; try omega)).mono ?_
          rintro e w4 ⟨rfl, hc4, t4⟩
          replace R := Lib.hid (R.out.codes hc4 t4)
          clear hc4 t4
          rw [show (firstE (y :: r)).val = .agg #[.int .i64 y.tick, .string y.key] from rfl, show decide ((y :: r) ≠ []) = true from by simp]
          go_upto_region 14 with (fail)
          have hbx : Hid (Below w4.heap.size w4 (w4.alloc (.cells #[.int .i64 y.tick, .string y.key] 45))) := Lib.hid ((Below.refl _ _).alloc (Nat.le_refl _) _)
          have hoh : Hid ((w4.alloc (.cells #[.int .i64 y.tick, .string y.key] 45)).heap[w4.heap.size]? = some (.cells #[.int .i64 y.tick, .string y.key] 45 (0, 0))) := Lib.hid (heap_alloc_new w4 _)
          replace R := Lib.hid (R.out.later hbx.out)
          clear hbx
          generalize World.alloc w4 _ = w5 at R hoh ⊢
          generalize w4.heap.size = eb at hoh ⊢
          have d0 := cell_at hoh.out 0
          have d1 := cell_at hoh.out 1
          simp at d0 d1
          obtain ⟨A5, cap5, c5⟩ := ref_cell R.out.J.ref
          obtain ⟨b5, o5, rfl, hb5, hr5⟩ := (ref_slice R.out.J.ref c5).at (i := 0) (x := y) rfl
          obtain ⟨d2, d3⟩ := range2 hr5
          have hi := index_any (P := Try.prog) knE (by decide) (b := b5) (off := o5) (len := r.length + 1) (cap := cap5) (i := 0) (by omega)
          rw [show ((0 : Nat) : Int) = 0 from rfl] at hi
          simp only [Nat.zero_mul, Nat.add_zero, List.length_cons] at d2 d3 hi c5
          have qe := fun wz => (eql_ent y y wz)
          rw [show decide (y = y) = true from by simp] at qe
          have q9 : decide ((0 : Int) < (r.length : Int) + 1) = true := decide_eq_true (by omega)
          go_wp2_with fail
          go_quiet (fail)
          replace R := Lib.hid (R.out.drewN nq)
          generalize World.drewN _ nq = w6 at R ⊢
          clear hoh d0 d1 d2 d3 hi hr5 c5 qe q9
          go_wp2_with fail
          go_loopw [11] (fun i wr => ∃ (j : Nat) (l : List Ent), j ≤ 2 ∧ i = .int .i64 (j : Int) ∧ l.length ≤ 16 ∧ Hid (C.Rows w wr gc gr l l (.slice (some ⟨kb, ko, none⟩) 2 ck) [s, z.key] (.slice none 0 0) [])) (fun i _ => 2 - (intOf i).toNat)
          case atStart => exact ⟨0, (y :: r), by omega, rfl, by simp; try omega, R⟩
          case round =>
            clear R
            obtain ⟨j, l2, hj, rfl, hl2, R⟩ := hrel
            by_cases hlt : j < 2
            · have hs : ∃ u, ([s, z.key] : List ByteArray)[j]? = some u ∧ u.size ≤ maxLen := by
                  have : j = 0 ∨ j = 1 := by omega
                  unfold maxLen
                  rcases this with rfl | rfl
                  · exact ⟨s, rfl, by omega⟩
                  · exact ⟨z.key, rfl, by have := HZ.out.1; omega⟩
              obtain ⟨u, hu, huz⟩ := hs
              have Hu := Lib.hid hu
              clear hu
              have i0 : (0 : Int) ≤ (j : Int) := by omega
              have i1 : (j : Int) < 2 := by omega
              have d0 := rows_cell R.out Hu
              go_wp2_with fail
              go_at_call 19
              refine (C.at' u R.out.J.code (by omega) huz).mono ?_
              rintro e w7 ⟨rfl, hc7, t7⟩
              replace R := Lib.hid (R.out.codes hc7 t7)
              clear hc7 t7 d0
              have d0 := rows_cell R.out Hu
              go_wp2_with fail
              go_at_call 20
              refine (refAt_any gr l2 u w7 R.out.J.ref (by omega)).mono ?_
              rintro e wz ⟨rfl, rfl⟩
              generalize tickL u l2 = tk
              have hdl := drop_len u l2
              have hR := R.out
              have hR0 := R.out.drew
              go_wp2_with fail
              refine wp_region_held_drew (S := fun w' => w'.cell? ⟨kb, ko + j, none⟩ = some (.string u)) (by kernel_rfl) (rows_cell hR0 Hu) (fun hHeld => ?_)
              refine wpAnyH_take (i := 0) (oi := ⟨some 129, _, _, _, _, _⟩) (v := ?vg0) rfl (by kernel_rfl) (by kernel_rfl) (by kernel_rfl) (fun _ _ _ h => h) (Or.inl ⟨by rfl, ?yg0⟩) hHeld ?rg0
              case yg0 =>
                intro wx hSx
                go_simp
                try with_reducible rfl
              try simp only [Act.put, List.setIfInBounds_toArray, List.set_cons_zero, List.set_cons_succ]
              refine wpAnyH_take (i := 1) (oi := ⟨some 130, _, _, _, _, _⟩) (v := ?vg1) rfl (by kernel_rfl) (by kernel_rfl) (by kernel_rfl) (fun _ _ _ h => h) (Or.inl ⟨by rfl, ?yg1⟩) hHeld ?rg1
              case yg1 =>
                intro wx hSx
                go_simp
                try with_reducible rfl
              try simp only [Act.put, List.setIfInBounds_toArray, List.set_cons_zero, List.set_cons_succ]
              refine wpAnyH_take (i := 2) (oi := ⟨some 131, _, _, _, _, _⟩) (v := ?vg2) rfl (by kernel_rfl) (by kernel_rfl) (by kernel_rfl) (fun _ _ _ h => h) (Or.inl ⟨by rfl, ?yg2⟩) hHeld ?rg2
              case yg2 =>
                intro wx hSx
                go_simp
                try with_reducible rfl
              try simp only [Act.put, List.setIfInBounds_toArray, List.set_cons_zero, List.set_cons_succ]
              refine wpAnyH_take (i := 3) (oi := ⟨some 132, _, _, _, _, _⟩) (v := ?vg3) rfl (by kernel_rfl) (by kernel_rfl) (by kernel_rfl) (fun _ _ _ h => h) (Or.inl ⟨by rfl, ?yg3⟩) hHeld ?rg3
              case yg3 =>
                intro wx hSx
                go_simp
                try with_reducible rfl
              try simp only [Act.put, List.setIfInBounds_toArray, List.set_cons_zero, List.set_cons_succ]
              refine wpAnyH_take (i := 4) (oi := ⟨some 133, _, _, _, _, _⟩) (v := ?vg4) rfl (by kernel_rfl) (by kernel_rfl) (by kernel_rfl) (fun _ _ _ h => h) (Or.inl ⟨by rfl, ?yg4⟩) hHeld ?rg4
              case yg4 =>
                intro wx hSx
                go_simp
                try with_reducible rfl
              try simp only [Act.put, List.setIfInBounds_toArray, List.set_cons_zero, List.set_cons_succ]
              refine wpAnyH_take (i := 5) (oi := ⟨some 134, _, _, _, _, _⟩) (v := ?vg5) rfl (by kernel_rfl) (by kernel_rfl) (by kernel_rfl) (fun _ _ _ h => h) (Or.inl ⟨by rfl, ?yg5⟩) hHeld ?rg5
              case yg5 =>
                intro wx hSx
                go_simp
                try with_reducible rfl
              try simp only [Act.put, List.setIfInBounds_toArray, List.set_cons_zero, List.set_cons_succ]
              refine wpAnyH_take (i := 6) (oi := ⟨some 135, _, _, _, _, _⟩) (v := ?vg6) rfl (by kernel_rfl) (by kernel_rfl) (by kernel_rfl) (fun _ _ _ h => h) (Or.inl ⟨by rfl, ?yg6⟩) hHeld ?rg6
              case yg6 =>
                intro wx hSx
                go_simp
                try with_reducible rfl
              try simp only [Act.put, List.setIfInBounds_toArray, List.set_cons_zero, List.set_cons_succ]
              refine wpAnyH_take (i := 7) (oi := ⟨some 136, _, _, _, _, _⟩) (v := ?vg7) rfl (by kernel_rfl) (by kernel_rfl) (by kernel_rfl) (fun _ _ _ h => h) (Or.inl ⟨by rfl, ?yg7⟩) hHeld ?rg7
              case yg7 =>
                intro wx hSx
                go_simp
                try with_reducible rfl
              try simp only [Act.put, List.setIfInBounds_toArray, List.set_cons_zero, List.set_cons_succ]
              refine wpAnyH_take (i := 8) (oi := ⟨some 137, _, _, _, _, _⟩) (v := ?vg8) rfl (by kernel_rfl) (by kernel_rfl) (by kernel_rfl) (fun _ _ _ h => h) (Or.inl ⟨by rfl, ?yg8⟩) hHeld ?rg8
              case yg8 =>
                intro wx hSx
                go_simp
                try with_reducible rfl
              try simp only [Act.put, List.setIfInBounds_toArray, List.set_cons_zero, List.set_cons_succ]
              refine wpAnyH_take (i := 9) (oi := ⟨some 138, _, _, _, _, _⟩) (v := ?vg9) rfl (by kernel_rfl) (by kernel_rfl) (by kernel_rfl) (fun _ _ _ h => h) (Or.inl ⟨by rfl, ?yg9⟩) hHeld ?rg9
              case yg9 =>
                intro wx hSx
                go_simp
                try with_reducible rfl
              try simp only [Act.put, List.setIfInBounds_toArray, List.set_cons_zero, List.set_cons_succ]
              refine wpAnyH_take (i := 10) (oi := ⟨some 139, _, _, _, _, _⟩) (v := ?vg10) rfl (by kernel_rfl) (by kernel_rfl) (by kernel_rfl) (fun _ _ _ h => h) (Or.inl ⟨by rfl, ?yg10⟩) hHeld ?rg10
              case yg10 =>
                intro wx hSx
                go_simp
                try with_reducible rfl
              try simp only [Act.put, List.setIfInBounds_toArray, List.set_cons_zero, List.set_cons_succ]
              refine wpAnyH_take (i := 11) (oi := ⟨some 140, _, _, _, _, _⟩) (v := ?vg11) rfl (by kernel_rfl) (by kernel_rfl) (by kernel_rfl) (fun _ _ _ h => h) (Or.inl ⟨by rfl, ?yg11⟩) hHeld ?rg11
              case yg11 =>
                intro wx hSx
                go_simp
                try with_reducible rfl
              try simp only [Act.put, List.setIfInBounds_toArray, List.set_cons_zero, List.set_cons_succ]
              refine wpAnyH_take (i := 12) (oi := ⟨some 141, _, _, _, _, _⟩) (v := ?vg12) rfl (by kernel_rfl) (by kernel_rfl) (by kernel_rfl) (fun _ _ _ h => h) (Or.inl ⟨by rfl, ?yg12⟩) hHeld ?rg12
              case yg12 =>
                intro wx hSx
                go_simp
                try with_reducible rfl
              try simp only [Act.put, List.setIfInBounds_toArray, List.set_cons_zero, List.set_cons_succ]
              refine wpAnyH_take (i := 13) (oi := ⟨some 142, _, _, _, _, _⟩) (v := ?vg13) rfl (by kernel_rfl) (by kernel_rfl) (by kernel_rfl) (fun _ _ _ h => h) (Or.inl ⟨by rfl, ?yg13⟩) hHeld ?rg13
              case yg13 =>
                intro wx hSx
                go_simp
                try with_reducible rfl
              try simp only [Act.put, List.setIfInBounds_toArray, List.set_cons_zero, List.set_cons_succ]
              refine wpAnyH_take (i := 15) (oi := ⟨some 144, _, _, _, _, _⟩) (v := ?vg15) rfl (by kernel_rfl) (by kernel_rfl) (by kernel_rfl) (fun _ _ _ h => h) (Or.inl ⟨by rfl, ?yg15⟩) hHeld ?rg15
              case yg15 =>
                intro wx hSx
                go_simp
                try with_reducible rfl
              try simp only [Act.put, List.setIfInBounds_toArray, List.set_cons_zero, List.set_cons_succ]
              refine wpAnyH_take (i := 16) (oi := ⟨some 145, _, _, _, _, _⟩) (v := ?vg16) rfl (by kernel_rfl) (by kernel_rfl) (by kernel_rfl) (fun _ _ _ h => h) (Or.inl ⟨by rfl, ?yg16⟩) hHeld ?rg16
              case yg16 =>
                intro wx hSx
                go_simp
                try with_reducible rfl
              try simp only [Act.put, List.setIfInBounds_toArray, List.set_cons_zero, List.set_cons_succ]
              refine wpAnyH_take (i := 17) (oi := ⟨some 146, _, _, _, _, _⟩) (v := ?vg17) rfl (by kernel_rfl) (by kernel_rfl) (by kernel_rfl) (fun _ _ _ h => h) (Or.inl ⟨by rfl, ?yg17⟩) hHeld ?rg17
              case yg17 =>
                intro wx hSx
                go_simp
                try with_reducible rfl
              try simp only [Act.put, List.setIfInBounds_toArray, List.set_cons_zero, List.set_cons_succ]
              refine wpAnyH_take (i := 18) (oi := ⟨some 147, _, _, _, _, _⟩) (v := ?vg18) rfl (by kernel_rfl) (by kernel_rfl) (by kernel_rfl) (fun _ _ _ h => h) (Or.inl ⟨by rfl, ?yg18⟩) hHeld ?rg18
              case yg18 =>
                intro wx hSx
                go_simp
                try with_reducible rfl
              try simp only [Act.put, List.setIfInBounds_toArray, List.set_cons_zero, List.set_cons_succ]
              refine wpAnyH_take (i := 19) (oi := ⟨some 148, _, _, _, _, _⟩) (v := ?vg19) rfl (by kernel_rfl) (by kernel_rfl) (by kernel_rfl) (fun _ _ _ h => h) (Or.inl ⟨by rfl, ?yg19⟩) hHeld ?rg19
              case yg19 =>
                intro wx hSx
                go_simp
                try with_reducible rfl
              try simp only [Act.put, List.setIfInBounds_toArray, List.set_cons_zero, List.set_cons_succ]
              refine wpAnyH_ready (rs := [14]) (by kernel_rfl) (by simp) ?_
              refine AllReadyH.cons (o := ⟨some 143, _, _, _, _, _⟩) rfl (fun K hK => ?_) AllReadyH.nil
              go_simp
              refine (drop_code (C := C) (w0 := w) (gr := gr) (l := l2) (vw := .slice (some ⟨kb, ko, none⟩) 2 ck) (ws := [s, z.key]) (vg := .slice none 0 0) (gs := []) u hR0 (by omega) huz).mono ?_
              rintro e wa ⟨rfl, ra⟩
              refine hK.out _ _ (rows_cell ra Hu) (fun hHeld => ?_)
              clear hK K
              try simp only [Act.put, List.setIfInBounds_toArray, List.set_cons_zero, List.set_cons_succ]
              refine wpAnyH_ready (rs := [20]) (by kernel_rfl) (by simp) ?_
              refine AllReadyH.cons (o := ⟨some 149, _, _, _, _, _⟩) rfl (fun K hK => ?_) AllReadyH.nil
              go_simp
              refine (drop_ref (C := C) (w0 := w) (gc := gc) (l := l2) (vw := .slice (some ⟨kb, ko, none⟩) 2 ck) (ws := [s, z.key]) (vg := .slice none 0 0) (gs := []) u ra (by omega)).mono ?_
              rintro e wb ⟨rfl, rb⟩
              refine hK.out _ _ (rows_cell rb Hu) (fun hHeld => ?_)
              clear hK K
              try simp only [Act.put, List.setIfInBounds_toArray, List.set_cons_zero, List.set_cons_succ]
              obtain ⟨Ab, cb, fb⟩ := ref_cell rb.J.ref
              refine anyH_narrow (S' := fun w' => w'.cell? ⟨kb, ko + j, none⟩ = some (.string u) ∧ w'.cell? ⟨gr, 0, none⟩ = some (.slice Ab (dropL u l2).length cb)) (fun _ h => h.1) _ _ _ _ ?_
              have hN := And.intro hHeld fb
              clear hHeld
              refine wpAnyH_take (i := 21) (oi := ⟨some 150, _, _, _, _, _⟩) (v := ?vgA21) rfl (by kernel_rfl) (by kernel_rfl) (by kernel_rfl) (fun _ _ _ h => h) (Or.inl ⟨by rfl, ?ygA21⟩) hN ?rgA21
              case ygA21 =>
                intro wx hSx
                go_simp
                try with_reducible rfl
              try simp only [Act.put, List.setIfInBounds_toArray, List.set_cons_zero, List.set_cons_succ]
              refine wpAnyH_take (i := 22) (oi := ⟨some 151, _, _, _, _, _⟩) (v := ?vgA22) rfl (by kernel_rfl) (by kernel_rfl) (by kernel_rfl) (fun _ _ _ h => h) (Or.inl ⟨by rfl, ?ygA22⟩) hN ?rgA22
              case ygA22 =>
                intro wx hSx
                go_simp
                try with_reducible rfl
              try simp only [Act.put, List.setIfInBounds_toArray, List.set_cons_zero, List.set_cons_succ]
              refine wpAnyH_take (i := 23) (oi := ⟨some 152, _, _, _, _, _⟩) (v := ?vgA23) rfl (by kernel_rfl) (by kernel_rfl) (by kernel_rfl) (fun _ _ _ h => h) (Or.inl ⟨by rfl, ?ygA23⟩) hN ?rgA23
              case ygA23 =>
                intro wx hSx
                go_simp
                try with_reducible rfl
              try simp only [Act.put, List.setIfInBounds_toArray, List.set_cons_zero, List.set_cons_succ]
              refine wpAnyH_take (i := 24) (oi := ⟨some 153, _, _, _, _, _⟩) (v := ?vgA24) rfl (by kernel_rfl) (by kernel_rfl) (by kernel_rfl) (fun _ _ _ h => h) (Or.inl ⟨by rfl, ?ygA24⟩) hN ?rgA24
              case ygA24 =>
                intro wx hSx
                go_simp
                try with_reducible rfl
              try simp only [Act.put, List.setIfInBounds_toArray, List.set_cons_zero, List.set_cons_succ]
              refine wpAnyH_take (i := 26) (oi := ⟨some 155, _, _, _, _, _⟩) (v := ?vgA26) rfl (by kernel_rfl) (by kernel_rfl) (by kernel_rfl) (fun _ _ _ h => h) (Or.inl ⟨by rfl, ?ygA26⟩) hN ?rgA26
              case ygA26 =>
                intro wx hSx
                go_simp
                try with_reducible rfl
              try simp only [Act.put, List.setIfInBounds_toArray, List.set_cons_zero, List.set_cons_succ]
              refine wpAnyH_take (i := 27) (oi := ⟨some 156, _, _, _, _, _⟩) (v := ?vgA27) rfl (by kernel_rfl) (by kernel_rfl) (by kernel_rfl) (fun _ _ _ h => h) (Or.inl ⟨by rfl, ?ygA27⟩) hN ?rgA27
              case ygA27 =>
                intro wx hSx
                go_simp
                try with_reducible rfl
              try simp only [Act.put, List.setIfInBounds_toArray, List.set_cons_zero, List.set_cons_succ]
              refine wpAnyH_take (i := 28) (oi := ⟨some 157, _, _, _, _, _⟩) (v := ?vgA28) rfl (by kernel_rfl) (by kernel_rfl) (by kernel_rfl) (fun _ _ _ h => h) (Or.inl ⟨by rfl, ?ygA28⟩) hN ?rgA28
              case ygA28 =>
                intro wx hSx
                go_simp
                try with_reducible rfl
              try simp only [Act.put, List.setIfInBounds_toArray, List.set_cons_zero, List.set_cons_succ]
              refine wpAnyH_take (i := 29) (oi := ⟨some 158, _, _, _, _, _⟩) (v := ?vgA29) rfl (by kernel_rfl) (by kernel_rfl) (by kernel_rfl) (fun _ _ _ h => h) (Or.inl ⟨by rfl, ?ygA29⟩) hN ?rgA29
              case ygA29 =>
                intro wx hSx
                go_simp
                try with_reducible rfl
              try simp only [Act.put, List.setIfInBounds_toArray, List.set_cons_zero, List.set_cons_succ]
              refine wpAnyH_take (i := 30) (oi := ⟨some 159, _, _, _, _, _⟩) (v := ?vgA30) rfl (by kernel_rfl) (by kernel_rfl) (by kernel_rfl) (fun _ _ _ h => h) (Or.inl ⟨by rfl, ?ygA30⟩) hN ?rgA30
              case ygA30 =>
                intro wx hSx
                go_simp
                try with_reducible rfl
              try simp only [Act.put, List.setIfInBounds_toArray, List.set_cons_zero, List.set_cons_succ]
              refine wpAnyH_ready (rs := [25]) (by kernel_rfl) (by simp) ?_
              refine AllReadyH.cons (o := ⟨some 154, _, _, _, _, _⟩) rfl (fun K hK => ?_) AllReadyH.nil
              go_simp
              refine (len_code (C := C) (w0 := w) (gr := gr) (l := dropL u l2) (lr := dropL u l2) (vw := .slice (some ⟨kb, ko, none⟩) 2 ck) (ws := [s, z.key]) (vg := .slice none 0 0) (gs := []) rb (by omega)).mono ?_
              rintro e wc ⟨rfl, rc, fc⟩
              refine hK.out _ _ ⟨rows_cell rc Hu, fc _ fb⟩ (fun hN => ?_)
              clear hK K
              try simp only [Act.put, List.setIfInBounds_toArray, List.set_cons_zero, List.set_cons_succ]
              refine wpAnyH_take (i := 31) (oi := ⟨some 160, _, _, _, _, _⟩) (v := ?vgA31) rfl (by kernel_rfl) (by kernel_rfl) (by kernel_rfl) (fun _ _ _ h => h) (Or.inl ⟨by rfl, ?ygA31⟩) hN ?rgA31
              case ygA31 =>
                intro wx hSx
                go_simp
                try with_reducible rfl
              try simp only [Act.put, List.setIfInBounds_toArray, List.set_cons_zero, List.set_cons_succ]
              refine wpAnyH_take (i := 32) (oi := ⟨some 161, _, _, _, _, _⟩) (v := ?vgA32) rfl (by kernel_rfl) (by kernel_rfl) (by kernel_rfl) (fun _ _ _ h => h) (Or.inl ⟨by rfl, ?ygA32⟩) hN ?rgA32
              case ygA32 =>
                intro wx hSx
                go_simp
                try with_reducible rfl
              try simp only [Act.put, List.setIfInBounds_toArray, List.set_cons_zero, List.set_cons_succ]
              refine wpAnyH_done (by kernel_rfl) ?_ _
              replace rc := Lib.hid rc
              go_wp2_with fail
              refine ⟨⟨j + 1, dropL u l2, by omega, by go_num, by omega, rc⟩, ?_⟩
              simp [intOf]; omega
            · have hjn : 2 ≤ j := by omega
              go_wp2_with fail
              go_at_call 16
              refine (lives_any C _).mono ?_
              rintro e w9 ⟨rfl, b9⟩
              replace R := Lib.hid (R.out.later b9)
              clear b9
              go_wp2_with fail
              go_ret
              exact ⟨rfl, R.out.J.below⟩
end Go.Proofs.Ytkbmkbmbkmeenaa
