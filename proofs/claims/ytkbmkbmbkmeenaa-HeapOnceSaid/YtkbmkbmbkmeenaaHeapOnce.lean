/-
  HeapOnce' walk, over what a heap of the code keeps to.
-/
import Derived.Test.YtkbmkbmbkmeenaaHeapLists
namespace Go.Proofs.Ytkbmkbmbkmeenaa
set_option maxRecDepth 20000
open Go.RowKit
set_option linter.unusedVariables false
set_option linter.unusedSimpArgs false


theorem take_keys {l : List Ent} {j : Nat} {x : Ent} (h : l[j]? = some x) : (l.take j).map Ent.key ++ [x.key] = (l.take (j + 1)).map Ent.key := by
  rw [List.take_add_one, h, List.map_append]; rfl

set_option maxHeartbeats 6400000 in
theorem heapOnce_walk (C : Heaps) (A : Option Addr) (cap : Nat) (os : List Deed) (At : Option Addr) (tl tc : Nat) (w : World) (ha : LO.Slice w (.slice A os.length cap) os) (hok : ∀ o ∈ os, o.arg)
    (tcell : ∀ j : Nat, j < tl → ∃ g off z, At = some ⟨g, off, none⟩ ∧ g < w.heap.size ∧ w.cell? ⟨g, off + j, none⟩ = some (.int .i64 z) ∧ -9223372036854775808 ≤ z ∧ z ≤ 9223372036854775807) (htl : tl ≤ 9223372036854775807) :
    Calls Try.prog 5 #[.slice A os.length cap, .slice At tl tc] w fun e w' => e = .returned (.bool true) ∧ Below w.heap.size w w' := by
  replace tcell := Lib.hid tcell
  have HA := Lib.hid ha
  have hlen := ha.len
  unfold maxLen at hlen
  clear ha
  replace hok := Lib.hid hok
  go_enter Try.func5, Try.ntmps5
  go_wp2_with fail
  go_at_call 8
  refine (C.new w).mono ?_
  rintro e w1 ⟨gc, rfl, hc, b1, f1⟩
  have hbx : Hid (Below w1.heap.size w1 (w1.alloc (.cells #[.slice none 0 0] 28))) := Lib.hid ((Below.refl _ _).alloc (Nat.le_refl _) _)
  obtain ⟨hc2, ho2⟩ := C.keep hc hbx.out.size (fun k hk => hbx.out.block k (C.old hc hk))
  have J : Hid (C.Joint w (w1.alloc (.cells #[.slice none 0 0] 28)) gc w1.heap.size [] []) := Lib.hid ⟨hc2, ⟨⟨_, heap_alloc_new w1 _, Lies.Mine.nil _ _⟩, fun x hx => (List.not_mem_nil hx).elim⟩, b1.trans (hbx.out.mono b1.size), fun k hk => f1 k (ho2 k hk), b1.size⟩
  clear hc b1 f1 hc2 ho2 hbx
  go_wp2_with fail
  generalize World.alloc _ _ = w2 at J ⊢
  generalize w1.heap.size = gr at J ⊢
  go_loopw [7] (fun i wr => ∃ (k : Nat) (l : List Ent), k ≤ 16 ∧ k ≤ os.length ∧ i = .int .i64 (k : Int) ∧ l.length ≤ k ∧ Hid (RowL l) ∧ Hid (C.Joint w wr gc gr l l)) (fun i _ => 16 - (intOf i).toNat)
  case atStart => exact ⟨0, [], by omega, by omega, rfl, by simp, Lib.hid row_nil, J⟩
  case round =>
    clear J
    obtain ⟨k, l, hk, hkl, rfl, hl, HR, J⟩ := hrel
    by_cases hin : k < os.length ∧ k < 16
    · obtain ⟨hi1, hi2⟩ := hin
      have q1 : decide ((k : Int) < (os.length : Int)) = true := decide_eq_true (by omega)
      have q2 : decide ((k : Int) < 16) = true := decide_eq_true (by omega)
      have hx : os[k]? = some os[k] := List.getElem?_eq_getElem hi1
      have hox : Hid (os[k].arg) := Lib.hid (hok.out _ (List.getElem_mem _))
      generalize os[k] = x at hx hox
      obtain ⟨b, off, rfl, d0, d1, d2⟩ := arg_at (C := C) (gc := gc) (gr := gr) (lc := l) (lr := l) HA.out hx J.out.below
      have hi := index_any (P := Try.prog) knO (by decide) (b := b) (off := off) (cap := cap) hi1
      simp only [LO] at hi
      clear hx
      go_wp2_with fail
      go_at_call 9
      refine (fewO_any x _ hox.out).mono ?_
      rintro e w3 ⟨rfl, b3⟩
      replace J := Lib.hid (J.out.later b3)
      clear b3 d0 d1 d2 hi
      have HO : Hid (x.few.ok) := Lib.hid hox.out.few
      go_upto_region 9 with (fail)
      have hbx : Hid (Below w3.heap.size w3 (w3.alloc (.cells #[.int .i64 x.act, .int .i64 x.tick, .string (fewS x.key 4)] 30))) := Lib.hid ((Below.refl _ _).alloc (Nat.le_refl _) _)
      have hoh : Hid ((w3.alloc (.cells #[.int .i64 x.act, .int .i64 x.tick, .string (fewS x.key 4)] 30)).heap[w3.heap.size]? = some (.cells #[.int .i64 x.act, .int .i64 x.tick, .string (fewS x.key 4)] 30 (0, 0))) := Lib.hid (heap_alloc_new w3 _)
      have hno : Hid (¬ C.own (w3.alloc (.cells #[.int .i64 x.act, .int .i64 x.tick, .string (fewS x.key 4)] 30)) gc w3.heap.size) := Lib.hid (fun h => Nat.lt_irrefl _ (C.old J.out.code ((C.keep J.out.code hbx.out.size (fun k hk => hbx.out.block k (C.old J.out.code hk))).2 _ h)))
      replace J := Lib.hid (J.out.later hbx.out)
      clear hbx
      generalize World.alloc w3 _ = w4 at J hoh hno ⊢
      generalize w3.heap.size = bo at hoh hno ⊢
      have d0 : w4.cell? ⟨bo, 0, none⟩ = some (.int .i64 x.act) := cell_at hoh.out 0
      have d1 : w4.cell? ⟨bo, 1, none⟩ = some (.int .i64 x.tick) := cell_at hoh.out 1
      have d2 : w4.cell? ⟨bo, 2, none⟩ = some (.string (fewS x.key 4)) := cell_at hoh.out 2
      go_wp2_with fail
      go_at_call 23
      refine (C.put x.few.ent J.out.code (by omega) HO.out.ent).mono ?_
      rintro e w5 ⟨rfl, hc5, t5⟩
      replace hoh := Lib.hid ((t5.block bo (smem_lt hoh.out) hno.out).trans hoh.out)
      replace J := Lib.hid (J.out.codes hc5 t5)
      clear hno hc5 t5 d0 d1 d2
      have d0 : w5.cell? ⟨bo, 0, none⟩ = some (.int .i64 x.act) := cell_at hoh.out 0
      have d1 : w5.cell? ⟨bo, 1, none⟩ = some (.int .i64 x.tick) := cell_at hoh.out 1
      have d2 : w5.cell? ⟨bo, 2, none⟩ = some (.string (fewS x.key 4)) := cell_at hoh.out 2
      go_wp2_with fail
      go_at_call 24
      refine (refPut_any gr l x.few.ent w5 J.out.ref (by omega) HO.out.ent).mono ?_
      rintro e w6 ⟨rfl, hr6, g6⟩
      replace J := Lib.hid (J.out.refs hr6 g6)
      have hl2 : (putL x.few.ent l).length ≤ k + 1 := Nat.le_trans (put_len _ _) (by omega)
      have HR2 := Lib.hid (row_put (x := x.few.ent) HR.out)
      clear hr6 g6 d0 d1 d2 hoh
      generalize putL x.few.ent l = l2 at J hl2 HR2
      go_wp2_with fail
      refine ⟨⟨k + 1, l2, by omega, by omega, by go_num, hl2, HR2, J⟩, ?_⟩
      simp [intOf]; omega
    · have hend : os.length ≤ k ∨ (k < os.length ∧ 16 ≤ k) := by omega
      clear hin
      have hl16 : l.length ≤ 16 := by omega
      have HL0 : Hid (∀ x ∈ l, x.ok) := Lib.hid J.out.ref.2
      have R := Lib.hid (Heaps.Rows.start J.out)
      clear J
      rcases hend with q1 | ⟨q1, q2⟩
      all_goals go_wp2_with fail
      all_goals
        go_loopw [9, 10] (fun v i wr => ∃ (j : Nat) (Aw : Option Addr) (cw : Nat), j ≤ l.length ∧ i = .int .i64 (j : Int) ∧ v = .slice Aw j cw ∧ Hid (C.Rows w wr gc gr l l (.slice none 0 0) [] (.slice Aw j cw) ((l.take j).map Ent.key))) (fun _ i _ => l.length - (intOf i).toNat)
        case atStart => exact ⟨0, none, 0, by omega, rfl, rfl, R⟩
        case round =>
          clear R
          obtain ⟨j, Aw, cw, hj, rfl, rfl, R⟩ := hrel
          obtain ⟨A3, cap3, c3⟩ := ref_cell R.out.J.ref
          by_cases hlt : j < l.length
          · have hx : l[j]? = some l[j] := List.getElem?_eq_getElem hlt
            generalize l[j] = x at hx
            obtain ⟨b, off, rfl, hb, hr⟩ := (ref_slice R.out.J.ref c3).at hx
            obtain ⟨d0, d1⟩ := range2 hr
            have hi := index_any (P := Try.prog) knE (by decide) (b := b) (off := off) (cap := cap3) hlt
            simp only [LE] at d0 d1 hi
            have HK := Lib.hid (take_keys hx)
            have HQ : Hid (((l.take j).map Ent.key).length = j) := Lib.hid (by rw [List.length_map, List.length_take]; omega)
            clear hx hr
            have ha1 : Hid (Below wr.heap.size wr (wr.alloc (.cells #[.string x.key] 9))) := Lib.hid ((Below.refl _ _).alloc (Nat.le_refl _) _)
            have hlit := Lib.hid (lit_slice (L := LT) wr x.key wr.heap.size rfl #[.string x.key] rfl)
            replace R := Lib.hid (R.out.later ha1.out)
            have hsz : w.heap.size ≤ (wr.alloc (.cells #[.string x.key] 9)).heap.size := R.out.J.below.size
            go_wp2_with (at_builtin; refine wpList_puts rfl knT (.tmp 55) (.tmp 64) 32 rfl (v := .slice Aw j cw) rfl R.out.mg hsz (.slice (some ⟨wr.heap.size, 0, none⟩) 1 1) [x.key] 1 rfl rfl (hlit.out.srcN knT rfl) (by rw [HQ.out]; omega) ?_; rw [HQ.out, HK.out]; intro A4 cap4 w2 m2 b2 o2; replace R := Lib.hid (R.out.put b2 m2 o2); clear b2 m2 o2)
            refine ⟨⟨j + 1, A4, cap4, by omega, by go_num, rfl, R⟩, ?_⟩
            simp [intOf]; omega
          · have hjl : j = l.length := by omega
            subst hjl
            rw [List.take_length] at R
            replace R := Lib.hid R.out.swap
            go_wp2_with fail
            clear c3
            go_loopw [11, 12, 13] (fun v la i wq => ∃ (m : Nat) (pre rest : List Ent) (z : Int) (Ag : Option Addr) (cg : Nat), m ≤ 5 ∧ m ≤ tl ∧ i = .int .i64 (m : Int) ∧ la = .int .i64 z ∧ -9223372036854775808 ≤ z ∧ z ≤ 9223372036854775807 ∧ Hid (l = pre ++ rest) ∧ pre.length + rest.length = l.length ∧ v = .slice Ag pre.length cg ∧ Hid (C.Rows w wq gc gr rest l (.slice Aw l.length cw) (l.map Ent.key) (.slice Ag pre.length cg) (pre.map Ent.key))) (fun _ _ i _ => 5 - (intOf i).toNat)
            case atStart => exact ⟨0, [], l, -9223372036854775808, none, 0, by omega, by omega, rfl, rfl, by omega, by omega, Lib.hid rfl, by simp, rfl, R⟩
            case round =>
              clear R
              obtain ⟨m, pre, rest, z, Ag, cg, hm, hmt, rfl, rfl, z0, z1, HP, hpr, rfl, R⟩ := hrel
              have HG : Hid ((pre.map Ent.key).length = pre.length) := Lib.hid (by simp)
              by_cases hin : m < tl ∧ m < 5
              · obtain ⟨hi1, hi2⟩ := hin
                obtain ⟨ga, off, y, rfl, hga, hc, y0, y1⟩ := tcell.out m hi1
                have c1 : wr.cell? ⟨ga, off + m, none⟩ = some (.int .i64 y) := (R.out.J.below.cell (p := ⟨ga, off + m, none⟩) hga).trans hc
                clear hc
                have i0 : (0 : Int) ≤ (m : Int) := by omega
                have i1 : (m : Int) < (tl : Int) := by omega
                go_wp2_with fail
                generalize hz2 : max z y = z2
                have z2b : -9223372036854775808 ≤ z2 ∧ z2 ≤ 9223372036854775807 := by omega
                obtain ⟨z20, z21⟩ := z2b
                clear hz2
                go_at_call 25
                refine (C.due z2 R.out.J.code (by omega)).mono ?_
                rintro e w5 ⟨⟨v, rfl, hv, ho⟩, hc5, t5⟩
                replace R := Lib.hid (R.out.codes hc5 t5)
                obtain ⟨Av, cv, rfl, _⟩ := hv.shape
                have S5 := Lib.hid hv.slice
                have hsp := due_split z2 rest
                have hsl : (dueL z2 rest).length + (leftL z2 rest).length = rest.length := by rw [← List.length_append, hsp]
                replace HP := Lib.hid (show l = (pre ++ dueL z2 rest) ++ leftL z2 rest by rw [List.append_assoc, hsp]; exact HP.out)
                clear hv ho hc5 t5 hsp
                have hnd : Hid (((dueL z2 rest).map Ent.key).length = (dueL z2 rest).length) := Lib.hid (by simp)
                rw [hnd.out] at S5
                try rw [hnd.out]
                have HK : Hid (pre.map Ent.key ++ (dueL z2 rest).map Ent.key = (pre ++ dueL z2 rest).map Ent.key) := Lib.hid (by simp)
                have hsz : w.heap.size ≤ w5.heap.size := R.out.J.below.size
                go_wp2_with (at_builtin; refine wpList_puts rfl knT (.tmp 82) (.tmp 85) 32 rfl (v := .slice Ag pre.length cg) rfl R.out.mg hsz (.slice Av (dueL z2 rest).length cv) ((dueL z2 rest).map Ent.key) (dueL z2 rest).length hnd.out rfl (S5.out.srcN knT hnd.out) (by rw [HG.out]; omega) ?_; rw [HG.out, HK.out]; intro A4 cap4 w6 m6 b6 o6; replace R := Lib.hid (R.out.put b6 m6 o6); clear b6 m6 o6)
                refine ⟨⟨m + 1, pre ++ dueL z2 rest, leftL z2 rest, z2, A4, cap4, by omega, by omega, by go_num, rfl, z20, z21, HP, by rw [List.length_append]; omega, by rw [List.length_append], by rw [List.length_append]; exact R⟩, ?_⟩
                simp [intOf]; omega
              · have hend : tl ≤ m ∨ (m < tl ∧ 5 ≤ m) := by omega
                clear hin
                rcases hend with q3 | ⟨q3, q4⟩
                all_goals go_wp2_with fail
                all_goals
                  go_at_call 15
                  refine (C.len R.out.J.code (by omega)).mono ?_
                  rintro e w4 ⟨rfl, hc4, t4⟩
                  replace R := Lib.hid (R.out.codes hc4 t4)
                  clear hc4 t4
                  have q5 : ((rest.length : Int) != (l.length : Int) - (pre.length : Int)) = false := by rw [bne_eq_false_iff_eq]; omega
                  have HT : Hid (∀ x ∈ rest, x.tick ≤ 9223372036854775807) := Lib.hid (fun x hx => (HL0.out x (by rw [HP.out]; exact List.mem_append_right _ hx)).2.2)
                  go_wp2_with fail
                  go_at_call 25
                  refine (C.due 9223372036854775807 R.out.J.code (by omega)).mono ?_
                  rintro e w5 ⟨⟨v, rfl, hv, ho⟩, hc5, t5⟩
                  replace R := Lib.hid (R.out.codes hc5 t5)
                  obtain ⟨Av, cv, rfl, _⟩ := hv.shape
                  have S5 := Lib.hid hv.slice
                  have hsp := due_split 9223372036854775807 rest
                  have hsl : (dueL 9223372036854775807 rest).length + (leftL 9223372036854775807 rest).length = rest.length := by rw [← List.length_append, hsp]
                  replace HP := Lib.hid (show l = (pre ++ dueL 9223372036854775807 rest) ++ leftL 9223372036854775807 rest by rw [List.append_assoc, hsp]; exact HP.out)
                  clear hv ho hc5 t5 hsp
                  have hnd : Hid (((dueL 9223372036854775807 rest).map Ent.key).length = (dueL 9223372036854775807 rest).length) := Lib.hid (by simp)
                  rw [hnd.out] at S5
                  try rw [hnd.out]
                  have HK : Hid (pre.map Ent.key ++ (dueL 9223372036854775807 rest).map Ent.key = (pre ++ dueL 9223372036854775807 rest).map Ent.key) := Lib.hid (by simp)
                  have hsz : w.heap.size ≤ w5.heap.size := R.out.J.below.size
                  go_wp2_with (at_builtin; refine wpList_puts rfl knT (.tmp 95) (.tmp 97) 32 rfl (v := .slice Ag pre.length cg) rfl R.out.mg hsz (.slice Av (dueL 9223372036854775807 rest).length cv) ((dueL 9223372036854775807 rest).map Ent.key) (dueL 9223372036854775807 rest).length hnd.out rfl (S5.out.srcN knT hnd.out) (by rw [HG.out]; omega) ?_; rw [HG.out, HK.out]; intro A4 cap4 w6 m6 b6 o6; replace R := Lib.hid (R.out.put b6 m6 o6); clear b6 m6 o6)
                  obtain ⟨e1, e2⟩ := due_all HT.out
                  have HE : Hid ((pre ++ dueL 9223372036854775807 rest).map Ent.key = l.map Ent.key) := Lib.hid (by rw [HP.out, e2, List.append_nil])
                  rw [HE.out, e2] at R
                  clear e1 e2
                  go_at_call 12
                  refine (sameTexts_any _ _ (l.map Ent.key) (l.map Ent.key) w6 R.out.mg.slice R.out.mw.slice).mono ?_
                  rintro e wz ⟨rfl, d, rfl⟩
                  rw [decide_eq_true (rfl : l.map Ent.key = l.map Ent.key)]
                  replace R := Lib.hid (R.out.drewN d)
                  generalize World.drewN _ d = w7 at R ⊢
                  go_wp2_with fail
                  go_at_call 15
                  refine (C.len R.out.J.code (by simp)).mono ?_
                  rintro e w8 ⟨rfl, hc8, t8⟩
                  replace R := Lib.hid (R.out.codes hc8 t8)
                  clear hc8 t8
                  go_wp2_with fail
                  go_at_call 16
                  refine (lives_any C _).mono ?_
                  rintro e w9 ⟨rfl, b9⟩
                  replace R := Lib.hid (R.out.later b9)
                  clear b9
                  go_wp2_with fail
                  go_ret
                  exact ⟨rfl, R.out.J.below⟩
end Go.Proofs.Ytkbmkbmbkmeenaa
