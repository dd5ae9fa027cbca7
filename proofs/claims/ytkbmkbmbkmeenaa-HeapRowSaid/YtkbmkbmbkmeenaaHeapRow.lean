/-
  HeapRow' walk, over what a heap of the code keeps to.
-/
import Derived.Test.YtkbmkbmbkmeenaaHeapPair
namespace Go.Proofs.Ytkbmkbmbkmeenaa
set_option maxRecDepth 20000
open Go.RowKit
set_option linter.unusedVariables false
set_option linter.unusedSimpArgs false


theorem fill_deed (x : Deed) : Instr.fill (fun i => some (i * 3, 3)) ((Array.range (1 * 3)).map ((Value.agg #[.int .i64 0, .int .i64 0, .string ⟨#[]⟩]).cells[· % (Value.agg #[.int .i64 0, .int .i64 0, .string ⟨#[]⟩]).cells.size]!)) [(0, .agg #[.int .i64 x.act, .int .i64 x.tick, .string x.key])] = some #[.int .i64 x.act, .int .i64 x.tick, .string x.key] := by
  cases x
  kernel_rfl
theorem build_deed (x : Deed) (w : World) : (Instr.buildSlice 22 1 #[(0, .agg #[.int .i64 x.act, .int .i64 x.tick, .string x.key])]).run Try.prog w = .ok (.slice (some ⟨w.heap.size, 0, none⟩) 1 1) (w.alloc (.cells #[.int .i64 x.act, .int .i64 x.tick, .string x.key] 30)) := by
  obtain ⟨i0, hi0, hz0, hz1, hz2⟩ := info_parts knO.info
  refine run_buildSlice w 22 30 1 _ _ i0 _ Try.underlying22 hi0 hz0 (by rw [hz1]; decide) (by rw [hz1]; decide) ?_
  rw [hz1]
  exact fill_deed x
theorem ents_keys (ds : List Deed) : (ds.map Deed.ent).map Ent.key = ds.map Deed.key := by simp [Deed.ent, Function.comp_def]
theorem take_snoc {α : Type} {l : List α} {j : Nat} {x : α} (h : l[j]? = some x) : l.take (j + 1) = l.take j ++ [x] := by rw [List.take_add_one, h]; rfl
theorem cells_turn {own : World → Nat → Nat → Prop} {w w' : World} {g bb o1 o2 : Nat} {u v : Value} (h : w.cell? ⟨bb, o1, none⟩ = some u ∧ w.cell? ⟨bb, o2, none⟩ = some v) (ht : TurnC own w w' g) (hn : Hid (¬ own w g bb)) : w'.cell? ⟨bb, o1, none⟩ = some u ∧ w'.cell? ⟨bb, o2, none⟩ = some v :=
  have hb : w'.heap[bb]? = w.heap[bb]? := ht.block bb (World.block_lt_of_cell? w _ h.1) hn.out
  ⟨(World.cell?_of_block (a := ⟨bb, o1, none⟩) hb).trans h.1, (World.cell?_of_block (a := ⟨bb, o2, none⟩) hb).trans h.2⟩

theorem cells_draw {w : World} {bb o1 o2 : Nat} {u v : Value} (h : w.cell? ⟨bb, o1, none⟩ = some u ∧ w.cell? ⟨bb, o2, none⟩ = some v) : w.drew.cell? ⟨bb, o1, none⟩ = some u ∧ w.drew.cell? ⟨bb, o2, none⟩ = some v := h
theorem Heaps.Pair.drew {C : Heaps} {w0 w : World} {ga gb gr : Nat} {la lb lr : List Ent} {vo : Value} {xs : List Deed} (h : C.Pair w0 w ga gb gr la lb lr vo xs) : C.Pair w0 w.drew ga gb gr la lb lr vo xs := h.later ⟨rfl, rfl, rfl, Nat.le_refl _, fun _ _ => rfl⟩

section
variable {C : Heaps} {w0 w : World} {ga gb gr : Nat} {F : List Ent} {vo V v : Value} {xs : List Deed} {B : Nat}
theorem all_a (h : C.Pair w0 w ga gb gr F F F vo xs ∧ w.cell? ⟨gr, 0, none⟩ = some V) (hl : F.length ≤ 100) : Calls Try.prog 14 #[.pointer (some ⟨ga, 0, none⟩)] w fun e w' => (∃ v, e = .returned v ∧ LC.Mine w' w.heap.size v F ∧ ToldC C.own w' ga v) ∧ C.CH w' ga F ∧ TurnC C.own w w' ga := C.all h.1.a hl
theorem all_b (h : C.Pair w0 w ga gb gr F F F vo xs ∧ w.cell? ⟨gr, 0, none⟩ = some V) (hl : F.length ≤ 100) : Calls Try.prog 14 #[.pointer (some ⟨gb, 0, none⟩)] w fun e w' => (∃ v, e = .returned v ∧ LC.Mine w' w.heap.size v F ∧ ToldC C.own w' gb v) ∧ C.CH w' gb F ∧ TurnC C.own w w' gb := C.all h.1.b hl
theorem all_ab {g' : Nat} (h : C.Pair w0 w ga gb gr F F F vo xs ∧ w.cell? ⟨gr, 0, none⟩ = some V) (hl : F.length ≤ 100) (hg : g' = ga ∨ g' = gb) : Calls Try.prog 14 #[.pointer (some ⟨g', 0, none⟩)] w fun e w' => (∃ v, e = .returned v ∧ LC.Mine w' w.heap.size v F ∧ ToldC C.own w' g' v) ∧ C.CH w' g' F ∧ TurnC C.own w w' g' := by
  rcases hg with rfl | rfl
  · exact all_a h hl
  · exact all_b h hl
theorem same_pair (h : C.Pair w0 w ga gb gr F F F vo xs ∧ w.cell? ⟨gr, 0, none⟩ = some V) (hv : LC.Mine w B v F) : Calls Try.prog 13 #[v, V] w fun e w' => e = .returned (.bool (decide (F = F))) ∧ ∃ d, w' = w.drewN d := sameEnts_any v V F F w hv.slice (ref_slice h.1.ref h.2)
end

set_option maxHeartbeats 6400000 in
theorem heapRow_walk (C : Heaps) (A : Option Addr) (cap : Nat) (os : List Deed) (w : World) (ha : LO.Slice w (.slice A os.length cap) os) (hok : ∀ o ∈ os, o.arg) :
    Calls Try.prog 6 #[.slice A os.length cap] w fun e w' => e = .returned (.bool true) ∧ Below w.heap.size w w' := by
  have HA := Lib.hid ha
  have hlen := ha.len
  unfold maxLen at hlen
  clear ha
  replace hok := Lib.hid hok
  go_enter Try.func6, Try.ntmps6
  go_wp2_with fail
  go_at_call 8
  refine (C.new w).mono ?_
  rintro e w1 ⟨ga, rfl, hca, b1, f1⟩
  go_wp2_with fail
  go_at_call 8
  refine (C.new w1).mono ?_
  rintro e w2 ⟨gb, rfl, hcb, b2, f2⟩
  obtain ⟨hca2, oa2⟩ := C.keep hca b2.size (fun k hk => b2.block k (C.old hca hk))
  have hbx : Hid (Below w2.heap.size w2 (w2.alloc (.cells #[.slice none 0 0] 28))) := Lib.hid ((Below.refl _ _).alloc (Nat.le_refl _) _)
  obtain ⟨ha3, oa3⟩ := C.keep hca2 hbx.out.size (fun k hk => hbx.out.block k (C.old hca2 hk))
  obtain ⟨hb3, ob3⟩ := C.keep hcb hbx.out.size (fun k hk => hbx.out.block k (C.old hcb hk))
  have R : Hid (C.Pair w (w2.alloc (.cells #[.slice none 0 0] 28)) ga gb w2.heap.size [] [] [] (.slice none 0 0) []) := Lib.hid ⟨ha3, hb3, ⟨⟨_, heap_alloc_new w2 _, Lies.Mine.nil _ _⟩, fun x hx => (List.not_mem_nil hx).elim⟩, (b1.trans (b2.mono b1.size)).trans (hbx.out.mono (Nat.le_trans b1.size b2.size)), fun k hk => f1 k (oa2 k (oa3 k hk)), fun k hk => Nat.le_trans b1.size (f2 k (ob3 k hk)), Nat.le_trans b1.size b2.size, fun k hk hk' => (by have h1 := C.old hca (oa2 k (oa3 k hk)); have h2 := f2 k (ob3 k hk'); omega), Lies.Mine.nil _ _, told_nil _ _ _, told_nil _ _ _⟩
  clear hca hcb b1 b2 f1 f2 hca2 oa2 ha3 oa3 hb3 ob3 hbx
  go_wp2_with fail
  generalize World.alloc _ _ = w3 at R ⊢
  generalize w2.heap.size = gr at R ⊢
  go_loopw [6, 7] (fun v i wr => ∃ (k : Nat) (ds : List Deed) (Ao : Option Addr) (co : Nat), k ≤ 12 ∧ k ≤ os.length ∧ i = .int .i64 (k : Int) ∧ v = .slice Ao ds.length co ∧ ds.length ≤ k ∧ Hid ((ds.map Deed.key).Nodup) ∧ Hid (∀ o ∈ ds, o.ok) ∧ Hid (C.Pair w wr ga gb gr [] [] (foldP (ds.map Deed.ent)) (.slice Ao ds.length co) ds)) (fun _ i _ => 12 - (intOf i).toNat)
  case atStart => exact ⟨0, [], none, 0, by omega, by omega, rfl, rfl, by simp, Lib.hid (by simp), Lib.hid (fun o ho => (List.not_mem_nil ho).elim), R⟩
  case round =>
    clear R
    obtain ⟨k, ds, Ao, co, hk, hkl, rfl, rfl, hl, HN, HD, R⟩ := hrel
    have hfl : (foldP (ds.map Deed.ent)).length ≤ 12 := Nat.le_trans (foldP_len _) (by rw [List.length_map]; omega)
    by_cases hin : k < os.length ∧ k < 12
    · obtain ⟨hi1, hi2⟩ := hin
      have q1 : decide ((k : Int) < (os.length : Int)) = true := decide_eq_true (by omega)
      have q2 : decide ((k : Int) < 12) = true := decide_eq_true (by omega)
      have hx : os[k]? = some os[k] := List.getElem?_eq_getElem hi1
      have hox : Hid (os[k].arg) := Lib.hid (hok.out _ (List.getElem_mem _))
      generalize os[k] = x0 at hx hox
      obtain ⟨b, off, rfl, d0, d1, d2⟩ := arg_at (C := C) (gc := ga) (gr := gr) (lc := []) (lr := []) HA.out hx R.out.below
      have hi := index_any (P := Try.prog) knO (by decide) (b := b) (off := off) (cap := cap) hi1
      simp only [LO] at hi
      clear hx
      go_wp2_with fail
      go_at_call 9
      refine (fewO_any x0 _ hox.out).mono ?_
      rintro e w4 ⟨rfl, b4⟩
      replace R := Lib.hid (R.out.later b4)
      clear b4 d0 d1 d2 hi
      have HO : Hid (x0.few.ok) := Lib.hid hox.out.few
      rw [show fewS x0.key 4 = x0.few.key from rfl, show x0.act = x0.few.act from rfl, show x0.tick = x0.few.tick from rfl]
      generalize x0.few = x at HO ⊢
      clear hox
      go_upto_region 11 with (fail)
      have hbx : Hid (Below w4.heap.size w4 (w4.alloc (.cells #[.int .i64 x.act, .int .i64 x.tick, .string x.key] 30))) := Lib.hid ((Below.refl _ _).alloc (Nat.le_refl _) _)
      have hoh : Hid ((w4.alloc (.cells #[.int .i64 x.act, .int .i64 x.tick, .string x.key] 30)).heap[w4.heap.size]? = some (.cells #[.int .i64 x.act, .int .i64 x.tick, .string x.key] 30 (0, 0))) := Lib.hid (heap_alloc_new w4 _)
      have hob : Hid (∀ q, (Value.slice Ao ds.length co).ownBlock = some q → q ≠ w4.heap.size) := Lib.hid (fun q hq => Nat.ne_of_lt (R.out.mo.lt q hq).2)
      replace R := Lib.hid (R.out.later hbx.out)
      clear hbx
      generalize World.alloc w4 _ = w5 at R hoh ⊢
      generalize w4.heap.size = bo at hoh hob ⊢
      have d0 : w5.cell? ⟨bo, 0, none⟩ = some (.int .i64 x.act) := cell_at hoh.out 0
      have d1 : w5.cell? ⟨bo, 1, none⟩ = some (.int .i64 x.tick) := cell_at hoh.out 1
      have d2 : w5.cell? ⟨bo, 2, none⟩ = some (.string x.key) := cell_at hoh.out 2
      go_wp2_with fail
      go_at_call 20
      refine (refAt_any gr _ x.key w5 R.out.ref (by omega)).mono ?_
      rintro e wz ⟨rfl, rfl⟩
      generalize tickL x.key (foldP (ds.map Deed.ent)) = tk
      cases hh : hasL x.key (foldP (ds.map Deed.ent))
      · have HM : Hid (∀ y ∈ foldP (ds.map Deed.ent), y.key ≠ x.key) := Lib.hid (fun y hy e => by have := has_iff.2 ⟨y, hy, e⟩; rw [hh] at this; cases this)
        clear hh
        have HN2 : Hid (((ds ++ [x]).map Deed.key).Nodup) := Lib.hid (by
          rw [List.map_append, List.nodup_append]
          refine ⟨HN.out, by simp, fun u hu v hv => ?_⟩
          rw [List.map_singleton, List.mem_singleton] at hv
          rw [hv]
          obtain ⟨o, ho, rfl⟩ := List.mem_map.1 hu
          exact HM.out o.ent ((foldP_mem (by rw [ents_keys]; exact HN.out) o.ent).2 (List.mem_map_of_mem ho)))
        have HD2 : Hid (∀ o ∈ ds ++ [x], o.ok) := Lib.hid (fun o ho => by rcases List.mem_append.1 ho with h | h; exact HD.out o h; rw [List.mem_singleton.1 h]; exact HO.out)
        have HF2 : Hid (putL x.ent (foldP (ds.map Deed.ent)) = foldP ((ds ++ [x]).map Deed.ent)) := Lib.hid (by rw [List.map_append, List.map_singleton, foldP_snoc])
        have HL2 : Hid ((ds ++ [x]).length = ds.length + 1) := Lib.hid (by simp)
        clear HM
        have hbd := build_deed x
        have ha1 : Hid (Below w5.heap.size w5 (w5.alloc (.cells #[.int .i64 x.act, .int .i64 x.tick, .string x.key] 30))) := Lib.hid ((Below.refl _ _).alloc (Nat.le_refl _) _)
        have hlit := Lib.hid (lit_slice (L := LO) w5 x w5.heap.size rfl #[.int .i64 x.act, .int .i64 x.tick, .string x.key] rfl)
        replace R := Lib.hid (R.out.later ha1.out)
        have hsz : w.heap.size ≤ (w5.alloc (.cells #[.int .i64 x.act, .int .i64 x.tick, .string x.key] 30)).heap.size := R.out.below.size
        have hbo := smem_lt hoh.out
        go_upto_region 14 with (at_builtin; refine wpList_puts rfl knO (.tmp 46) (.tmp 48) 22 rfl (v := .slice Ao ds.length co) rfl R.out.mo hsz (.slice (some ⟨w5.heap.size, 0, none⟩) 1 1) [x] 1 rfl rfl (hlit.out.srcN knO rfl) (by omega) ?_; intro A6 c6 w6 m6 b6 o6; replace hoh := Lib.hid ((b6.block bo (by have := ha1.out.size; omega) (fun e => hob.out bo e.symm rfl)).trans ((ha1.out.block bo hbo).trans hoh.out)); replace R := Lib.hid (R.out.put b6 m6 o6); clear b6 m6 o6)
        clear d0 d1 d2 hbd hlit hsz ha1
        have d1 : w6.cell? ⟨bo, 1, none⟩ = some (.int .i64 x.tick) := cell_at hoh.out 1
        have d2 : w6.cell? ⟨bo, 2, none⟩ = some (.string x.key) := cell_at hoh.out 2
        go_wp2_with fail
        go_at_call 24
        refine (refPut_any gr _ x.ent w6 R.out.ref (by omega) HO.out.ent).mono ?_
        rintro e w7 ⟨rfl, hr7, g7⟩
        replace R := Lib.hid (R.out.refs hr7 g7)
        clear hr7 g7 d1 d2
        rw [HF2.out] at R
        go_wp2_with fail
        refine ⟨⟨k + 1, ds ++ [x], A6, c6, by omega, by omega, by go_num, by rw [HL2.out], by rw [HL2.out]; omega, HN2, HD2, by rw [HL2.out]; exact R⟩, ?_⟩
        simp [intOf]; omega
      · clear hh
        go_wp2_with fail
        refine ⟨⟨k + 1, ds, Ao, co, by omega, by omega, by go_num, rfl, by omega, HN, HD, R⟩, ?_⟩
        simp [intOf]; omega
    · have hend : os.length ≤ k ∨ (k < os.length ∧ 12 ≤ k) := by omega
      have HE : Hid ((ds.map Deed.ent).length = ds.length) := Lib.hid (by simp)
      have hdl : ds.length ≤ 12 := by omega
      clear hin
      rcases hend with q1 | ⟨q1, q2⟩
      all_goals go_wp2_with fail
      all_goals
        go_loopw [11] (fun i wr => ∃ j : Nat, j ≤ ds.length ∧ i = .int .i64 (j : Int) ∧ Hid (C.Pair w wr ga gb gr (foldP ((ds.map Deed.ent).take j)) (foldP ((ds.map Deed.ent).reverse.take j)) (foldP (ds.map Deed.ent)) (.slice Ao ds.length co) ds)) (fun i _ => ds.length - (intOf i).toNat)
        case atStart => exact ⟨0, by omega, rfl, R⟩
        case round =>
          clear R
          obtain ⟨j, hj, rfl, R⟩ := hrel
          have hla : (foldP ((ds.map Deed.ent).take j)).length ≤ 12 := Nat.le_trans (foldP_len _) (by rw [List.length_take, HE.out]; omega)
          have hlb : (foldP ((ds.map Deed.ent).reverse.take j)).length ≤ 12 := Nat.le_trans (foldP_len _) (by rw [List.length_take, List.length_reverse, HE.out]; omega)
          by_cases hlt : j < ds.length
          · have hx : ds[j]? = some ds[j] := List.getElem?_eq_getElem hlt
            have hy : ds[ds.length - 1 - j]? = some ds[ds.length - 1 - j] := List.getElem?_eq_getElem (by omega)
            have HX : Hid (ds[j].ok) := Lib.hid (HD.out _ (List.getElem_mem _))
            have HY : Hid (ds[ds.length - 1 - j].ok) := Lib.hid (HD.out _ (List.getElem_mem _))
            generalize ds[j] = x at hx HX
            generalize ds[ds.length - 1 - j] = y at hy HY
            have hex : (ds.map Deed.ent)[j]? = some x.ent := by rw [List.getElem?_map, hx]; rfl
            have hey : (ds.map Deed.ent).reverse[j]? = some y.ent := by rw [List.getElem?_reverse (by rw [HE.out]; exact hlt), HE.out, List.getElem?_map, hy]; rfl
            have HA2 : Hid (putL x.ent (foldP ((ds.map Deed.ent).take j)) = foldP ((ds.map Deed.ent).take (j + 1))) := Lib.hid (by rw [take_snoc hex, foldP_snoc])
            have HB2 : Hid (putL y.ent (foldP ((ds.map Deed.ent).reverse.take j)) = foldP ((ds.map Deed.ent).reverse.take (j + 1))) := Lib.hid (by rw [take_snoc hey, foldP_snoc])
            obtain ⟨bb, of, rfl, hb, hr⟩ := R.out.mo.slice.at hx
            obtain ⟨d0, d1, d2⟩ := range3 hr
            have hi := index_any (P := Try.prog) knO (by decide) (b := bb) (off := of) (cap := co) hlt
            simp only [LO] at hi d0 d1 d2
            have Hy := Lib.hid hy
            clear hx hy hex hey hr d0
            have i0 : (0 : Int) ≤ (j : Int) := by omega
            have i1 : (j : Int) < (ds.length : Int) := by omega
            have hkeep := And.intro d1 d2
            replace R := Lib.hid R.out.drew
            have hno : Hid (¬ C.own wr.drew ga bb) := Lib.hid (R.out.na bb rfl)
            go_wp2_with fail
            go_region_held3 (fun w' => w'.cell? ⟨bb, of + j * 3 + 1, none⟩ = some (.int .i64 x.tick) ∧ w'.cell? ⟨bb, of + j * 3 + 2, none⟩ = some (.string x.key)) (first | exact cells_draw (by assumption) | exact cells_turn (by assumption) (by assumption) (by assumption) | assumption)
              (first | (go_at_call 23; refine (C.put x.ent R.out.a (by omega) HX.out.ent).mono ?_; rintro e w5 ⟨rfl, hc5, t5⟩))
            rename_i hH
            clear hH
            replace R := Lib.hid (R.out.codesA hc5 t5)
            rw [HA2.out] at R
            clear hc5 t5 hkeep hno d1 d2 hi
            obtain ⟨bb2, of2, hA2, hb2, hr2⟩ := R.out.mo.slice.at Hy.out
            injection hA2 with hA2
            injection hA2 with e1 e2 _
            subst e1 e2
            obtain ⟨d0, d1, d2⟩ := range3 hr2
            have hi := index_any (P := Try.prog) knO (by decide) (b := bb) (off := of) (len := ds.length) (cap := co) (i := ds.length - 1 - j) (by omega)
            simp only [LO] at hi d0 d1 d2
            rw [show ((ds.length - 1 - j : Nat) : Int) = (ds.length : Int) - 1 - (j : Int) by omega] at hi
            generalize hn : ds.length - 1 - j = n at hi d1 d2
            have hw1 := IntWalk.i64_in ((ds.length : Int) - 1) (by omega)
            have hw2 := IntWalk.i64_in ((ds.length : Int) - 1 - (j : Int)) (by omega)
            clear hn hr2 d0
            have hkeep := And.intro d1 d2
            replace R := Lib.hid R.out.drew
            have hno : Hid (¬ C.own w5.drew gb bb) := Lib.hid (R.out.nb bb rfl)
            go_wp2_with fail
            go_region_held3 (fun w' => w'.cell? ⟨bb, of + n * 3 + 1, none⟩ = some (.int .i64 y.tick) ∧ w'.cell? ⟨bb, of + n * 3 + 2, none⟩ = some (.string y.key)) (first | exact cells_draw (by assumption) | exact cells_turn (by assumption) (by assumption) (by assumption) | assumption)
              (first | (go_at_call 23; refine (C.put y.ent R.out.b (by omega) HY.out.ent).mono ?_; rintro e w6 ⟨rfl, hc6, t6⟩))
            rename_i hH
            clear hH
            replace R := Lib.hid (R.out.codesB hc6 t6)
            rw [HB2.out] at R
            clear hc6 t6 hkeep hno d1 d2 hi
            go_wp2_with fail
            refine ⟨⟨j + 1, by omega, by go_num, R⟩, ?_⟩
            simp [intOf]; omega
          · obtain rfl : j = ds.length := by omega
            rw [List.take_of_length_le (by rw [HE.out]; omega), List.take_of_length_le (by rw [List.length_reverse, HE.out]; omega), foldP_rev (by rw [ents_keys]; exact HN.out)] at R
            clear hla hlb
            generalize foldP (ds.map Deed.ent) = F at R hfl
            obtain ⟨A4, cap4, c4⟩ := ref_cell R.out.ref
            have hkeep := And.intro R.out c4
            go_wp2_with fail
            go_region_held3 (fun w' => C.Pair w w' ga gb gr F F F (.slice Ao ds.length co) ds ∧ w'.cell? ⟨gr, 0, none⟩ = some (.slice A4 F.length cap4)) (first | exact pair_draw (by assumption) | exact pair_draws (by assumption) _ | exact pair_turnA (by assumption) (by assumption) (by assumption) | exact pair_turnB (by assumption) (by assumption) (by assumption) | exact pair_below (by assumption) (by assumption) | assumption)
              (first
                | (go_at_call 14; refine (all_ab (C := C) (w0 := w) (ga := ga) (gb := gb) (gr := gr) (F := F) (vo := .slice Ao ds.length co) (xs := ds) (V := .slice A4 F.length cap4) (by assumption) (by omega) (by first | exact .inl rfl | exact .inr rfl)).mono ?_; rintro e w8 ⟨⟨v3, rfl, m3, _⟩, hc8, t8⟩)
                | (go_at_call 13; refine (same_pair (C := C) (w0 := w) (ga := ga) (gb := gb) (gr := gr) (F := F) (vo := .slice Ao ds.length co) (xs := ds) (V := .slice A4 F.length cap4) (by assumption) (by assumption)).mono ?_; rintro e w9 ⟨rfl, d9, rfl⟩)
                | (go_at_call 16; refine (lives_any C _).mono ?_; rintro e wl ⟨rfl, bl⟩))
            all_goals
              rename_i hH
              have R2 := Lib.hid hH.1
              go_wp2_with fail
              go_ret
              exact ⟨rfl, R2.out.below⟩
end Go.Proofs.Ytkbmkbmbkmeenaa
