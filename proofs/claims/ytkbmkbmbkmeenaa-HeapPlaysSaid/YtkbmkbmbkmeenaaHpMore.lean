/-
  The heap's First, Clear.
-/
import Derived.Test.YtkbmkbmbkmeenaaHpCode
namespace Go.Proofs.Ytkbmkbmbkmeenaa
set_option maxRecDepth 20000
open Go.RowKit
set_option linter.unusedVariables false
set_option linter.unusedSimpArgs false
variable {w w' : World} {g mb : Nat} {v v' : Value} {es es' l : List Ent} {D D' : Dm}

/-- An entry is laid into a block that is new. -/
theorem box_put {w0 w : World} {B : Nat} {a0 a1 : Value} (h : w.heap[B]? = some (.cells #[a0, a1] 45 (0, 0))) (hb : Below w0.heap.size w0 w) (hB : w0.heap.size ≤ B) (x : Ent) :
    ((w.setCell ⟨B, 0, none⟩ (.int .i64 x.tick)).setCell ⟨B, 1, none⟩ (.string x.key)).cell? ⟨B, 0, none⟩ = some (.int .i64 x.tick) ∧ ((w.setCell ⟨B, 0, none⟩ (.int .i64 x.tick)).setCell ⟨B, 1, none⟩ (.string x.key)).cell? ⟨B, 1, none⟩ = some (.string x.key) ∧ Below w0.heap.size w0 ((w.setCell ⟨B, 0, none⟩ (.int .i64 x.tick)).setCell ⟨B, 1, none⟩ (.string x.key)) := by
  obtain ⟨cur, z1, z2, z3⟩ := sm_at B 45 [.int .i64 x.tick, .string x.key] 0 w _ h (Nat.le_refl 2)
  simp only [World.setCells] at z1
  refine ⟨?_, ?_, hb.grown (sm_grown w B 0 [.int .i64 x.tick, .string x.key]) hb.size (fun k hk => by injection hk with hk; omega)⟩
  · rw [cell_at z1 0, ← Array.getElem?_toList, z3]; rfl
  · rw [cell_at z1 1, ← Array.getElem?_toList, z3]; rfl

theorem first_nil (h : CHc w g []) : Calls Try.prog 18 #[.pointer (some ⟨g, 0, none⟩)] w fun e w' => e = .returned (.tuple #[.agg #[.int .i64 0, .string ⟨#[]⟩], .bool false]) ∧ CHc w' g [] ∧ TurnC ownC w w' g := by
  obtain ⟨v, mb, es, D, hs⟩ := h
  have hlen := hs.len
  obtain ⟨A, cap, rfl, h1, h2, h3⟩ := hs.st.row.shape
  have hb := Below.alloc (Below.refl w.heap.size w) (Nat.le_refl _) (.cells #[.int .i64 0, .string ⟨#[]⟩] 45)
  have H := Lib.hid hs
  have H1 := Lib.hid (hs.below hb)
  have HB := Lib.hid (heap_alloc_new w (.cells #[.int .i64 0, .string ⟨#[]⟩] 45))
  have HF := Lib.hid (box_put HB.out hb (Nat.le_refl _) ⟨0, ⟨#[]⟩⟩)
  clear hs h1 h3 hb
  simp only [List.length_nil] at hlen
  rw [hlen] at H1
  go_enter Try.func18, Try.ntmps18
  go_upto_region 1 with (fail)
  generalize w.alloc _ = w1 at H1 HF HB ⊢
  generalize hB : w.heap.size = B at HB HF ⊢
  have c0 := H1.out.st.c0
  have r0 : w1.cell? ⟨B, 0, none⟩ = some (.int .i64 0) := cell_at HB.out 0
  have r1 : w1.cell? ⟨B, 1, none⟩ = some (.string ⟨#[]⟩) := cell_at HB.out 1
  have f0 : w1.frozen? ⟨B, 0, none⟩ = false := free_at HB.out 0
  have f1 : w1.frozen? ⟨B, 1, none⟩ = false := free_at HB.out 1
  go_wp2_with fail
  clear r0 r1 f0 f1
  generalize World.setCell _ _ _ = w9 at HF ⊢
  obtain ⟨g0, g1, g2⟩ := HF.out
  rw [← hB] at g2
  refine bodyPost_ret (v := .tuple #[.agg #[.int .i64 0, .string ⟨#[]⟩], .bool false]) ?_ rfl ⟨rfl, ⟨_, _, _, _, H.out.below g2⟩, turnC_below H.out.st g2⟩
  simp [results, Try.results18, go_sem, g0, g1]

set_option maxHeartbeats 400000 in
theorem first_cons {x : Ent} {r : List Ent} (h : CHc w g (x :: r)) (hl : (x :: r).length ≤ 100) : Calls Try.prog 18 #[.pointer (some ⟨g, 0, none⟩)] w fun e w' => e = .returned (.tuple #[.agg #[.int .i64 x.tick, .string x.key], .bool true]) ∧ CHc w' g (x :: r) ∧ TurnC ownC w w' g := by
  obtain ⟨v, mb, es, D, hs⟩ := h
  have hlen := hs.len
  simp only [List.length_cons] at hlen hl
  have hi : 0 < es.length := by omega
  have hx := hs.heap.first hs.perm hs.row rfl
  obtain ⟨b, off, cap, rfl, hc1, hc2⟩ := hs.st.slice hi
  unfold maxLen at hc2
  have hix := index_any (P := Try.prog) knC (by decide) (b := b) (off := off) (cap := cap) hi
  simp only [LC] at hix
  have hb := Below.alloc (Below.refl w.heap.size w) (Nat.le_refl _) (.cells #[.int .i64 0, .string ⟨#[]⟩] 45)
  have hok := (hs.ok x List.mem_cons_self).1
  have H := Lib.hid hs
  have H1 := Lib.hid (hs.below hb)
  have HB := Lib.hid (heap_alloc_new w (.cells #[.int .i64 0, .string ⟨#[]⟩] 45))
  have B1 := Lib.hid hb
  have q1 : ((es.length : Int) == 0) = false := by rw [beq_eq_false_iff_ne]; omega
  have HX := Lib.hid hx
  clear hs hb hx hlen
  go_enter Try.func18, Try.ntmps18
  go_upto_region 1 with (fail)
  generalize w.alloc _ = w1 at H1 HB B1 ⊢
  generalize hB : w.heap.size = B at HB B1 ⊢
  have c0 := H1.out.st.c0
  obtain ⟨d0, d1⟩ := H1.out.st.ent hi
  rw [HX.out] at d0 d1
  simp only [Nat.zero_mul, Nat.add_zero] at d0 d1
  go_wp2_with fail
  go_at_call 30
  refine (own_any x w1 hok).mono ?_
  rintro e w2 ⟨rfl, hb2⟩
  replace HB := Lib.hid ((hb2.block B (smem_lt HB.out)).trans HB.out)
  have B2 := Lib.hid (B1.out.trans (hb2.mono (by rw [← hB]; have := B1.out.size; omega)))
  have HF := Lib.hid (box_put (w0 := w) HB.out (by rw [hB]; exact B2.out) (by omega) x)
  have r0 : w2.cell? ⟨B, 0, none⟩ = some (.int .i64 0) := cell_at HB.out 0
  have r1 : w2.cell? ⟨B, 1, none⟩ = some (.string ⟨#[]⟩) := cell_at HB.out 1
  have f0 : w2.frozen? ⟨B, 0, none⟩ = false := free_at HB.out 0
  have f1 : w2.frozen? ⟨B, 1, none⟩ = false := free_at HB.out 1
  clear hb2 c0 d0 d1 hix
  go_wp2_with fail
  clear r0 r1 f0 f1
  generalize World.setCell _ _ _ = w9 at HF ⊢
  obtain ⟨g0, g1, g2⟩ := HF.out
  refine bodyPost_ret (v := .tuple #[.agg #[.int .i64 x.tick, .string x.key], .bool true]) ?_ rfl ⟨rfl, ⟨_, _, _, _, H.out.below g2⟩, turnC_below H.out.st g2⟩
  simp [results, Try.results18, go_sem, g0, g1]
theorem first_any (h : CHc w g l) (hl : l.length ≤ 100) : Calls Try.prog 18 #[.pointer (some ⟨g, 0, none⟩)] w fun e w' => e = .returned (.tuple #[(firstE l).val, .bool (decide (l ≠ []))]) ∧ CHc w' g l ∧ TurnC ownC w w' g := by
  cases l with
  | nil => exact first_nil h
  | cons x r => exact first_cons h hl

/-- The map is cleared. -/
theorem clear_map (h : HSt w g v mb es D) : ∃ w', (∀ ty, (Builtin.clear_ #[58] ty #[.map (some mb)]).run Try.prog w = .ok (.tuple #[]) w') ∧ HSt w' g v mb es (.map []) ∧ Turns (own3 g v mb) w w' := by
  obtain ⟨xs, clock, hb⟩ := h.map.is
  have ho : Own (ChangeMaps.setBlock w mb (.map #[] clock)) mb 0 (.map []) := ⟨#[], clock, ChangeMaps.heap_setBlock_same hb _, ⟨by simp, MapKept.stamped_empty clock, by simp⟩, Nat.le_refl _, rfl⟩
  have ht : w.mapTurned (ChangeMaps.setBlock w mb (.map #[] clock)) mb := ⟨xs, clock, #[], clock, hb, rfl⟩
  exact ⟨_, fun ty => by simp [Builtin.clear_, run_underlying Try.underlying58, MapKept.run_getObj_map hb, MapKept.run_setObj_map _ hb, Result.andThen, ChangeMaps.setBlock], h.maps ho ht, Turns.maps ht⟩
theorem zeroEnt (w : World) : (zeroValue 45).run Try.prog w = .ok (.agg #[.int .i64 0, .string ⟨#[]⟩]) w := by kernel_rfl
/-- The row is cleared. -/
theorem clear_row {b off cap : Nat} (h : HSt w g (.slice (some ⟨b, off, none⟩) es.length cap) mb es D) : ∃ us : List Value, us.length = es.length * 2 ∧ ∀ ty, (Builtin.clear_ #[37] ty #[.slice (some ⟨b, off, none⟩) es.length cap]).run Try.prog w = .ok (.tuple #[]) (w.setCells b off us) := by
  rcases h.row with ⟨hv, _⟩ | ⟨b', off', cap', cur, hv, _, hh, h1, h2, h3, h4⟩
  · cases hv
  · injection hv with e1 e2 e3
    injection e1 with e1
    injection e1 with e4 e5 _
    subst e4 e5 e3
    rw [show LC.c = 2 from rfl] at h3
    generalize es.length = n at *
    cases n with
    | zero => exact ⟨[], rfl, fun ty => by simp [Builtin.clear_, run_underlying Try.underlying37, World.setCells]⟩
    | succ m =>
      have hl : (Builtin.zeroCells #[Value.int .i64 0, .string ⟨#[]⟩] (m + 1)).toList.length = (m + 1) * 2 := by rw [Array.length_toList, size_zeroCells]; rfl
      refine ⟨(Builtin.zeroCells #[Value.int .i64 0, .string ⟨#[]⟩] (m + 1)).toList, hl, fun ty => ?_⟩
      have hst := run_storeCells_cells (P := Try.prog) b off (Builtin.zeroCells #[Value.int .i64 0, .string ⟨#[]⟩] (m + 1)).toList 0 w
        (fun j hj => by
          rw [hl] at hj
          rw [Nat.add_zero, cell_of_row w b _ cur _ _ hh, Array.getElem?_eq_getElem (by omega)]
          rfl)
        (fun j hj => by simp [World.frozen?, hh])
        (fun u hu => by
          simp only [Builtin.zeroCells, Array.toList_map, List.mem_map] at hu
          obtain ⟨j, _, rfl⟩ := hu
          have : j % 2 = 0 ∨ j % 2 = 1 := by omega
          rcases this with e | e
          · simp only [List.size_toArray, List.length_cons, List.length_nil, e]; rfl
          · simp only [List.size_toArray, List.length_cons, List.length_nil, e]; rfl)
      rw [Nat.add_zero] at hst
      simp only [Builtin.clear_, run_underlying Try.underlying37, Sem.run_bind, Sem.run_pure, Result.andThen_ok]
      simp [zeroEnt, Value.cells, hst, Result.andThen]
theorem HSt.cleared {b off cap : Nat} (h : HSt w g (.slice (some ⟨b, off, none⟩) es.length cap) mb es D) (us : List Value) (hu : us.length = es.length * 2) : HSt ((w.setCells b off us).setCell ⟨g, 0, none⟩ (.slice (some ⟨b, off, none⟩) 0 cap)) g (.slice (some ⟨b, off, none⟩) 0 cap) mb [] D := by
  obtain ⟨a1, a2⟩ := h.apart b rfl
  have hg : (w.setCells b off us).heap[g]? = some (.cells #[.slice (some ⟨b, off, none⟩) es.length cap, .map (some mb)] 60 (0, 0)) := (sm_far b g (fun e => a1 e.symm) _ _ _).trans h.hd
  rcases h.row with ⟨hv, _⟩ | ⟨b', off', cap', cur, hv, h0, hh, h1, h2, h3, h4⟩
  · cases hv
  · injection hv with e1 e2 e3
    injection e1 with e1
    injection e1 with e4 e5 _
    subst e4 e5 e3
    rw [show LC.c = 2 from rfl] at h3
    obtain ⟨cur', r1, r2, r3⟩ := sm_at b LC.e us off w cur hh (by omega)
    refine ⟨by rw [heap_set hg]; rfl, .inr ⟨b, off, cap, cur', rfl, h0, (Below.heap_setCell _ _ _ b a1).trans r1, Nat.zero_le _, h2, by rw [show LC.c = 2 from rfl]; omega, by simp [Lies.vs]⟩, ?_⟩
    exact Own.keep h.map ((Below.heap_setCell _ _ _ mb (fun e => h.gm e.symm)).trans (sm_far b mb (fun e => a2 e.symm) _ _ _))

theorem cleared_fin {w2 : World} {v2 : Value} (H : HSt w g v mb es D) (h2 : HSt w2 g v2 mb [] (.map [])) (t2 : Turns (own3 g v mb) w w2) (o2 : v2.ownBlock = v.ownBlock) : CHc w2 g [] ∧ TurnC ownC w w2 g :=
  ⟨⟨_, _, _, _, h2, List.Perm.refl _, row_nil, (fun x hx => by cases hx), pl_nil, fun c _ hc => absurd hc (Nat.not_lt_zero c)⟩, turnC_same H h2 t2 o2⟩
theorem clear_any (h : CHc w g l) (hl : l.length ≤ 100) : Calls Try.prog 28 #[.pointer (some ⟨g, 0, none⟩)] w fun e w' => e = .returned (.tuple #[]) ∧ CHc w' g [] ∧ TurnC ownC w w' g := by
  obtain ⟨v, mb, es, D, hs⟩ := h
  have c0 := hs.st.c0
  have H := Lib.hid hs
  rcases hs.st.row with ⟨rfl, rfl⟩ | ⟨b, off, cap, cur, rfl, _, _, h1, h2, _⟩
  · have hcl : ∀ ty, (Builtin.clear_ #[37] ty #[.slice none 0 0]).run Try.prog w = .ok (.tuple #[]) w := fun ty => by simp [Builtin.clear_, run_underlying Try.underlying37]
    have f0 := hs.st.f0
    have hs1 := slice_high (P := Try.prog) knC none 0 0 0 (Nat.le_refl _)
    rw [show sliced none 0 0 0 LC.c = .slice none 0 0 from rfl] at hs1
    have h2 : HSt (w.setCell ⟨g, 0, none⟩ (.slice none 0 0)) g (.slice none 0 0) mb [] D := ⟨by rw [heap_set hs.st.hd]; rfl, .inl ⟨rfl, rfl⟩, Own.keep hs.st.map (Below.heap_setCell w _ _ mb (fun e => hs.st.gm e.symm))⟩
    have T2 := Lib.hid (Turns.cell (w := w) (g := g) (v := .slice none 0 0) (mb := mb) (.slice none 0 0) 0)
    have H2 := Lib.hid h2
    clear hs h2
    go_enter Try.func28, Try.ntmps28
    go_upto_region 2 with (fail)
    clear c0 f0
    generalize World.setCell _ _ _ = w2 at H2 T2 ⊢
    have c1 := H2.out.c1
    obtain ⟨w3, hr, h3, t3⟩ := clear_map H2.out
    have R := Lib.hid (cleared_fin H.out.st h3 (T2.out.trans t3) rfl)
    clear h3 t3
    go_wp2_with fail
    go_end0
    exact ⟨rfl, R.out⟩
  · unfold maxLen at h2
    obtain ⟨us, hu, hcl⟩ := clear_row hs.st
    have hs1 := slice_high (P := Try.prog) knC (some ⟨b, off, none⟩) es.length cap 0 (Nat.zero_le _)
    rw [show LC.c = 2 from rfl, sliced_zero] at hs1
    have a1 := (hs.st.apart b rfl).1
    have hg : (w.setCells b off us).heap[g]? = some (.cells #[.slice (some ⟨b, off, none⟩) es.length cap, .map (some mb)] 60 (0, 0)) := (sm_far b g (fun e => a1 e.symm) _ _ _).trans hs.st.hd
    have H2 := Lib.hid (hs.st.cleared us hu)
    have T2 := Lib.hid ((Turns.cells (w := w) (g := g) (v := .slice (some ⟨b, off, none⟩) es.length cap) (mb := mb) b off us rfl).trans (Turns.cell (.slice (some ⟨b, off, none⟩) 0 cap) 0))
    have c0' : (w.setCells b off us).cell? ⟨g, 0, none⟩ = some (.slice (some ⟨b, off, none⟩) es.length cap) := cell_at hg 0
    have f0' : (w.setCells b off us).frozen? ⟨g, 0, none⟩ = false := free_at hg 0
    clear hs hg hu a1
    generalize w.setCells b off us = w1 at *
    go_enter Try.func28, Try.ntmps28
    go_upto_region 2 with (fail)
    clear c0 c0' f0' hcl hs1
    generalize World.setCell _ _ _ = w2 at H2 T2 ⊢
    have c1 := H2.out.c1
    obtain ⟨w3, hr, h3, t3⟩ := clear_map H2.out
    have R := Lib.hid (cleared_fin H.out.st h3 (T2.out.trans t3) rfl)
    clear h3 t3
    go_wp2_with fail
    go_end0
    exact ⟨rfl, R.out⟩
end Go.Proofs.Ytkbmkbmbkmeenaa
