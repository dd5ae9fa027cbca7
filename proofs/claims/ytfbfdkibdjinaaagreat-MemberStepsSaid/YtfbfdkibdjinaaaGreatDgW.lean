/-
  The library's AppendSeq over a map's values, at the code's map of nodes: a row of one's own that holds each node once.
-/
import Derived.Test.YtfbfdkibdjinaaaGreatDgV
import Derived.RangeFuncBox
import Derived.RangeFuncWrites
import Derived.Maps.AppendAt
namespace Go.Proofs.YtfbfdkibdjinaaaGreat
set_option maxRecDepth 20000
open Go.RowKit Go.Maps Go.Sort Go.Shelf Go.WideElems Go.WideShapes
set_option linter.unusedVariables false
set_option linter.unusedSimpArgs false
attribute [local go_sem] Oper.semAt_some

/-- How nodes lie. -/
def LN : Lies NdV := ⟨78, 7, NdV.cells, fun _ => rfl, fun x u hu => by
  simp only [NdV.cells, EvV.pv, List.mem_cons, List.not_mem_nil, or_false] at hu
  rcases hu with rfl | rfl | rfl | rfl | rfl | rfl | rfl <;> rfl⟩
theorem knN : Kn Tryz.prog LN 98 zeroN 104 := ⟨Tryz.underlying98, by kernel_rfl, rfl, by decide⟩
theorem fill_nd (x : NdV) : Instr.fill (fun i => some (i * 7, 7)) ((Array.range (1 * 7)).map (zeroN.cells[· % zeroN.cells.size]!)) [(0, x.val)] = some x.cells.toArray := by
  obtain ⟨⟨ev, A, cap⟩, d⟩ := x
  kernel_rfl
theorem build_nd (x : NdV) (w : World) : (Instr.buildSlice 98 1 #[(0, x.val)]).run Tryz.prog w = .ok (.slice (some ⟨w.heap.size, 0, none⟩) 1 1) (w.alloc (.cells x.cells.toArray 78)) := by
  obtain ⟨i0, hi0, hz0, hz1, hz2⟩ := info_parts knN.info
  refine run_buildSlice w 98 78 1 _ _ i0 _ Tryz.underlying98 hi0 hz0 (by rw [hz1]; decide) (by rw [hz1]; decide) ?_
  rw [hz1]
  exact fill_nd x
theorem wpListIn_append_run {F : Fence} {n : Nat} {P : Program} (w : World) {ops : Array Oper} {rest : List Oper} {o : Oper} {a : Act} {Q : Exit → Act → World → Prop}
    (hg : o.guard = none) (s x : Operand) (t : TypeId) (hop : o.op = Op.call { callee := Callee.builtin Builtin.append, args := #[s, x], argTypes := #[t, t] })
    (v xv v' : Value) (w' : World) (hs : a.eval s = v) (hx : a.eval x = xv) (hrun : (Builtin.append_ #[t, t] o.type #[v, xv]).run P w = .ok v' w') (hK : wpListIn F n P ops Q rest (a.put o.dst v') w') :
    wpListIn F n P ops Q (o :: rest) a w := by
  refine wpListIn_plain hg fun K hK' => ?_
  unfold Oper.wpIn
  refine ⟨?_, ?_⟩
  · simp [Oper.about, hop, resolve, Target.leads, Sem.run_pure]
  · rw [Oper.semAt_plain F _ _ (by rw [hop]; intro c hc'; cases hc')]
    simp [execOp, hop, resolve, invoke, builtin, hs, hx, hrun, Result.andThen]
    exact hK' _ _ hK
theorem values_in (F : Fence) (n : Nat) (hf : F.fn 86) (hro : F.round = none) (mb : Option Nat) (w : World) :
    CallsIn F n Tryz.prog 86 #[.map mb] w fun e w' => e = .returned (.func (.func 107) #[] #[.pointer (some ⟨w.heap.size, 0, none⟩)]) ∧ w' = w.alloc (.cells #[.map mb] 70) := by
  refine callsIn_of_wp Tryz.func86 rfl hf ?_ hro
  simp only [Tryz.ntmps86, List.size_toArray, List.length_cons, List.length_nil, Nat.reduceAdd, Nat.reduceSub, Array.replicate_succ, Array.replicate_zero, List.push_toArray, List.append_toArray, List.nil_append, List.cons_append]
  gi_wp2
  go_ret
  exact ⟨rfl, rfl⟩
theorem values_stops {ns : List NdV} (F : Fence) (n : Nat) (h7 : F.fn 107) (hro : F.round = none) (hn : 1 ≤ n) (Bm b nn : Nat) (D0 : Dv) (w : World) (hBm : Bm < w.heap.size)
    (hm : w.cell? ⟨Bm, 0, none⟩ = some (.map (some b))) (hown : w.ownsMap Tryz.prog 9 (ndR ns) b nn D0) :
    SeqStopsK F n Tryz.prog 107 #[.pointer (some ⟨Bm, 0, none⟩)] (fun c : Nd ns => #[c.1.val]) KeepsWalks (fun xs => ∃ ps, AllOf D0 (ns := ns) ps ∧ xs = ps.map (·.2)) (fun _ => True) (Maps.size D0) w := fun l J Jx W hW hJ _ hY h0 => by
  have hown' : W.ownsMap Tryz.prog 9 (ndR ns) b nn D0 := by
    have hbl := hown.lt
    obtain ⟨es, clock, hb, Ft, hs, hD⟩ := hown
    exact ⟨es, clock, (hW.block b hbl).trans hb, Ft, hs, hD⟩
  exact values1_in F n h7 hro hn l Bm b nn D0 J Jx hY W hJ ((hW.cell (p := ⟨Bm, 0, none⟩) hBm).trans hm) hown' h0
/-- What has been collected, in a box of one's own. -/
def Got {ns : List NdV} (w : World) (B2 : Nat) (pre : List (Nd ns)) (W : World) : Prop := (∃ v, Boxed W B2 98 v ∧ LN.Mine W w.heap.size v (pre.map (·.1))) ∧ Below w.heap.size w W
theorem got_own {ns : List NdV} {w : World} {B2 B : Nat} (hB : w.heap.size ≤ B) : OwnFrom B (Got (ns := ns) w B2) := by
  rintro s W W' row ⟨⟨v, hv, hm⟩, hb⟩ hg hr
  refine ⟨⟨v, hv.kept hg (fun e => ?_), hm.grown hg (fun k hk e => ?_)⟩, hb.grown hg hb.size (fun k e => Nat.le_trans hB (hr k e).1)⟩
  · obtain ⟨o, ho, hc⟩ := (hr B2 e.symm).2
    rw [show W.heap[B2]? = _ from hv] at ho
    cases ho
    cases hc
  · obtain ⟨o, ho, hc⟩ := (hr k e.symm).2
    rcases hm with ⟨hm, _⟩ | ⟨g, off, cap, cur, hm, _, hh, _⟩
    · rw [hm] at hk; cases hk
    · rw [hm] at hk
      simp only [Value.ownBlock, Option.some.injEq] at hk
      subst hk
      rw [hh] at ho
      cases ho
      cases hc

set_option maxRecDepth 100000 in
set_option maxHeartbeats 4000000 in
theorem appendSeq_in {ns : List NdV} (F : Fence) (n : Nat) (h3 : F.fn 124) (h7 : F.fn 107) (hro : F.round = none) (hn : 3 ≤ n) (Bm b nn : Nat) (D0 : Dv) (w : World) (hBm : Bm < w.heap.size)
    (hm : w.cell? ⟨Bm, 0, none⟩ = some (.map (some b))) (hown : w.ownsMap Tryz.prog 9 (ndR ns) b nn D0) (hsz : Maps.size D0 ≤ 1000) :
    CallsIn F n Tryz.prog 124 #[.slice none 0 0, .func (.func 107) #[] #[.pointer (some ⟨Bm, 0, none⟩)]] w fun e W' => ∃ v ps, e = .returned v ∧ AllOf D0 (ns := ns) ps ∧ LN.Mine W' w.heap.size v (ps.map (fun p => p.2.1)) ∧ Below w.heap.size w W' := by
  have h1 : 1 ≤ n := by omega
  refine callsIn_of_wp_marks Tryz.func124 rfl h3 ?_ hro
  simp only [Tryz.ntmps124, List.size_toArray, List.length_cons, List.length_nil, Nat.reduceAdd, Nat.reduceSub, Array.replicate_succ, Array.replicate_zero, List.push_toArray, List.append_toArray, List.nil_append, List.cons_append]
  gi_wp2
  have bO := Boxed.new w 98 (.slice none 0 0)
  have hB0 := below_new w (.cells #[.slice none 0 0] 98)
  have hsz1 : (w.alloc (.cells #[.slice none 0 0] 98)).heap.size = w.heap.size + 1 := by simp
  have hstop := values_stops (ns := ns) F (n - 1) h7 hro (by omega) Bm b nn D0 (w.alloc (.cells #[.slice none 0 0] 98)) (by omega) ((hB0.cell (p := ⟨Bm, 0, none⟩) hBm).trans hm) (hown.alloc _)
  generalize w.alloc _ = w1 at bO hB0 hsz1 hstop ⊢
  refine wpIn_rangeFunc_ownH hro h1 (gf := 107) (lb := #[.pointer (some ⟨Bm, 0, none⟩)]) rfl h7 (enters_of Tryz.func107 (by kernel_rfl) rfl)
    hstop walksK_t walksK_b (Below.refl _ _) (fun _ => rfl)
    (Got w w.heap.size) (fun _ _ _ => False) (got_own (by omega)) (fun _ _ _ _ _ hs _ _ => hs) ⟨⟨_, bO, .inl ⟨rfl, rfl⟩⟩, hB0⟩
    (fun x a' W => ∃ Bx, w.heap.size < Bx ∧ W.heap[Bx]? = some (.cells #[.string x.1.x.ev.id, .string x.1.x.ev.room, .slice x.1.x.A x.1.x.ev.parents.length x.1.x.cap, .string x.1.x.ev.thread, .string x.1.x.ev.user, .int .i64 x.1.x.ev.does, .int .i64 (x.1.d : Int)] 78 (0, 0)) ∧ a' = { tmps := #[.slice none 0 0, .func (.func 107) #[] #[.pointer (some ⟨Bm, 0, none⟩)], .pointer (some ⟨w.heap.size, 0, none⟩), undef, .slice none 0 0, .pointer (some ⟨Bx, 0, none⟩), .func (.func 107) #[] #[.pointer (some ⟨Bm, 0, none⟩)], .agg #[.string x.1.x.ev.id, .string x.1.x.ev.room, .slice x.1.x.A x.1.x.ev.parents.length x.1.x.cap, .string x.1.x.ev.thread, .string x.1.x.ev.user, .int .i64 x.1.x.ev.does, .int .i64 (x.1.d : Int)], undef, undef, undef, undef, undef], defers := [] })
    ?ax ?assign ?body ?done ?stop
  case ax =>
    rintro x a' s W W' row ⟨Bx, hlt, hb, rfl⟩ hg hr
    refine ⟨Bx, hlt, (hg.block Bx (smem_lt hb) (fun e => ?_)).trans hb, rfl⟩
    obtain ⟨o, ho, hc⟩ := (hr Bx e.symm).2
    rw [hb] at ho
    cases ho
    cases hc
  case assign =>
    rintro l pre x W K hi hK
    unfold NdV.val EvV.pv
    have hle := hi.2.size
    obtain ⟨⟨v, hv, hmm⟩, hb⟩ := hi
    have hlt := hv.lt
    gi_wp2
    exact hK _ _ ((KeepsOthers.alloc _ _).from _) (KeepsWalks.alloc _ _) ⟨⟨v, hv.alloc _, hmm.below (below_new W _)⟩, hb.trans ((below_new W _).mono hle)⟩ ⟨W.heap.size, hlt, heap_alloc_new W _, rfl⟩
  case body =>
    rintro l pre x a' W hl ⟨r, hr⟩ ⟨⟨v, hv, hmm⟩, hb⟩ ⟨Bx, hBx, bX, rfl⟩ hlt
    have hle := hb.size
    have hpl : (pre.map (·.1)).length ≤ 1000 := by rw [List.length_map]; omega
    obtain ⟨ms, hms⟩ : ∃ ms, pre.map (·.1) = ms := ⟨_, rfl⟩
    rw [hms] at hmm hpl
    have HMS := Lib.hid hms
    clear hms
    have p0 : W.cell? ⟨Bx, 0, none⟩ = some (.string x.1.x.ev.id) := cell_at bX 0
    have p1 : W.cell? ⟨Bx, 1, none⟩ = some (.string x.1.x.ev.room) := cell_at bX 1
    have p2 : W.cell? ⟨Bx, 2, none⟩ = some (.slice x.1.x.A x.1.x.ev.parents.length x.1.x.cap) := cell_at bX 2
    have p3 : W.cell? ⟨Bx, 3, none⟩ = some (.string x.1.x.ev.thread) := cell_at bX 3
    have p4 : W.cell? ⟨Bx, 4, none⟩ = some (.string x.1.x.ev.user) := cell_at bX 4
    have p5 : W.cell? ⟨Bx, 5, none⟩ = some (.int .i64 x.1.x.ev.does) := cell_at bX 5
    have p6 : W.cell? ⟨Bx, 6, none⟩ = some (.int .i64 (x.1.d : Int)) := cell_at bX 6
    have S5 : LN.Slice (W.alloc (.cells #[.string x.1.x.ev.id, .string x.1.x.ev.room, .slice x.1.x.A x.1.x.ev.parents.length x.1.x.cap, .string x.1.x.ev.thread, .string x.1.x.ev.user, .int .i64 x.1.x.ev.does, .int .i64 (x.1.d : Int)] 78)) (.slice (some ⟨W.heap.size, 0, none⟩) 1 1) [x.1] := lit_slice (L := LN) W x.1 W.heap.size rfl #[.string x.1.x.ev.id, .string x.1.x.ev.room, .slice x.1.x.A x.1.x.ev.parents.length x.1.x.cap, .string x.1.x.ev.thread, .string x.1.x.ev.user, .int .i64 x.1.x.ev.does, .int .i64 (x.1.d : Int)] rfl
    have hbn := below_new W (.cells #[.string x.1.x.ev.id, .string x.1.x.ev.room, .slice x.1.x.A x.1.x.ev.parents.length x.1.x.cap, .string x.1.x.ev.thread, .string x.1.x.ev.user, .int .i64 x.1.x.ev.does, .int .i64 (x.1.d : Int)] 78)
    have hv1 := hv.alloc (.cells #[.string x.1.x.ev.id, .string x.1.x.ev.room, .slice x.1.x.A x.1.x.ev.parents.length x.1.x.cap, .string x.1.x.ev.thread, .string x.1.x.ev.user, .int .i64 x.1.x.ev.does, .int .i64 (x.1.d : Int)] 78)
    have hm1 := hmm.below hbn
    have hb1 := hb.trans (hbn.mono hle)
    have hko := KeepsOthers.alloc W (.cells #[.string x.1.x.ev.id, .string x.1.x.ev.room, .slice x.1.x.A x.1.x.ev.parents.length x.1.x.cap, .string x.1.x.ev.thread, .string x.1.x.ev.user, .int .i64 x.1.x.ev.does, .int .i64 (x.1.d : Int)] 78)
    have hc := hv.cell
    clear hv hmm hb bX
    have hsz1' := hb1.size
    obtain ⟨A6, c6, w6, hr6, m6, g6, o6⟩ := hm1.put knN 98 98 hsz1' (.slice (some ⟨W.heap.size, 0, none⟩) 1 1) 1 rfl (S5.srcN knN rfl) (by omega)
    have hne : some w.heap.size ≠ v.ownBlock := by
      rcases id hm1 with ⟨hx, _⟩ | ⟨gg, off, cap, cur, hx, _, hh, _⟩
      · rw [hx]; exact fun e => by cases e
      · rw [hx]
        intro e
        simp only [Value.ownBlock, Option.some.injEq] at e
        rw [← e, show (W.alloc _).heap[w.heap.size]? = _ from hv1] at hh
        injection hh with hh
        injection hh with _ hh
        exact absurd hh (by decide)
    have hv6 := hv1.kept g6 hne
    have f6 := hv6.frozen
    have c6' := hv6.cell
    have hko6 : KeepsOthers (W.alloc _) w6 := KeepsOthers.of_grownBy g6 (fun j o hj ho => by
      rcases id hm1 with ⟨hx, _⟩ | ⟨gg, off, cap, cur, hx, _, hh, _⟩
      · rw [hx] at hj; cases hj
      · rw [hx] at hj
        simp only [Value.ownBlock, Option.some.injEq] at hj
        rw [← hj, hh] at ho
        cases ho
        rfl)
    obtain ⟨Av, cv, hvs, -⟩ := hm1.shape
    have hb6 : RowKit.Below w.heap.size w w6 := hb1.grown g6 hb1.size (fun k hk => (hm1.lt k hk).1)
    have hne6 : ∀ k, (Value.slice A6 (ms.length + 1) c6).ownBlock = some k → k ≠ w.heap.size := by
      intro k hk e
      subst e
      rcases m6 with ⟨hx, _⟩ | ⟨gg, off, cap, cur, hx, _, hh, _⟩
      · rw [hx] at hk; cases hk
      · rw [hx] at hk
        simp only [Value.ownBlock, Option.some.injEq] at hk
        rw [hk, show w6.heap[w.heap.size]? = _ from hv6] at hh
        injection hh with hh
        injection hh with _ hh
        exact absurd hh (by decide)
    subst hvs
    clear hlt hpl S5 hbn hm1 hb1 hv1 g6 o6
    gi_wp2_with (gi_at_builtin; refine wpListIn_append_run _ rfl _ _ 98 rfl _ _ _ _ rfl rfl hr6 ?_)
    refine ⟨(hko.trans (hko6.trans (KeepsOthers.setCell _ _ _))).from _, (hko.trans (hko6.trans (KeepsOthers.setCell _ _ _))).walks, ⟨⟨_, hv6.set _, ?_⟩, hb6.grown (sm_grown w6 w.heap.size 0 [_]) hb6.size (fun k hk => by injection hk with hk; omega)⟩⟩
    have h9 := m6.grown (sm_grown w6 w.heap.size 0 [.slice A6 (ms.length + 1) c6]) (fun k hk e => by injection e with e; exact hne6 k hk e)
    rw [List.map_append, HMS.out]
    exact h9
  case done =>
    rintro D ys W hD ⟨ps, hall, rfl⟩ ⟨⟨v, hv, hmm⟩, hb⟩ hK
    have hc := hv.cell
    obtain ⟨ms, hms⟩ : ∃ ms, (ps.map (·.2)).map (·.1) = ms := ⟨_, rfl⟩
    rw [hms] at hmm
    have HMS := Lib.hid hms
    clear hms
    obtain ⟨Av, cv, hvs, -⟩ := hmm.shape
    subst hvs
    gi_wp2
    refine ⟨by simp, .inl ⟨_, _, rfl, run_takeDeferred hK, ?_⟩⟩
    have hmap : (ps.map (fun p => p.2.1)) = (ps.map (·.2)).map (·.1) := by rw [List.map_map]; rfl
    refine ⟨_, results_tmp rfl _ _ _, _, ps, rfl, hall, ?_, hb.trans (belowK_b (w := w) (Nat.le_refl _) W D _ _ (by omega) hK rfl rfl)⟩
    rw [hmap, HMS.out]
    refine hmm.keep (fun k hk => ?_)
    have hkd : k ≠ D := fun e => by
      subst e
      rcases hmm with ⟨hx, _⟩ | ⟨gg, off, cap, cur, hx, _, hh, _⟩
      · rw [hx] at hk; cases hk
      · rw [hx] at hk
        simp only [Value.ownBlock, Option.some.injEq] at hk
        rw [hk, hK] at hh
        cases hh
    exact (grownBy_putObj' W D (.deferred none)).block k (hmm.lt k hk).2 (fun e => hkd (by injection e))
  case stop =>
    rintro D c pre W _ _ h _
    exact h.elim
end Go.Proofs.YtfbfdkibdjinaaaGreat
