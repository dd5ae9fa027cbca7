/-
  Package dag, heads.
-/
import Derived.Test.YtjiecjpepiknmaaGreatDgM
import Derived.RangeFuncMany
import Derived.RangeFuncLeaves
import Derived.RangeFuncNested
import Derived.Sort.MapsRangeIn
import Derived.Sort.KeysCollected
import Derived.WalkKit
import Derived.OwnWalkIn
import Derived.TacticsInMore
import Derived.RegionIn
import Derived.LoopNIn
import Derived.LoopIn
import Derived.Shelf.Abstract
import Derived.RangeFuncBox
import Derived.RangeFuncWrites
import Derived.Maps.AppendAt
namespace Go.Proofs.YtjiecjpepiknmaaGreat
set_option maxRecDepth 20000
open Go.RowKit Go.Maps Go.Sort Go.Shelf Go.WideElems Go.WideShapes
set_option linter.unusedVariables false
set_option linter.unusedSimpArgs false

open Classical in
/-- How a node of ns reads. -/
noncomputable def ndR (ns : List NdV) (v : Value) : Option (Dv × List MemPlace) := if ∃ n ∈ ns, v = n.val then some (.held v, []) else none
theorem ndR_yes {ns : List NdV} {n : NdV} (hn : n ∈ ns) : ndR ns n.val = some (.held n.val, []) := by
  unfold ndR
  rw [if_pos ⟨n, hn, rfl⟩]
theorem ndR_inv {ns : List NdV} {v : Value} {z : Dv × List MemPlace} (h : ndR ns v = some z) : ∃ n ∈ ns, v = n.val ∧ z = (.held n.val, []) := by
  unfold ndR at h
  split at h
  · rename_i hh
    obtain ⟨n, hn, rfl⟩ := hh
    injection h with h
    exact ⟨n, hn, rfl, h.symm⟩
  · cases h
/-- The map as one of such nodes. -/
theorem OwnN.nodes {w : World} {mb n : Nat} {D : Dv} {ns : List NdV} (h : OwnN w mb n D) (his : NdM D ns) : w.ownsMap Tryz.prog 9 (ndR ns) mb n D := by
  obtain ⟨xs, clock, hb, F, hs, hD⟩ := h
  have hx : ∀ x ∈ xs.toList, ∀ z, heldR x.val = some z → ndR ns x.val = some z := by
    intro x hx z hz
    have hm : rg Tryz.prog 9 heldR x ∈ (xs.toList.map (rg Tryz.prog 9 heldR)).foldr DataW.insert [] := mem_sorted.2 (List.mem_map.2 ⟨x, hx, rfl⟩)
    obtain ⟨nd, hnd, he⟩ := (his.mem hD _).1 hm
    have hv : x.val = nd.val := by
      have h7 := congrArg Prod.snd he
      unfold rg rd at h7
      cases hk : keyOf Tryz.prog 9 x.key with
      | none => simp [hk, NdV.entry] at h7
      | some kk => simpa [hk, heldR, NdV.entry] using h7
    injection hz with hz
    rw [hv, ndR_yes hnd, ← hz, hv]
  have h2 := World.ownsMap_of_fit (R := ndR ns) hb F hx
  rw [← hD] at h2
  exact h2.mono hs
abbrev Nd (ns : List NdV) := { n : NdV // n ∈ ns }
def ValAt {ns : List NdV} (D0 : Dv) (p : List UInt8 × Nd ns) : Prop := ∀ zd, D0.atKey (.string p.1) zd = .held p.2.1.val
/-- All have come. -/
def AllOf (D0 : Dv) {ns : List NdV} (ps : List (List UInt8 × Nd ns)) : Prop := (ps.map (·.1)).Nodup ∧ (∀ x, x ∈ ps.map (·.1) ↔ has D0 (.string x) = true) ∧ ∀ p ∈ ps, ValAt D0 p
theorem all_perm {D0 : Dv} {ns : List NdV} (his : NdM D0 ns) (hn : ((nevs ns).map Ev.id).Nodup) {ps : List (List UInt8 × Nd ns)} (h : AllOf D0 ps) : (ps.map (fun p => p.2.1)).Perm ns := by
  obtain ⟨h1, h2, h3⟩ := h
  have hid : ∀ a ∈ ns, ∀ b ∈ ns, a.x.ev.id = b.x.ev.id → a = b := by
    intro a ha b hb he
    rw [List.nodup_iff_pairwise_ne, List.map_map, List.pairwise_map, List.pairwise_iff_getElem] at hn
    obtain ⟨i, hi, rfl⟩ := List.getElem_of_mem ha
    obtain ⟨j, hj, rfl⟩ := List.getElem_of_mem hb
    rcases Nat.lt_trichotomy i j with hl | hl | hl
    · exact absurd he (hn i j hi hj hl)
    · subst hl; rfl
    · exact absurd he.symm (hn j i hj hi hl)
  have hkey : ∀ p ∈ ps, p.1 = p.2.1.x.ev.id.data.toList := by
    intro p hp
    have hh := (h2 p.1).1 (List.mem_map.2 ⟨p, hp, rfl⟩)
    obtain ⟨es, hD, hperm⟩ := id his
    rw [hD, has_eq, List.any_eq_true] at hh
    obtain ⟨q, hq, hs⟩ := hh
    obtain ⟨nd, hnd, rfl⟩ := (his.mem hD q).1 hq
    have e1 : p.1 = nd.x.ev.id.data.toList := by
      simp only [NdV.entry, kl, Lit.sameKey, beq_iff_eq] at hs
      exact hs.symm
    have h4 := h3 p hp (.held zeroN)
    rw [e1] at h4
    have h5 := his.at_ hn hnd (.held zeroN)
    unfold kl at h5
    rw [h5] at h4
    injection h4 with h4
    have h6 : nd.x.ev.id = p.2.1.x.ev.id := by
      unfold NdV.val at h4
      injection h4 with h4
      have h7 := congrArg (fun a : Array Value => a[0]?) h4
      simpa using h7
    rw [e1, h6]
  have hnd : (ps.map (fun p => p.2.1)).Nodup := by
    rw [List.nodup_iff_pairwise_ne, List.pairwise_map, List.pairwise_iff_getElem] at h1 ⊢
    intro i j hi hj hl e
    exact h1 i j hi hj hl (by rw [hkey _ (List.getElem_mem hi), hkey _ (List.getElem_mem hj), e])
  have hnn : ns.Nodup := by
    rw [List.nodup_iff_pairwise_ne] at hn ⊢
    rw [List.map_map, List.pairwise_map] at hn
    exact hn.imp (fun h e => h (by rw [e]))
  refine (List.perm_ext_iff_of_nodup hnd hnn).2 fun n => ⟨fun hm => ?_, fun hm => ?_⟩
  · obtain ⟨p, _, rfl⟩ := List.mem_map.1 hm
    exact p.2.2
  · have hh : has D0 (.string n.x.ev.id.data.toList) = true := by
      have := his.has n.x.ev.id
      unfold kl at this
      rw [this]
      exact has_iff.2 ⟨n.x.ev, List.mem_map.2 ⟨n, hm, rfl⟩, rfl⟩
    obtain ⟨p, hp, he⟩ := List.mem_map.1 ((h2 _).2 hh)
    refine List.mem_map.2 ⟨p, hp, ?_⟩
    refine hid _ p.2.2 _ hm ?_
    have := hkey p hp
    rw [he] at this
    exact ((key_eq _ _).2 this).symm

set_option maxRecDepth 100000 in
set_option maxHeartbeats 4000000 in
theorem values1_in {ns : List NdV} (F : Fence) (n : Nat) (h8 : F.fn 149) (hro : F.round = none) (hn : 1 ≤ n) (l Bm b nn : Nat) (D0 : Dv) (J Jx : List (Nd ns) → World → Prop)
    (hY : ∀ pre x W, J pre W → pre.length < Maps.size D0 → YieldAt F (n - 1) Tryz.prog l #[x.1.val] W fun e W' =>
      (e = .returned (.bool true) ∧ J (pre ++ [x]) W' ∧ KeepsWalks W W') ∨ (e = .returned (.bool false) ∧ Jx (pre ++ [x]) W'))
    (W : World) (hJ : AbidesFrom W.heap.size J) (hm : W.cell? ⟨Bm, 0, none⟩ = some (.map (some b))) (hown : W.ownsMap Tryz.prog 9 (ndR ns) b nn D0) (h0 : J [] W) :
    CallsIn F n Tryz.prog 149 #[.func (.yield l) #[] #[], .pointer (some ⟨Bm, 0, none⟩)] W fun e W' => (∃ v, e = .returned v) ∧
      ((∃ xs, (∃ ps, AllOf D0 (ns := ns) ps ∧ xs = ps.map (·.2)) ∧ J xs W') ∨ (∃ pre, True ∧ Jx pre W')) := by
  refine callsIn_of_wp Tryz.func149 rfl h8 ?_ hro
  simp only [Tryz.ntmps149, List.size_toArray, List.length_cons, List.length_nil, Nat.reduceAdd, Nat.reduceSub, Array.replicate_succ, Array.replicate_zero, List.push_toArray, List.append_toArray, List.nil_append, List.cons_append]
  gi_wp2_with (first
    | (gi_at_range; refine wpListIn_range_own _ rfl _ 103 rfl 9 109 keyed Tryz.underlying103 _ b nn _ rfl hown ?_; intro w0 hrg0 hg0 hs0)
    | gi_in)
  go_frame
  gi_loopw [4] (fun _ wr => ∃ (left : Lit → Bool) (cnt : Nat) (ps : List (List UInt8 × Nd ns)), wr.ranges Tryz.prog 9 (ndR ns) b W.heap.size nn D0 left cnt ∧ ps.length + cnt ≤ Maps.size D0 ∧ Collected D0 left (ps.map (·.1)) ∧ (∀ p ∈ ps, ValAt D0 p) ∧ J (ps.map (·.2)) wr)
    (fun _ wr => wr.rangeLeft b W.heap.size)
  case atStart =>
    exact ⟨_, _, [], hrg0, by simp, Collected.start D0, by simp, hJ [] W w0 none h0 hg0 (fun r e => by cases e)⟩
  case round =>
    obtain ⟨left, cnt, ps, hrg, hcs, hC, hV, hJs⟩ := hrel
    gi_wp2_with (first
      | (gi_at_next; refine wpListIn_next_ranges _ rfl _ rfl 9 keyed (ndR ns) encStr (fun c : Nd ns => c.1.val) (fun key kl hk => by obtain ⟨x, hx, _⟩ := Maps.keyOf_str Tryz.underlying9 hk; exact ⟨x, hx⟩) (fun v y hv => by obtain ⟨c, hc, rfl, _⟩ := ndR_inv hv; exact ⟨⟨c, hc⟩, rfl⟩) b W.heap.size nn _ _ _ rfl hrg ?_ ?_)
      | gi_in)
    · intro hc0 hl0
      gi_wp2
      go_end0
      exact ⟨⟨_, rfl⟩, .inl ⟨_, ⟨ps, ⟨hC.1, fun x => by rw [hC.2 x, hl0]; simp, hV⟩, rfl⟩, hJs⟩⟩
    · intro x c hc kl1 yd yp w2 cnt2 hkey hlk hv hat hrg2 hlt hg2 hs2 hen
      obtain ⟨x', ex, rfl, _⟩ := Maps.keyOf_str Tryz.underlying9 hkey
      obtain rfl : x = x' := encStr_inj ex
      have hyd : yd = .held c.val := by
        obtain ⟨c', hc', ec, ez⟩ := ndR_inv hv
        rw [(Prod.mk.inj ez).1, ← ec]
      subst hyd
      clear hv
      have hJ2 : J (ps.map (·.2)) w2 := hJ _ wr w2 (some W.heap.size) hJs hg2 (fun r e => by cases e; exact ⟨Nat.le_refl _, hrg.iter_walk⟩)
      have hJ3 : J (ps.map (·.2)) (w2.alloc (.cells #[.string c.x.ev.id, .string c.x.ev.room, c.x.pv, .string c.x.ev.thread, .string c.x.ev.user, .int .i64 c.x.ev.does, .int .i64 (c.d : Int)] 109)) := hJ _ w2 _ none hJ2 (World.grownBy_alloc w2 _ none) (fun r e => by cases e)
      have hrg3 := hrg2.alloc (.cells #[.string c.x.ev.id, .string c.x.ev.room, c.x.pv, .string c.x.ev.thread, .string c.x.ev.user, .int .i64 c.x.ev.does, .int .i64 (c.d : Int)] 109)
      obtain ⟨fn, tmps, assign, body, hy, hR⟩ := hY (ps.map (·.2)) ⟨c, hc⟩ _ hJ3 (by simp; omega)
      clear hs2
      unfold NdV.val EvV.pv at hen
      unfold NdV.val EvV.pv at hy
      unfold EvV.pv at hJ3 hrg3 hR
      gi_wp2
      refine hR.mono ?_
      have hC2 : Collected D0 (fun z => left z && !z.sameKey (.string x)) ((ps ++ [(x, (⟨c, hc⟩ : Nd ns))]).map (·.1)) := by simpa using hC.step hlk hat
      have hV2 : ∀ p ∈ ps ++ [(x, (⟨c, hc⟩ : Nd ns))], ValAt D0 p := fun p hp => (List.mem_append.1 hp).elim (hV p) (fun e => by simp at e; subst e; exact hat)
      rintro e W3 (⟨rfl, hJ4, hk3⟩ | ⟨rfl, hJx3⟩)
      · gi_wp2
        have hrg4 := hrg3.of_walks hk3
        go_roundw
        case rel => exact ⟨_, cnt2, ps ++ [(x, ⟨c, hc⟩)], hrg4, by simp; omega, hC2, hV2, by simpa using hJ4⟩
        case measure => rw [hrg4.left_eq, hrg.left_eq]; exact hlt
      · gi_wp2
        refine bodyPost_ret (results_none rfl _ _ _) rfl ?_
        exact ⟨⟨_, rfl⟩, .inr ⟨_, trivial, hJx3⟩⟩
end Go.Proofs.YtjiecjpepiknmaaGreat

namespace Go.Proofs.YtjiecjpepiknmaaGreat
set_option maxRecDepth 20000
open Go.RowKit Go.Maps Go.Sort Go.Shelf Go.WideElems Go.WideShapes
set_option linter.unusedVariables false
set_option linter.unusedSimpArgs false
attribute [local go_sem] Oper.semAt_some

/-- How nodes lie. -/
def LN : Lies NdV := ⟨109, 7, NdV.cells, fun _ => rfl, fun x u hu => by
  simp only [NdV.cells, EvV.pv, List.mem_cons, List.not_mem_nil, or_false] at hu
  rcases hu with rfl | rfl | rfl | rfl | rfl | rfl | rfl <;> rfl⟩
theorem knN : Kn Tryz.prog LN 111 zeroN 104 := ⟨Tryz.underlying111, by kernel_rfl, rfl, by decide⟩
theorem fill_nd (x : NdV) : Instr.fill (fun i => some (i * 7, 7)) ((Array.range (1 * 7)).map (zeroN.cells[· % zeroN.cells.size]!)) [(0, x.val)] = some x.cells.toArray := by
  obtain ⟨⟨ev, A, cap⟩, d⟩ := x
  kernel_rfl
theorem build_nd (x : NdV) (w : World) : (Instr.buildSlice 111 1 #[(0, x.val)]).run Tryz.prog w = .ok (.slice (some ⟨w.heap.size, 0, none⟩) 1 1) (w.alloc (.cells x.cells.toArray 109)) := by
  obtain ⟨i0, hi0, hz0, hz1, hz2⟩ := info_parts knN.info
  refine run_buildSlice w 111 109 1 _ _ i0 _ Tryz.underlying111 hi0 hz0 (by rw [hz1]; decide) (by rw [hz1]; decide) ?_
  rw [hz1]
  exact fill_nd x
theorem wpListIn_append_run {F : Fence} {n : Nat} {P : Program} (w : World) {ops : Array Oper} {rest : List Oper} {o : Oper} {a : Act} {Q : Exit → Act → World → Prop}
    (hg : o.guard = none) (s x : Operand) (t : TypeId) (hop : o.op = Op.call { callee := Callee.builtin Builtin.append, args := #[s, x], argTypes := #[t, t] })
    (v xv v' : Value) (w' : World) (hs : a.eval s = v) (hx : a.eval x = xv) (hrun : (Builtin.append_ #[t, t] o.type #[v, xv]).run P w = .ok v' w') (hK : wpListIn F n P ops Q rest (a.put o.dst v') w') :
    wpListIn F n P ops Q (o :: rest) a w := by
  refine wpListIn_plain hg fun K hK' => ?_
  unfold Oper.wpIn
  refine ⟨?_, ?_⟩
  · simp [Oper.about, hop, resolve, Target.leads, Sem.run_pure]
  · rw [Oper.semAt_plain F _ _ (by rw [hop]; intro c hc'; cases hc')]
    simp [execOp, hop, resolve, invoke, builtin, hs, hx, hrun, Result.andThen]
    exact hK' _ _ hK
theorem values_in (F : Fence) (n : Nat) (hf : F.fn 119) (hro : F.round = none) (mb : Option Nat) (w : World) :
    CallsIn F n Tryz.prog 119 #[.map mb] w fun e w' => e = .returned (.func (.func 149) #[] #[.pointer (some ⟨w.heap.size, 0, none⟩)]) ∧ w' = w.alloc (.cells #[.map mb] 103) := by
  refine callsIn_of_wp Tryz.func119 rfl hf ?_ hro
  simp only [Tryz.ntmps119, List.size_toArray, List.length_cons, List.length_nil, Nat.reduceAdd, Nat.reduceSub, Array.replicate_succ, Array.replicate_zero, List.push_toArray, List.append_toArray, List.nil_append, List.cons_append]
  gi_wp2
  go_ret
  exact ⟨rfl, rfl⟩
theorem values_stops {ns : List NdV} (F : Fence) (n : Nat) (h7 : F.fn 149) (hro : F.round = none) (hn : 1 ≤ n) (Bm b nn : Nat) (D0 : Dv) (w : World) (hBm : Bm < w.heap.size)
    (hm : w.cell? ⟨Bm, 0, none⟩ = some (.map (some b))) (hown : w.ownsMap Tryz.prog 9 (ndR ns) b nn D0) :
    SeqStopsK F n Tryz.prog 149 #[.pointer (some ⟨Bm, 0, none⟩)] (fun c : Nd ns => #[c.1.val]) KeepsWalks (fun xs => ∃ ps, AllOf D0 (ns := ns) ps ∧ xs = ps.map (·.2)) (fun _ => True) (Maps.size D0) w := fun l J Jx W hW hJ _ hY h0 => by
  have hown' : W.ownsMap Tryz.prog 9 (ndR ns) b nn D0 := by
    have hbl := hown.lt
    obtain ⟨es, clock, hb, Ft, hs, hD⟩ := hown
    exact ⟨es, clock, (hW.block b hbl).trans hb, Ft, hs, hD⟩
  exact values1_in F n h7 hro hn l Bm b nn D0 J Jx hY W hJ ((hW.cell (p := ⟨Bm, 0, none⟩) hBm).trans hm) hown' h0
/-- What has been collected, in a box of one's own. -/
def Got {ns : List NdV} (w : World) (B2 : Nat) (pre : List (Nd ns)) (W : World) : Prop := (∃ v, Boxed W B2 111 v ∧ LN.Mine W w.heap.size v (pre.map (·.1))) ∧ Below w.heap.size w W
theorem got_own {ns : List NdV} {w : World} {B2 B : Nat} (hB : w.heap.size ≤ B) : OwnFrom B (Got (ns := ns) w B2) := by
  rintro s W W' row ⟨⟨v, hv, hm⟩, hb⟩ hg hr
  refine ⟨⟨v, hv.kept hg (fun e => ?_), hm.grown hg (fun k hk e => ?_)⟩, hb.grown hg hb.size (fun k e => Nat.le_trans hB (hr k e).1)⟩
  · obtain ⟨o, ho, hc⟩ := (hr B2 e.symm).2
    rw [show W.heap[B2]? = _ from hv] at ho
    cases ho
    cases hc
  · obtain ⟨o, ho, hc⟩ := (hr k e.symm).2
    rcases hm with ⟨hm, _⟩ | ⟨g, off, cap, cur, hm, _, hh, _⟩
    · rw [hm] at hk; cases hk
    · rw [hm] at hk
      simp only [Value.ownBlock, Option.some.injEq] at hk
      subst hk
      rw [hh] at ho
      cases ho
      cases hc

set_option maxRecDepth 100000 in
set_option maxHeartbeats 4000000 in
theorem appendSeq_in {ns : List NdV} (F : Fence) (n : Nat) (h3 : F.fn 165) (h7 : F.fn 149) (hro : F.round = none) (hn : 3 ≤ n) (Bm b nn : Nat) (D0 : Dv) (w : World) (hBm : Bm < w.heap.size)
    (hm : w.cell? ⟨Bm, 0, none⟩ = some (.map (some b))) (hown : w.ownsMap Tryz.prog 9 (ndR ns) b nn D0) (hsz : Maps.size D0 ≤ 1000) :
    CallsIn F n Tryz.prog 165 #[.slice none 0 0, .func (.func 149) #[] #[.pointer (some ⟨Bm, 0, none⟩)]] w fun e W' => ∃ v ps, e = .returned v ∧ AllOf D0 (ns := ns) ps ∧ LN.Mine W' w.heap.size v (ps.map (fun p => p.2.1)) ∧ Below w.heap.size w W' := by
  have h1 : 1 ≤ n := by omega
  refine callsIn_of_wp_marks Tryz.func165 rfl h3 ?_ hro
  simp only [Tryz.ntmps165, List.size_toArray, List.length_cons, List.length_nil, Nat.reduceAdd, Nat.reduceSub, Array.replicate_succ, Array.replicate_zero, List.push_toArray, List.append_toArray, List.nil_append, List.cons_append]
  gi_wp2
  have bO := Boxed.new w 111 (.slice none 0 0)
  have hB0 := below_new w (.cells #[.slice none 0 0] 111)
  have hsz1 : (w.alloc (.cells #[.slice none 0 0] 111)).heap.size = w.heap.size + 1 := by simp
  have hstop := values_stops (ns := ns) F (n - 1) h7 hro (by omega) Bm b nn D0 (w.alloc (.cells #[.slice none 0 0] 111)) (by omega) ((hB0.cell (p := ⟨Bm, 0, none⟩) hBm).trans hm) (hown.alloc _)
  generalize w.alloc _ = w1 at bO hB0 hsz1 hstop ⊢
  refine wpIn_rangeFunc_ownH hro h1 (gf := 149) (lb := #[.pointer (some ⟨Bm, 0, none⟩)]) rfl h7 (enters_of Tryz.func149 (by kernel_rfl) rfl)
    hstop walksK_t walksK_b (Below.refl _ _) (fun _ => rfl)
    (Got w w.heap.size) (fun _ _ _ => False) (got_own (by omega)) (fun _ _ _ _ _ hs _ _ => hs) ⟨⟨_, bO, .inl ⟨rfl, rfl⟩⟩, hB0⟩
    (fun x a' W => ∃ Bx, w.heap.size < Bx ∧ W.heap[Bx]? = some (.cells #[.string x.1.x.ev.id, .string x.1.x.ev.room, .slice x.1.x.A x.1.x.ev.parents.length x.1.x.cap, .string x.1.x.ev.thread, .string x.1.x.ev.user, .int .i64 x.1.x.ev.does, .int .i64 (x.1.d : Int)] 109 (0, 0)) ∧ a' = { tmps := #[.slice none 0 0, .func (.func 149) #[] #[.pointer (some ⟨Bm, 0, none⟩)], .pointer (some ⟨w.heap.size, 0, none⟩), undef, .slice none 0 0, .pointer (some ⟨Bx, 0, none⟩), .func (.func 149) #[] #[.pointer (some ⟨Bm, 0, none⟩)], .agg #[.string x.1.x.ev.id, .string x.1.x.ev.room, .slice x.1.x.A x.1.x.ev.parents.length x.1.x.cap, .string x.1.x.ev.thread, .string x.1.x.ev.user, .int .i64 x.1.x.ev.does, .int .i64 (x.1.d : Int)], undef, undef, undef, undef, undef], defers := [] })
    ?ax ?assign ?body ?done ?stop
  case ax =>
    rintro x a' s W W' row ⟨Bx, hlt, hb, rfl⟩ hg hr
    refine ⟨Bx, hlt, (hg.block Bx (smem_lt hb) (fun e => ?_)).trans hb, rfl⟩
    obtain ⟨o, ho, hc⟩ := (hr Bx e.symm).2
    rw [hb] at ho
    cases ho
    cases hc
  case assign =>
    rintro l pre x W K hi hK
    unfold NdV.val EvV.pv
    have hle := hi.2.size
    obtain ⟨⟨v, hv, hmm⟩, hb⟩ := hi
    have hlt := hv.lt
    gi_wp2
    exact hK _ _ ((KeepsOthers.alloc _ _).from _) (KeepsWalks.alloc _ _) ⟨⟨v, hv.alloc _, hmm.below (below_new W _)⟩, hb.trans ((below_new W _).mono hle)⟩ ⟨W.heap.size, hlt, heap_alloc_new W _, rfl⟩
  case body =>
    rintro l pre x a' W hl ⟨r, hr⟩ ⟨⟨v, hv, hmm⟩, hb⟩ ⟨Bx, hBx, bX, rfl⟩ hlt
    have hle := hb.size
    have hpl : (pre.map (·.1)).length ≤ 1000 := by rw [List.length_map]; omega
    obtain ⟨ms, hms⟩ : ∃ ms, pre.map (·.1) = ms := ⟨_, rfl⟩
    rw [hms] at hmm hpl
    have HMS := Lib.hid hms
    clear hms
    have p0 : W.cell? ⟨Bx, 0, none⟩ = some (.string x.1.x.ev.id) := cell_at bX 0
    have p1 : W.cell? ⟨Bx, 1, none⟩ = some (.string x.1.x.ev.room) := cell_at bX 1
    have p2 : W.cell? ⟨Bx, 2, none⟩ = some (.slice x.1.x.A x.1.x.ev.parents.length x.1.x.cap) := cell_at bX 2
    have p3 : W.cell? ⟨Bx, 3, none⟩ = some (.string x.1.x.ev.thread) := cell_at bX 3
    have p4 : W.cell? ⟨Bx, 4, none⟩ = some (.string x.1.x.ev.user) := cell_at bX 4
    have p5 : W.cell? ⟨Bx, 5, none⟩ = some (.int .i64 x.1.x.ev.does) := cell_at bX 5
    have p6 : W.cell? ⟨Bx, 6, none⟩ = some (.int .i64 (x.1.d : Int)) := cell_at bX 6
    have S5 : LN.Slice (W.alloc (.cells #[.string x.1.x.ev.id, .string x.1.x.ev.room, .slice x.1.x.A x.1.x.ev.parents.length x.1.x.cap, .string x.1.x.ev.thread, .string x.1.x.ev.user, .int .i64 x.1.x.ev.does, .int .i64 (x.1.d : Int)] 109)) (.slice (some ⟨W.heap.size, 0, none⟩) 1 1) [x.1] := lit_slice (L := LN) W x.1 W.heap.size rfl #[.string x.1.x.ev.id, .string x.1.x.ev.room, .slice x.1.x.A x.1.x.ev.parents.length x.1.x.cap, .string x.1.x.ev.thread, .string x.1.x.ev.user, .int .i64 x.1.x.ev.does, .int .i64 (x.1.d : Int)] rfl
    have hbn := below_new W (.cells #[.string x.1.x.ev.id, .string x.1.x.ev.room, .slice x.1.x.A x.1.x.ev.parents.length x.1.x.cap, .string x.1.x.ev.thread, .string x.1.x.ev.user, .int .i64 x.1.x.ev.does, .int .i64 (x.1.d : Int)] 109)
    have hv1 := hv.alloc (.cells #[.string x.1.x.ev.id, .string x.1.x.ev.room, .slice x.1.x.A x.1.x.ev.parents.length x.1.x.cap, .string x.1.x.ev.thread, .string x.1.x.ev.user, .int .i64 x.1.x.ev.does, .int .i64 (x.1.d : Int)] 109)
    have hm1 := hmm.below hbn
    have hb1 := hb.trans (hbn.mono hle)
    have hko := KeepsOthers.alloc W (.cells #[.string x.1.x.ev.id, .string x.1.x.ev.room, .slice x.1.x.A x.1.x.ev.parents.length x.1.x.cap, .string x.1.x.ev.thread, .string x.1.x.ev.user, .int .i64 x.1.x.ev.does, .int .i64 (x.1.d : Int)] 109)
    have hc := hv.cell
    clear hv hmm hb bX
    have hsz1' := hb1.size
    obtain ⟨A6, c6, w6, hr6, m6, g6, o6⟩ := hm1.put knN 111 111 hsz1' (.slice (some ⟨W.heap.size, 0, none⟩) 1 1) 1 rfl (S5.srcN knN rfl) (by omega)
    have hne : some w.heap.size ≠ v.ownBlock := by
      rcases id hm1 with ⟨hx, _⟩ | ⟨gg, off, cap, cur, hx, _, hh, _⟩
      · rw [hx]; exact fun e => by cases e
      · rw [hx]
        intro e
        simp only [Value.ownBlock, Option.some.injEq] at e
        rw [← e, show (W.alloc _).heap[w.heap.size]? = _ from hv1] at hh
        injection hh with hh
        injection hh with _ hh
        exact absurd hh (by decide)
    have hv6 := hv1.kept g6 hne
    have f6 := hv6.frozen
    have c6' := hv6.cell
    have hko6 : KeepsOthers (W.alloc _) w6 := KeepsOthers.of_grownBy g6 (fun j o hj ho => by
      rcases id hm1 with ⟨hx, _⟩ | ⟨gg, off, cap, cur, hx, _, hh, _⟩
      · rw [hx] at hj; cases hj
      · rw [hx] at hj
        simp only [Value.ownBlock, Option.some.injEq] at hj
        rw [← hj, hh] at ho
        cases ho
        rfl)
    obtain ⟨Av, cv, hvs, -⟩ := hm1.shape
    have hb6 : RowKit.Below w.heap.size w w6 := hb1.grown g6 hb1.size (fun k hk => (hm1.lt k hk).1)
    have hne6 : ∀ k, (Value.slice A6 (ms.length + 1) c6).ownBlock = some k → k ≠ w.heap.size := by
      intro k hk e
      subst e
      rcases m6 with ⟨hx, _⟩ | ⟨gg, off, cap, cur, hx, _, hh, _⟩
      · rw [hx] at hk; cases hk
      · rw [hx] at hk
        simp only [Value.ownBlock, Option.some.injEq] at hk
        rw [hk, show w6.heap[w.heap.size]? = _ from hv6] at hh
        injection hh with hh
        injection hh with _ hh
        exact absurd hh (by decide)
    subst hvs
    clear hlt hpl S5 hbn hm1 hb1 hv1 g6 o6
    gi_wp2_with (gi_at_builtin; refine wpListIn_append_run _ rfl _ _ 111 rfl _ _ _ _ rfl rfl hr6 ?_)
    refine ⟨(hko.trans (hko6.trans (KeepsOthers.setCell _ _ _))).from _, (hko.trans (hko6.trans (KeepsOthers.setCell _ _ _))).walks, ⟨⟨_, hv6.set _, ?_⟩, hb6.grown (sm_grown w6 w.heap.size 0 [_]) hb6.size (fun k hk => by injection hk with hk; omega)⟩⟩
    have h9 := m6.grown (sm_grown w6 w.heap.size 0 [.slice A6 (ms.length + 1) c6]) (fun k hk e => by injection e with e; exact hne6 k hk e)
    rw [List.map_append, HMS.out]
    exact h9
  case done =>
    rintro D ys W hD ⟨ps, hall, rfl⟩ ⟨⟨v, hv, hmm⟩, hb⟩ hK
    have hc := hv.cell
    obtain ⟨ms, hms⟩ : ∃ ms, (ps.map (·.2)).map (·.1) = ms := ⟨_, rfl⟩
    rw [hms] at hmm
    have HMS := Lib.hid hms
    clear hms
    obtain ⟨Av, cv, hvs, -⟩ := hmm.shape
    subst hvs
    gi_wp2
    refine ⟨by simp, .inl ⟨_, _, rfl, run_takeDeferred hK, ?_⟩⟩
    have hmap : (ps.map (fun p => p.2.1)) = (ps.map (·.2)).map (·.1) := by rw [List.map_map]; rfl
    refine ⟨_, results_tmp rfl _ _ _, _, ps, rfl, hall, ?_, hb.trans (belowK_b (w := w) (Nat.le_refl _) W D _ _ (by omega) hK rfl rfl)⟩
    rw [hmap, HMS.out]
    refine hmm.keep (fun k hk => ?_)
    have hkd : k ≠ D := fun e => by
      subst e
      rcases hmm with ⟨hx, _⟩ | ⟨gg, off, cap, cur, hx, _, hh, _⟩
      · rw [hx] at hk; cases hk
      · rw [hx] at hk
        simp only [Value.ownBlock, Option.some.injEq] at hk
        rw [hk, hK] at hh
        cases hh
    exact (grownBy_putObj' W D (.deferred none)).block k (hmm.lt k hk).2 (fun e => hkd (by injection e))
  case stop =>
    rintro D c pre W _ _ h _
    exact h.elim
end Go.Proofs.YtjiecjpepiknmaaGreat
