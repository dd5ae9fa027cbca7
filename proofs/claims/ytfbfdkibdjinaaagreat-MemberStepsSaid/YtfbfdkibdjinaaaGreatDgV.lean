/-
  The library's walk over a map's values, at the code's map of nodes: each node comes once, in whatever order.
-/
import Derived.Test.YtfbfdkibdjinaaaGreatDgM
import Derived.RangeFuncMany
import Derived.RangeFuncLeaves
import Derived.RangeFuncNested
import Derived.Sort.MapsRangeIn
import Derived.Sort.KeysCollected
import Derived.WalkKit
import Derived.OwnWalkIn
import Derived.TacticsInMore
import Derived.RegionIn
import Derived.LoopNIn
import Derived.LoopIn
import Derived.Shelf.Abstract
namespace Go.Proofs.YtfbfdkibdjinaaaGreat
set_option maxRecDepth 20000
open Go.RowKit Go.Maps Go.Sort Go.Shelf Go.WideElems Go.WideShapes
set_option linter.unusedVariables false
set_option linter.unusedSimpArgs false

open Classical in
/-- How a node of ns reads. -/
noncomputable def ndR (ns : List NdV) (v : Value) : Option (Dv × List MemPlace) := if ∃ n ∈ ns, v = n.val then some (.held v, []) else none
theorem ndR_yes {ns : List NdV} {n : NdV} (hn : n ∈ ns) : ndR ns n.val = some (.held n.val, []) := by
  unfold ndR
  rw [if_pos ⟨n, hn, rfl⟩]
theorem ndR_inv {ns : List NdV} {v : Value} {z : Dv × List MemPlace} (h : ndR ns v = some z) : ∃ n ∈ ns, v = n.val ∧ z = (.held n.val, []) := by
  unfold ndR at h
  split at h
  · rename_i hh
    obtain ⟨n, hn, rfl⟩ := hh
    injection h with h
    exact ⟨n, hn, rfl, h.symm⟩
  · cases h
/-- The map as one of such nodes. -/
theorem OwnN.nodes {w : World} {mb n : Nat} {D : Dv} {ns : List NdV} (h : OwnN w mb n D) (his : NdM D ns) : w.ownsMap Tryz.prog 9 (ndR ns) mb n D := by
  obtain ⟨xs, clock, hb, F, hs, hD⟩ := h
  have hx : ∀ x ∈ xs.toList, ∀ z, heldR x.val = some z → ndR ns x.val = some z := by
    intro x hx z hz
    have hm : rg Tryz.prog 9 heldR x ∈ (xs.toList.map (rg Tryz.prog 9 heldR)).foldr DataW.insert [] := mem_sorted.2 (List.mem_map.2 ⟨x, hx, rfl⟩)
    obtain ⟨nd, hnd, he⟩ := (his.mem hD _).1 hm
    have hv : x.val = nd.val := by
      have h7 := congrArg Prod.snd he
      unfold rg rd at h7
      cases hk : keyOf Tryz.prog 9 x.key with
      | none => simp [hk, NdV.entry] at h7
      | some kk => simpa [hk, heldR, NdV.entry] using h7
    injection hz with hz
    rw [hv, ndR_yes hnd, ← hz, hv]
  have h2 := World.ownsMap_of_fit (R := ndR ns) hb F hx
  rw [← hD] at h2
  exact h2.mono hs
abbrev Nd (ns : List NdV) := { n : NdV // n ∈ ns }
def ValAt {ns : List NdV} (D0 : Dv) (p : List UInt8 × Nd ns) : Prop := ∀ zd, D0.atKey (.string p.1) zd = .held p.2.1.val
/-- All have come. -/
def AllOf (D0 : Dv) {ns : List NdV} (ps : List (List UInt8 × Nd ns)) : Prop := (ps.map (·.1)).Nodup ∧ (∀ x, x ∈ ps.map (·.1) ↔ has D0 (.string x) = true) ∧ ∀ p ∈ ps, ValAt D0 p
theorem all_perm {D0 : Dv} {ns : List NdV} (his : NdM D0 ns) (hn : ((nevs ns).map Ev.id).Nodup) {ps : List (List UInt8 × Nd ns)} (h : AllOf D0 ps) : (ps.map (fun p => p.2.1)).Perm ns := by
  obtain ⟨h1, h2, h3⟩ := h
  have hid : ∀ a ∈ ns, ∀ b ∈ ns, a.x.ev.id = b.x.ev.id → a = b := by
    intro a ha b hb he
    rw [List.nodup_iff_pairwise_ne, List.map_map, List.pairwise_map, List.pairwise_iff_getElem] at hn
    obtain ⟨i, hi, rfl⟩ := List.getElem_of_mem ha
    obtain ⟨j, hj, rfl⟩ := List.getElem_of_mem hb
    rcases Nat.lt_trichotomy i j with hl | hl | hl
    · exact absurd he (hn i j hi hj hl)
    · subst hl; rfl
    · exact absurd he.symm (hn j i hj hi hl)
  have hkey : ∀ p ∈ ps, p.1 = p.2.1.x.ev.id.data.toList := by
    intro p hp
    have hh := (h2 p.1).1 (List.mem_map.2 ⟨p, hp, rfl⟩)
    obtain ⟨es, hD, hperm⟩ := id his
    rw [hD, has_eq, List.any_eq_true] at hh
    obtain ⟨q, hq, hs⟩ := hh
    obtain ⟨nd, hnd, rfl⟩ := (his.mem hD q).1 hq
    have e1 : p.1 = nd.x.ev.id.data.toList := by
      simp only [NdV.entry, kl, Lit.sameKey, beq_iff_eq] at hs
      exact hs.symm
    have h4 := h3 p hp (.held zeroN)
    rw [e1] at h4
    have h5 := his.at_ hn hnd (.held zeroN)
    unfold kl at h5
    rw [h5] at h4
    injection h4 with h4
    have h6 : nd.x.ev.id = p.2.1.x.ev.id := by
      unfold NdV.val at h4
      injection h4 with h4
      have h7 := congrArg (fun a : Array Value => a[0]?) h4
      simpa using h7
    rw [e1, h6]
  have hnd : (ps.map (fun p => p.2.1)).Nodup := by
    rw [List.nodup_iff_pairwise_ne, List.pairwise_map, List.pairwise_iff_getElem] at h1 ⊢
    intro i j hi hj hl e
    exact h1 i j hi hj hl (by rw [hkey _ (List.getElem_mem hi), hkey _ (List.getElem_mem hj), e])
  have hnn : ns.Nodup := by
    rw [List.nodup_iff_pairwise_ne] at hn ⊢
    rw [List.map_map, List.pairwise_map] at hn
    exact hn.imp (fun h e => h (by rw [e]))
  refine (List.perm_ext_iff_of_nodup hnd hnn).2 fun n => ⟨fun hm => ?_, fun hm => ?_⟩
  · obtain ⟨p, _, rfl⟩ := List.mem_map.1 hm
    exact p.2.2
  · have hh : has D0 (.string n.x.ev.id.data.toList) = true := by
      have := his.has n.x.ev.id
      unfold kl at this
      rw [this]
      exact has_iff.2 ⟨n.x.ev, List.mem_map.2 ⟨n, hm, rfl⟩, rfl⟩
    obtain ⟨p, hp, he⟩ := List.mem_map.1 ((h2 _).2 hh)
    refine List.mem_map.2 ⟨p, hp, ?_⟩
    refine hid _ p.2.2 _ hm ?_
    have := hkey p hp
    rw [he] at this
    exact ((key_eq _ _).2 this).symm

set_option maxRecDepth 100000 in
set_option maxHeartbeats 4000000 in
theorem values1_in {ns : List NdV} (F : Fence) (n : Nat) (h8 : F.fn 107) (hro : F.round = none) (hn : 1 ≤ n) (l Bm b nn : Nat) (D0 : Dv) (J Jx : List (Nd ns) → World → Prop)
    (hY : ∀ pre x W, J pre W → pre.length < Maps.size D0 → YieldAt F (n - 1) Tryz.prog l #[x.1.val] W fun e W' =>
      (e = .returned (.bool true) ∧ J (pre ++ [x]) W' ∧ KeepsWalks W W') ∨ (e = .returned (.bool false) ∧ Jx (pre ++ [x]) W'))
    (W : World) (hJ : AbidesFrom W.heap.size J) (hm : W.cell? ⟨Bm, 0, none⟩ = some (.map (some b))) (hown : W.ownsMap Tryz.prog 9 (ndR ns) b nn D0) (h0 : J [] W) :
    CallsIn F n Tryz.prog 107 #[.func (.yield l) #[] #[], .pointer (some ⟨Bm, 0, none⟩)] W fun e W' => (∃ v, e = .returned v) ∧
      ((∃ xs, (∃ ps, AllOf D0 (ns := ns) ps ∧ xs = ps.map (·.2)) ∧ J xs W') ∨ (∃ pre, True ∧ Jx pre W')) := by
  refine callsIn_of_wp Tryz.func107 rfl h8 ?_ hro
  simp only [Tryz.ntmps107, List.size_toArray, List.length_cons, List.length_nil, Nat.reduceAdd, Nat.reduceSub, Array.replicate_succ, Array.replicate_zero, List.push_toArray, List.append_toArray, List.nil_append, List.cons_append]
  gi_wp2_with (first
    | (gi_at_range; refine wpListIn_range_own _ rfl _ 70 rfl 9 78 keyed Tryz.underlying70 _ b nn _ rfl hown ?_; intro w0 hrg0 hg0 hs0)
    | gi_in)
  go_frame
  gi_loopw [4] (fun _ wr => ∃ (left : Lit → Bool) (cnt : Nat) (ps : List (List UInt8 × Nd ns)), wr.ranges Tryz.prog 9 (ndR ns) b W.heap.size nn D0 left cnt ∧ ps.length + cnt ≤ Maps.size D0 ∧ Collected D0 left (ps.map (·.1)) ∧ (∀ p ∈ ps, ValAt D0 p) ∧ J (ps.map (·.2)) wr)
    (fun _ wr => wr.rangeLeft b W.heap.size)
  case atStart =>
    exact ⟨_, _, [], hrg0, by simp, Collected.start D0, by simp, hJ [] W w0 none h0 hg0 (fun r e => by cases e)⟩
  case round =>
    obtain ⟨left, cnt, ps, hrg, hcs, hC, hV, hJs⟩ := hrel
    gi_wp2_with (first
      | (gi_at_next; refine wpListIn_next_ranges _ rfl _ rfl 9 keyed (ndR ns) encStr (fun c : Nd ns => c.1.val) (fun key kl hk => by obtain ⟨x, hx, _⟩ := Maps.keyOf_str Tryz.underlying9 hk; exact ⟨x, hx⟩) (fun v y hv => by obtain ⟨c, hc, rfl, _⟩ := ndR_inv hv; exact ⟨⟨c, hc⟩, rfl⟩) b W.heap.size nn _ _ _ rfl hrg ?_ ?_)
      | gi_in)
    · intro hc0 hl0
      gi_wp2
      go_end0
      exact ⟨⟨_, rfl⟩, .inl ⟨_, ⟨ps, ⟨hC.1, fun x => by rw [hC.2 x, hl0]; simp, hV⟩, rfl⟩, hJs⟩⟩
    · intro x c hc kl1 yd yp w2 cnt2 hkey hlk hv hat hrg2 hlt hg2 hs2 hen
      obtain ⟨x', ex, rfl, _⟩ := Maps.keyOf_str Tryz.underlying9 hkey
      obtain rfl : x = x' := encStr_inj ex
      have hyd : yd = .held c.val := by
        obtain ⟨c', hc', ec, ez⟩ := ndR_inv hv
        rw [(Prod.mk.inj ez).1, ← ec]
      subst hyd
      clear hv
      have hJ2 : J (ps.map (·.2)) w2 := hJ _ wr w2 (some W.heap.size) hJs hg2 (fun r e => by cases e; exact ⟨Nat.le_refl _, hrg.iter_walk⟩)
      have hJ3 : J (ps.map (·.2)) (w2.alloc (.cells #[.string c.x.ev.id, .string c.x.ev.room, c.x.pv, .string c.x.ev.thread, .string c.x.ev.user, .int .i64 c.x.ev.does, .int .i64 (c.d : Int)] 78)) := hJ _ w2 _ none hJ2 (World.grownBy_alloc w2 _ none) (fun r e => by cases e)
      have hrg3 := hrg2.alloc (.cells #[.string c.x.ev.id, .string c.x.ev.room, c.x.pv, .string c.x.ev.thread, .string c.x.ev.user, .int .i64 c.x.ev.does, .int .i64 (c.d : Int)] 78)
      obtain ⟨fn, tmps, assign, body, hy, hR⟩ := hY (ps.map (·.2)) ⟨c, hc⟩ _ hJ3 (by simp; omega)
      clear hs2
      unfold NdV.val EvV.pv at hen
      unfold NdV.val EvV.pv at hy
      unfold EvV.pv at hJ3 hrg3 hR
      gi_wp2
      refine hR.mono ?_
      have hC2 : Collected D0 (fun z => left z && !z.sameKey (.string x)) ((ps ++ [(x, (⟨c, hc⟩ : Nd ns))]).map (·.1)) := by simpa using hC.step hlk hat
      have hV2 : ∀ p ∈ ps ++ [(x, (⟨c, hc⟩ : Nd ns))], ValAt D0 p := fun p hp => (List.mem_append.1 hp).elim (hV p) (fun e => by simp at e; subst e; exact hat)
      rintro e W3 (⟨rfl, hJ4, hk3⟩ | ⟨rfl, hJx3⟩)
      · gi_wp2
        have hrg4 := hrg3.of_walks hk3
        go_roundw
        case rel => exact ⟨_, cnt2, ps ++ [(x, ⟨c, hc⟩)], hrg4, by simp; omega, hC2, hV2, by simpa using hJ4⟩
        case measure => rw [hrg4.left_eq, hrg.left_eq]; exact hlt
      · gi_wp2
        refine bodyPost_ret (results_none rfl _ _ _) rfl ?_
        exact ⟨⟨_, rfl⟩, .inr ⟨_, trivial, hJx3⟩⟩
end Go.Proofs.YtfbfdkibdjinaaaGreat
