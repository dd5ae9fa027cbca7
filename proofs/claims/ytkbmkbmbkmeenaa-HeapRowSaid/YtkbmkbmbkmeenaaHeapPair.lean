/-
  Two heaps of the code, one of the document, and a row of deeds that a statement makes beside them.
-/
import Derived.Test.YtkbmkbmbkmeenaaHeapLists
namespace Go.Proofs.Ytkbmkbmbkmeenaa
set_option maxRecDepth 20000
open Go.RowKit
set_option linter.unusedVariables false
set_option linter.unusedSimpArgs false

/-- Entries put one behind the other. -/
def foldP (xs : List Ent) : List Ent := xs.foldl (fun l x => putL x l) []
theorem foldP_snoc (xs : List Ent) (x : Ent) : foldP (xs ++ [x]) = putL x (foldP xs) := by simp [foldP]
theorem foldP_row (xs : List Ent) : RowL (foldP xs) := by
  suffices h : ∀ (xs l : List Ent), RowL l → RowL (xs.foldl (fun l x => putL x l) l) from h xs [] row_nil
  intro xs
  induction xs with
  | nil => intro l h; exact h
  | cons x r ih => intro l h; exact ih _ (row_put h)
theorem foldP_len (xs : List Ent) : (foldP xs).length ≤ xs.length := by
  suffices h : ∀ (xs l : List Ent), (xs.foldl (fun l x => putL x l) l).length ≤ l.length + xs.length from by have := h xs []; simpa [foldP] using this
  intro xs
  induction xs with
  | nil => intro l; simp
  | cons x r ih => intro l; have h1 := ih (putL x l); have h2 := put_len x l; simp only [List.foldl_cons, List.length_cons]; omega
theorem foldP_mem {xs : List Ent} (h : (xs.map Ent.key).Nodup) (z : Ent) : z ∈ foldP xs ↔ z ∈ xs := by
  suffices h : ∀ (xs l : List Ent), RowL l → (xs.map Ent.key).Nodup → (∀ y ∈ l, ∀ x ∈ xs, y.key ≠ x.key) → (z ∈ xs.foldl (fun l x => putL x l) l ↔ z ∈ l ∨ z ∈ xs) from by
    have := h xs [] row_nil (by assumption) (fun y hy => (List.not_mem_nil hy).elim)
    rw [foldP, this]; simp
  intro xs
  induction xs with
  | nil => intro l _ _ _; simp
  | cons x r ih =>
    intro l hl hn hd
    simp only [List.map_cons, List.nodup_cons, List.mem_map, not_exists, not_and] at hn
    rw [List.foldl_cons, ih (putL x l) (row_put hl) hn.2 (fun y hy u hu => ?_), mem_put hl, List.mem_cons]
    · constructor
      · rintro ((h1 | ⟨h1, _⟩) | h1)
        · exact .inr (.inl h1)
        · exact .inl h1
        · exact .inr (.inr h1)
      · rintro (h1 | h1 | h1)
        · exact .inl (.inr ⟨h1, hd z h1 x List.mem_cons_self⟩)
        · exact .inl (.inl h1)
        · exact .inr h1
    · rcases (mem_put hl).1 hy with rfl | ⟨h1, _⟩
      · exact fun e => hn.1 u hu e.symm
      · exact hd y h1 u (List.mem_cons_of_mem _ hu)
theorem foldP_rev {xs : List Ent} (h : (xs.map Ent.key).Nodup) : foldP xs.reverse = foldP xs := by
  refine row_unique (foldP_row _).1 (foldP_row _).1 fun z => ?_
  rw [foldP_mem (by rw [List.map_reverse]; exact (List.reverse_perm _).nodup_iff.2 h), foldP_mem h, List.mem_reverse]

structure Heaps.Pair (C : Heaps) (w0 w : World) (ga gb gr : Nat) (la lb lr : List Ent) (vo : Value) (xs : List Deed) : Prop where
  a : C.CH w ga la
  b : C.CH w gb lb
  ref : RefH w gr lr
  below : Below w0.heap.size w0 w
  fa : ∀ k, C.own w ga k → w0.heap.size ≤ k
  fb : ∀ k, C.own w gb k → w0.heap.size ≤ k
  base : w0.heap.size ≤ gr
  dis : ∀ k, C.own w ga k → ¬ C.own w gb k
  mo : LO.Mine w w0.heap.size vo xs
  na : ToldC C.own w ga vo
  nb : ToldC C.own w gb vo
section
variable {C : Heaps} {w0 w w' : World} {ga gb gr : Nat} {la lb lr l' : List Ent} {vo vo' : Value} {xs xs' : List Deed} {V : Value}
theorem Heaps.Pair.codesA (h : C.Pair w0 w ga gb gr la lb lr vo xs) (hc : C.CH w' ga l') (ht : TurnC C.own w w' ga) : C.Pair w0 w' ga gb gr l' lb lr vo xs := by
  obtain ⟨hb, ho⟩ := C.keep h.b ht.size (fun k hk => ht.block k (C.old h.b hk) (fun e => h.dis k e hk))
  exact ⟨hc, hb, h.ref.keepB fun k cur T fr hT hh => ht.block k (smem_lt hh) (fun e => C.typed h.a e cur T fr hT hh),
    ⟨ht.os.trans h.below.os, ht.tape.trans h.below.tape, ht.output.trans h.below.output, Nat.le_trans h.below.size ht.size, fun k hk => (ht.block k (Nat.lt_of_lt_of_le hk h.below.size) (fun e => by have := h.fa k e; omega)).trans (h.below.block k hk)⟩,
    fun k hk => by rcases ht.owns k hk with e | e; exact h.fa k e; exact Nat.le_trans h.below.size e, fun k hk => h.fb k (ho k hk), h.base,
    fun k hk hk' => by rcases ht.owns k hk with e | e; exact h.dis k e (ho k hk'); have := C.old h.b (ho k hk'); omega,
    h.mo.keep fun k hk => ht.block k (h.mo.lt k hk).2 (h.na k hk),
    fun k hk e => by rcases ht.owns k e with e | e; exact h.na k hk e; have := (h.mo.lt k hk).2; omega,
    fun k hk e => h.nb k hk (ho k e)⟩
theorem Heaps.Pair.flip (h : C.Pair w0 w ga gb gr la lb lr vo xs) : C.Pair w0 w gb ga gr lb la lr vo xs :=
  ⟨h.b, h.a, h.ref, h.below, h.fb, h.fa, h.base, fun k hb ha => h.dis k ha hb, h.mo, h.nb, h.na⟩
theorem Heaps.Pair.codesB (h : C.Pair w0 w ga gb gr la lb lr vo xs) (hc : C.CH w' gb l') (ht : TurnC C.own w w' gb) : C.Pair w0 w' ga gb gr la l' lr vo xs := (h.flip.codesA hc ht).flip
/-- Where no block of a heap, of the document's, of the row, nor of what was, has turned. -/
theorem Heaps.Pair.moved {row : Option Nat} (h : C.Pair w0 w ga gb gr la lb lr vo xs) (hg : w.grownBy w' row) (ha : ∀ k, row = some k → w0.heap.size ≤ k ∧ ¬ C.own w ga k ∧ ¬ C.own w gb k) (hr : RefH w' gr l') (hm : LO.Mine w' w0.heap.size vo' xs') (hv : ∀ k, vo'.ownBlock = some k → vo.ownBlock = some k ∨ w.heap.size ≤ k) : C.Pair w0 w' ga gb gr la lb l' vo' xs' := by
  obtain ⟨h1, o1⟩ := C.keep h.a hg.size (fun k hk => hg.block k (C.old h.a hk) (fun e => (ha k e.symm).2.1 hk))
  obtain ⟨h2, o2⟩ := C.keep h.b hg.size (fun k hk => hg.block k (C.old h.b hk) (fun e => (ha k e.symm).2.2 hk))
  exact ⟨h1, h2, hr, h.below.grown hg h.below.size (fun k hk => (ha k hk).1), fun k hk => h.fa k (o1 k hk), fun k hk => h.fb k (o2 k hk), h.base, fun k hk hk' => h.dis k (o1 k hk) (o2 k hk'), hm,
    fun k hk e => by rcases hv k hk with h' | h'; exact h.na k h' (o1 k e); have := C.old h.a (o1 k e); omega,
    fun k hk e => by rcases hv k hk with h' | h'; exact h.nb k h' (o2 k e); have := C.old h.b (o2 k e); omega⟩
theorem Heaps.Pair.refs (h : C.Pair w0 w ga gb gr la lb lr vo xs) (hr : RefH w' gr l') (hg : w.grownBy w' (some gr)) : C.Pair w0 w' ga gb gr la lb l' vo xs := by
  obtain ⟨⟨v, hh, _⟩, _⟩ := h.ref
  refine h.moved hg (fun k hk => ?_) hr (h.mo.grown hg (mine_ne_ref h.mo (by decide) h.ref)) (fun k hk => .inl hk)
  injection hk with hk
  subst hk
  exact ⟨h.base, fun e => C.typed h.a e _ _ _ (.inr rfl) hh, fun e => C.typed h.b e _ _ _ (.inr rfl) hh⟩
theorem Heaps.Pair.later (h : C.Pair w0 w ga gb gr la lb lr vo xs) (hb : Below w.heap.size w w') : C.Pair w0 w' ga gb gr la lb lr vo xs :=
  h.moved (row := none) ⟨hb.os, hb.tape, hb.output, hb.size, fun k hk _ => hb.block k hk⟩ (fun k hk => by cases hk) (h.ref.keepB fun k cur T fr hT hh => hb.block k (smem_lt hh)) (h.mo.below hb) (fun k hk => .inl hk)
theorem Heaps.Pair.put (h : C.Pair w0 w ga gb gr la lb lr vo xs) (hg : w.grownBy w' vo.ownBlock) (hm : LO.Mine w' w0.heap.size vo' xs') (hv : ∀ k, vo'.ownBlock = some k → vo.ownBlock = some k ∨ w.heap.size ≤ k) : C.Pair w0 w' ga gb gr la lb lr vo' xs' := by
  refine h.moved hg (fun k hk => ⟨(h.mo.lt k hk).1, h.na k hk, h.nb k hk⟩) (h.ref.keepB fun k cur T fr hT hh => hg.block k (smem_lt hh) (fun e => ?_)) hm hv
  rcases h.mo with ⟨rfl, _⟩ | ⟨g, off, cap, cur', rfl, _, hh', _⟩
  · cases e
  · simp only [Value.ownBlock, Option.some.injEq] at e
    subst e
    rw [hh] at hh'
    injection hh' with hh'
    injection hh' with _ hh'
    rcases hT with rfl | rfl
    · exact absurd hh' (by decide)
    · exact absurd hh' (by decide)
/-- With the document's slice beside it. -/
theorem pair_turnA (h : C.Pair w0 w ga gb gr la lb lr vo xs ∧ w.cell? ⟨gr, 0, none⟩ = some V) (hc : C.CH w' ga la) (ht : TurnC C.own w w' ga) : C.Pair w0 w' ga gb gr la lb lr vo xs ∧ w'.cell? ⟨gr, 0, none⟩ = some V := by
  obtain ⟨⟨v, hh, _⟩, _⟩ := h.1.ref
  exact ⟨h.1.codesA hc ht, (World.cell?_of_block (ht.block gr (smem_lt hh) (fun ho => C.typed h.1.a ho _ _ _ (.inr rfl) hh))).trans h.2⟩
theorem pair_turnB (h : C.Pair w0 w ga gb gr la lb lr vo xs ∧ w.cell? ⟨gr, 0, none⟩ = some V) (hc : C.CH w' gb lb) (ht : TurnC C.own w w' gb) : C.Pair w0 w' ga gb gr la lb lr vo xs ∧ w'.cell? ⟨gr, 0, none⟩ = some V := by
  obtain ⟨h1, h2⟩ := pair_turnA ⟨h.1.flip, h.2⟩ hc ht
  exact ⟨h1.flip, h2⟩
theorem pair_below (h : C.Pair w0 w ga gb gr la lb lr vo xs ∧ w.cell? ⟨gr, 0, none⟩ = some V) (hb : Below w.heap.size w w') : C.Pair w0 w' ga gb gr la lb lr vo xs ∧ w'.cell? ⟨gr, 0, none⟩ = some V := ⟨h.1.later hb, (hb.cell (p := ⟨gr, 0, none⟩) h.1.ref.lt).trans h.2⟩
theorem pair_draw (h : C.Pair w0 w ga gb gr la lb lr vo xs ∧ w.cell? ⟨gr, 0, none⟩ = some V) : C.Pair w0 w.drew ga gb gr la lb lr vo xs ∧ w.drew.cell? ⟨gr, 0, none⟩ = some V := pair_below h ⟨rfl, rfl, rfl, Nat.le_refl _, fun _ _ => rfl⟩
theorem pair_draws (h : C.Pair w0 w ga gb gr la lb lr vo xs ∧ w.cell? ⟨gr, 0, none⟩ = some V) (d : Nat) : C.Pair w0 (w.drewN d) ga gb gr la lb lr vo xs ∧ (w.drewN d).cell? ⟨gr, 0, none⟩ = some V := pair_below h ⟨rfl, rfl, rfl, Nat.le_refl _, fun _ _ => rfl⟩
end
end Go.Proofs.Ytkbmkbmbkmeenaa
