/-
  The heap of the code in memory: its struct, its row of entries, its map; what has turned.
-/
import Derived.Test.YtkbmkbmbkmeenaaHpSmall
import Derived.Maps.Range
import Derived.Maps.AppendAt
namespace Go.Proofs.Ytkbmkbmbkmeenaa
set_option maxRecDepth 20000
open Go.RowKit
set_option linter.unusedVariables false
set_option linter.unusedSimpArgs false

/-- Only blocks of S have turned, and new ones have come. -/
structure Turns (S : Nat → Prop) (w w' : World) : Prop where
  os : w'.os = w.os
  tape : w'.tape = w.tape
  output : w'.output = w.output
  size : w.heap.size ≤ w'.heap.size
  block : ∀ k, k < w.heap.size → ¬ S k → w'.heap[k]? = w.heap[k]?
variable {S : Nat → Prop} {w w' w'' : World} {g mb : Nat} {v : Value} {es : List Ent} {D : Dm}
theorem Turns.refl (w : World) : Turns S w w := ⟨rfl, rfl, rfl, Nat.le_refl _, fun _ _ _ => rfl⟩
theorem Turns.trans (h : Turns S w w') (h' : Turns S w' w'') : Turns S w w'' :=
  ⟨h'.os.trans h.os, h'.tape.trans h.tape, h'.output.trans h.output, Nat.le_trans h.size h'.size, fun k hk hS => (h'.block k (Nat.lt_of_lt_of_le hk h.size) hS).trans (h.block k hk hS)⟩
theorem Turns.below (h : Below w.heap.size w w') : Turns S w w' := ⟨h.os, h.tape, h.output, h.size, fun k hk _ => h.block k hk⟩
theorem Turns.grown {row : Option Nat} (h : w.grownBy w' row) (hr : ∀ k, row = some k → S k) : Turns S w w' :=
  ⟨h.os, h.tape, h.output, h.size, fun k hk hS => h.block k hk (fun e => hS (hr k e.symm))⟩
theorem Turns.wider {S' : Nat → Prop} (h : Turns S w w') (hS : ∀ k, S k → S' k) : Turns S' w w' := ⟨h.os, h.tape, h.output, h.size, fun k hk hn => h.block k hk (fun e => hn (hS k e))⟩
theorem Turns.drew (h : Turns S w w') : Turns S w w'.drew := ⟨h.os, h.tape, h.output, h.size, h.block⟩
theorem Turns.drewN (h : Turns S w w') (n : Nat) : Turns S w (w'.drewN n) := ⟨h.os, h.tape, h.output, h.size, h.block⟩
/-- .. or blocks that are new. -/
theorem Turns.newer {S' : Nat → Prop} (h : Turns S w w') (h' : Turns S' w' w'') (hS : ∀ k, S' k → S k ∨ w.heap.size ≤ k) : Turns S w w'' :=
  ⟨h'.os.trans h.os, h'.tape.trans h.tape, h'.output.trans h.output, Nat.le_trans h.size h'.size, fun k hk hn => (h'.block k (Nat.lt_of_lt_of_le hk h.size) (fun e => by rcases hS k e with e | e; exact hn e; omega)).trans (h.block k hk hn)⟩
theorem grow_below (w : World) (q : Nat) (os : Array Obj) : Below w.heap.size w (Sort.grow (w.drewN q) os) :=
  ⟨rfl, rfl, rfl, by rw [Sort.size_grow]; exact Nat.le_add_right _ _, fun k hk => Sort.heap_grow_old (w.drewN q) os hk⟩

abbrev Own (w : World) (mb n : Nat) (D : Dm) : Prop := w.ownsMap Try.prog 9 (plainElem Try.prog 3) mb n D
theorem keyed : Maps.Keyed Try.prog 9 := Maps.string_keyed Try.underlying9
theorem zeroI (w : World) : (zeroValue 3).run Try.prog w = .ok (.int .i64 0) w := by kernel_rfl
theorem keyIs {k : ByteArray} (h : k.size ≤ maxLen) : keyOf Try.prog 9 (.string k) = some (kl k) := WideMaps.keyOf_string_mk Try.underlying9 h
theorem numIs {i : Nat} (h : i ≤ 1000000) : plainElem (H := Unit) Try.prog 3 (.int .i64 (i : Int)) = some (numD i, []) := plainElem_int Try.underlying3 (WalkArith.wf_i64 (by omega))
theorem Own.exact {n : Nat} (h : Own w mb n D) : Own w mb (Maps.size D) D := by
  obtain ⟨xs, clock, hb, F, _, rfl⟩ := h
  exact ⟨xs, clock, hb, F, by simp [Maps.size, length_sorted], rfl⟩
theorem Own.fine {n : Nat} (h : Own w mb n D) : Fine D := h.entries keyed
theorem Own.is {n : Nat} (h : Own w mb n D) : ∃ xs clock, w.heap[mb]? = some (.map xs clock) := by
  obtain ⟨xs, clock, hb, _⟩ := h
  exact ⟨xs, clock, hb⟩
theorem Own.keep {n : Nat} (h : Own w mb n D) (hb : w'.heap[mb]? = w.heap[mb]?) : Own w' mb n D := by
  obtain ⟨xs, clock, hb', h'⟩ := h
  exact ⟨xs, clock, hb.trans hb', h'⟩

structure HSt (w : World) (g : Nat) (v : Value) (mb : Nat) (es : List Ent) (D : Dm) : Prop where
  hd : w.heap[g]? = some (.cells #[v, .map (some mb)] 60 (0, 0))
  row : LC.Mine w 0 v es
  map : Own w mb (Maps.size D) D
/-- A heap's blocks. -/
def own3 (g : Nat) (v : Value) (mb : Nat) (k : Nat) : Prop := k = g ∨ v.ownBlock = some k ∨ k = mb
theorem HSt.old (h : HSt w g v mb es D) : ∀ k, own3 g v mb k → k < w.heap.size := by
  rintro k (rfl | hk | rfl)
  · exact smem_lt h.hd
  · exact (h.row.lt k hk).2
  · obtain ⟨xs, clock, hb⟩ := h.map.is
    exact smem_lt hb
theorem HSt.keep (h : HSt w g v mb es D) (hk : ∀ k, own3 g v mb k → w'.heap[k]? = w.heap[k]?) : HSt w' g v mb es D :=
  ⟨(hk g (.inl rfl)).trans h.hd, h.row.keep fun k hv => hk k (.inr (.inl hv)), Own.keep h.map (hk mb (.inr (.inr rfl)))⟩
theorem HSt.below (h : HSt w g v mb es D) (hb : Below w.heap.size w w') : HSt w' g v mb es D := h.keep fun k hk => hb.block k (h.old k hk)
theorem HSt.drewN (h : HSt w g v mb es D) (n : Nat) : HSt (w.drewN n) g v mb es D := h.keep fun _ _ => rfl
theorem HSt.drew (h : HSt w g v mb es D) : HSt w.drew g v mb es D := h.keep fun _ _ => rfl
theorem HSt.alloc (h : HSt w g v mb es D) (o : Obj) : HSt (w.alloc o) g v mb es D := h.keep fun k hk => heap_alloc_old w o (h.old k hk)
theorem HSt.gm (h : HSt w g v mb es D) : g ≠ mb := fun e => by
  subst e
  obtain ⟨xs, clock, hb⟩ := h.map.is
  rw [h.hd] at hb
  cases hb
theorem HSt.apart (h : HSt w g v mb es D) : ∀ k, v.ownBlock = some k → k ≠ g ∧ k ≠ mb := by
  intro k hk
  rcases h.row with ⟨rfl, _⟩ | ⟨g', off, cap, cur, rfl, _, hh', _⟩
  · cases hk
  · simp only [Value.ownBlock, Option.some.injEq] at hk
    subst hk
    constructor
    · rintro rfl
      rw [h.hd] at hh'
      injection hh' with hh'
      injection hh' with _ hh'
      exact absurd hh' (by decide)
    · rintro rfl
      obtain ⟨xs, clock, hb⟩ := h.map.is
      rw [hb] at hh'
      cases hh'
/-- An entry is another one. -/
theorem HSt.set {b off n cap i : Nat} (h : HSt w g (.slice (some ⟨b, off, none⟩) n cap) mb es D) (hi : i < es.length) (x : Ent) : HSt (w.setCells b (off + i * 2) [.int .i64 x.tick, .string x.key]) g (.slice (some ⟨b, off, none⟩) n cap) mb (es.set i x) D := by
  obtain ⟨a1, a2⟩ := h.apart b rfl
  exact ⟨(sm_far b g (fun e => a1 e.symm) _ _ _).trans h.hd, h.row.set hi x, Own.keep h.map (sm_far b mb (fun e => a2 e.symm) _ _ _)⟩
/-- The map is another one. -/
theorem HSt.maps {D' : Dm} {n : Nat} (h : HSt w g v mb es D) (hm : Own w' mb n D') (ht : w.mapTurned w' mb) : HSt w' g v mb es D' := by
  have hg := ht.grown
  refine ⟨(hg.block g (smem_lt h.hd) (fun e => h.gm (by injection e))).trans h.hd, h.row.keep fun k hk => hg.block k (h.row.lt k hk).2 (fun e => (h.apart k hk).2 (by injection e)), hm.exact⟩
theorem Turns.maps (ht : w.mapTurned w' mb) : Turns (own3 g v mb) w w' := Turns.grown ht.grown fun k e => by injection e with e; exact .inr (.inr e.symm)
end Go.Proofs.Ytkbmkbmbkmeenaa
