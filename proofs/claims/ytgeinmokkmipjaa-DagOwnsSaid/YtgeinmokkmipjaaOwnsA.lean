/-
  What DagOwns goes by: events that were told may be written over, and the dag stays; the event that is added is taken.
-/
import Derived.Test.YtgeinmokkmipjaaDagMade
import Derived.Test.YtgeinmokkmipjaaDagLives
namespace Go.Proofs.Ytgeinmokkmipjaa
set_option maxRecDepth 20000
open Go.RowKit
set_option linter.unusedVariables false
set_option linter.unusedSimpArgs false

def roomR : ByteArray := ⟨#[33, 114, 58, 115, 49]⟩
theorem roomR_room : namedB 33 roomR = true := by decide +kernel
theorem roomR_size : roomR.size ≤ maxLen := by decide
/-- A row of n texts of one's own from block N on, whatever they are. -/
def TxS (w : World) (N : Nat) (v : Value) (n : Nat) : Prop := (v = .slice none 0 0 ∧ n = 0) ∨ ∃ b off cap cur, v = .slice (some ⟨b, off, none⟩) n cap ∧ N ≤ b ∧ w.heap[b]? = some (.cells cur 9 (0, 0)) ∧ off + n ≤ cur.size
theorem TxS.of {w : World} {N : Nat} {v : Value} {ts : List ByteArray} (h : LT.Mine w N v ts) : TxS w N v ts.length := by
  rcases h with ⟨rfl, rfl⟩ | ⟨g, off, cap, cur, rfl, hN, hh, h1, h2, h3, _⟩
  · exact .inl ⟨rfl, rfl⟩
  · refine .inr ⟨g, off, cap, cur, rfl, hN, hh, ?_⟩
    rw [show LT.c = 1 from rfl, Nat.mul_one] at h3
    omega
theorem TxS.set {w : World} {N n b o : Nat} {v u : Value} (h : TxS w N v n) : TxS (w.setCell ⟨b, o, none⟩ u) N v n := by
  rcases h with h | ⟨b', off, cap, cur, rfl, hN, hh, h1⟩
  · exact .inl h
  · by_cases e : b' = b
    · subst e
      exact .inr ⟨b', off, cap, _, rfl, hN, heap_set hh o u, by simpa using h1⟩
    · exact .inr ⟨b', off, cap, cur, rfl, hN, (Below.heap_setCell w _ u b' e).trans hh, h1⟩
theorem TxS.below {w w' : World} {N n : Nat} {v : Value} (h : TxS w N v n) (hb : Below w.heap.size w w') : TxS w' N v n := by
  rcases h with h | ⟨b', off, cap, cur, rfl, hN, hh, h1⟩
  · exact .inl h
  · exact .inr ⟨b', off, cap, cur, rfl, hN, (hb.block b' (smem_lt hh)).trans hh, h1⟩
section
variable {C : Dags} {w wr w2 : World} {g : Nat} {room : ByteArray} {l : List Ev}
/-- A block that is not the dag's is written. -/
theorem BdS.far (h : BdS C w wr g room l) {b : Nat} (hg : wr.grownBy w2 (some b)) (hb : w.heap.size ≤ b) (hno : ¬ C.own wr g b) : BdS C w w2 g room l ∧ ∀ k, C.own w2 g k → C.own wr g k := by
  obtain ⟨hc, ho⟩ := C.keep h.code hg.size (fun k hk => hg.block k (C.old h.code hk) (fun e => hno (by injection e with e; rw [← e]; exact hk)))
  exact ⟨⟨hc, h.below.grown hg h.below.size (fun k hk => by injection hk with hk; omega), fun k hk => h.fresh k (ho k hk)⟩, ho⟩
/-- Events that were told, and the dag beside them. -/
structure OwL (C : Dags) (w wr : World) (g : Nat) (room : ByteArray) (l : List Ev) (N : Nat) (v : Value) (ys : List EvV) : Prop where
  bd : BdS C w wr g room l
  lo : w.heap.size ≤ N
  row : LV.Mine wr N v ys
  each : ∀ y ∈ ys, TxS wr N y.pv y.ev.parents.length
  no : ∀ y ∈ ys, ∀ k, y.pv.ownBlock = some k → ¬ C.own wr g k
theorem OwL.set {N b off cap j n : Nat} {v u : Value} {ys : List EvV} {y : EvV} (h : OwL C w wr g room l N v ys) (hy : y ∈ ys) (hv : y.pv = .slice (some ⟨b, off, none⟩) n cap) : OwL C w (wr.setCell ⟨b, off + j, none⟩ u) g room l N v ys := by
  have hno := h.no y hy b (by rw [hv]; rfl)
  have hty : N ≤ b ∧ ∃ cur, wr.heap[b]? = some (.cells cur 9 (0, 0)) := by
    rcases h.each y hy with ⟨e, _⟩ | ⟨b', off', cap', cur, e, hN, hh, _⟩
    · rw [hv] at e; cases e
    · rw [hv] at e
      injection e with e
      injection e with e
      injection e with e1 _ _
      subst e1
      exact ⟨hN, cur, hh⟩
  obtain ⟨hN, cur, hh⟩ := hty
  have hg := sm_grown wr b (off + j) [u]
  have hlo := h.lo
  obtain ⟨h1, h2⟩ := h.bd.far hg (by omega) hno
  refine ⟨h1, h.lo, h.row.grown hg (fun k hk e => ?_), fun z hz => (h.each z hz).set, fun z hz k hk ho => h.no z hz k hk (h2 k ho)⟩
  injection e with e
  subst e
  rcases h.row with ⟨e9, _⟩ | ⟨g9, off9, cap9, cur9, e9, _, hh9, _⟩
  · rw [e9] at hk; cases hk
  · rw [e9] at hk
    simp only [Value.ownBlock, Option.some.injEq] at hk
    rw [hk, hh] at hh9
    injection hh9 with hh9
    injection hh9 with _ hh9
    exact absurd hh9 (by decide)
end
def evX (ts : List ByteArray) : Ev := ⟨⟨#[36, 120]⟩, roomR, ts, ⟨#[]⟩, ⟨#[64, 97, 58, 115, 49]⟩, 0⟩
theorem evX_nil : mayE (evX []) = true := by decide +kernel
theorem evX_one : ∀ k : Fin 9, mayE (evX [eventK k.val]) = true := by decide +kernel
theorem key_x : ∀ k : Fin 9, eventK k.val ≠ ⟨#[36, 120]⟩ := by decide +kernel
theorem key_none : ∀ k : Fin 9, eventK k.val ≠ ⟨#[36, 110, 111, 110, 101]⟩ := by decide +kernel
theorem evX_err {l : List Ev} {ts : List ByteArray} (h : Rowed roomR l) (ht : ts = [] ∨ ∃ k, k < l.length ∧ ts = [eventK k]) : errA roomR l (evX ts) = 0 := by
  have h9 := h.le
  have hm : mayE (evX ts) = true := by
    rcases ht with rfl | ⟨k, hk, rfl⟩
    · exact evX_nil
    · exact evX_one ⟨k, by omega⟩
  have hno : hasE l (evX ts).id = false := by
    rw [Bool.eq_false_iff]
    intro hh
    obtain ⟨x, hx, he⟩ := has_iff.1 hh
    obtain ⟨i, hi, rfl⟩ := List.getElem_of_mem hx
    rw [h.ids i _ (List.getElem?_eq_getElem hi)] at he
    exact key_x ⟨i, by omega⟩ he
  have hp : (evX ts).parents.all (hasE l) = true := by
    rcases ht with rfl | ⟨k, hk, rfl⟩
    · rfl
    · show ([eventK k].all (hasE l)) = true
      rw [List.all_cons, List.all_nil, Bool.and_true]
      exact has_iff.2 ⟨l[k], List.getElem_mem hk, h.ids k _ (List.getElem?_eq_getElem hk)⟩
  unfold errA
  rw [hm, hno, hp]
  rfl
/-- A box of the statement's own beside a dag. -/
structure DqS (C : Dags) (w wr : World) (g B : Nat) (room : ByteArray) (l : List Ev) (cs : Array Value) (t : TypeId) : Prop where
  bd : BdS C w wr g room l
  box : wr.heap[B]? = some (.cells cs t (0, 0))
  no : ¬ C.own wr g B
section
variable {C : Dags} {w wr w2 : World} {g B : Nat} {room : ByteArray} {l l' : List Ev} {cs : Array Value} {t : TypeId}
theorem DqS.turn (h : DqS C w wr g B room l cs t) (hc : C.CD w2 g room l') (ht : TurnD C.own wr w2 g) : DqS C w w2 g B room l' cs t :=
  ⟨h.bd.turn hc ht, (ht.block B (smem_lt h.box) h.no).trans h.box, fun ho => by
    rcases ht.owns B ho with hh | hh
    · exact h.no hh
    · have := smem_lt h.box; omega⟩
theorem DqS.later (h : DqS C w wr g B room l cs t) (hb : Below wr.heap.size wr w2) : DqS C w w2 g B room l cs t :=
  ⟨h.bd.later hb, (hb.block B (smem_lt h.box)).trans h.box, fun ho => h.no ((C.keep h.bd.code hb.size (fun k hk => hb.block k (C.old h.bd.code hk))).2 B ho)⟩
theorem DqS.made (h : BdS C w wr g room l) (cs : Array Value) (t : TypeId) : DqS C w (wr.alloc (.cells cs t)) g wr.heap.size room l cs t :=
  ⟨h.later (below_new wr _), heap_alloc_new wr _, fun ho => by
    have h1 := (C.keep h.code (below_new wr (.cells cs t)).size (fun k hk => (below_new wr (.cells cs t)).block k (C.old h.code hk))).2 _ ho
    have := C.old h.code h1
    omega⟩
end
end Go.Proofs.Ytgeinmokkmipjaa
