/-
  The document's Heads: events that are no parent.
-/
import Derived.Test.YtjiecjpepiknmaaDagAll
namespace Go.Proofs.Ytjiecjpepiknmaa
set_option maxRecDepth 20000
open Go.RowKit
set_option linter.unusedVariables false
set_option linter.unusedSimpArgs false

def headTo (l : List Ev) (k : ByteArray) (n : Nat) : Bool := (l.take n).all (fun e => e.parents.all (fun p => !decide (p = k)))
def isHead (l : List Ev) (k : ByteArray) : Bool := l.all (fun e => e.parents.all (fun p => !decide (p = k)))
theorem headTo_all (l : List Ev) (k : ByteArray) : headTo l k l.length = isHead l k := by
  unfold headTo isHead
  rw [List.take_length]
def headJ (l : List Ev) (k : ByteArray) (n : Nat) (e : Ev) (j : Nat) : Bool := headTo l k n && (e.parents.take j).all (fun p => !decide (p = k))
theorem headJ_zero (l : List Ev) (k : ByteArray) (n : Nat) (e : Ev) : headJ l k n e 0 = headTo l k n := by
  unfold headJ
  simp
theorem headJ_all {l : List Ev} {k : ByteArray} {n : Nat} {e : Ev} (h : l[n]? = some e) : headJ l k n e e.parents.length = headTo l k (n + 1) := by
  unfold headJ headTo
  rw [List.take_length, List.take_add_one, h, List.all_append]
  simp
theorem headJ_succ {l : List Ev} {k p : ByteArray} {n j : Nat} {e : Ev} (h : e.parents[j]? = some p) : headJ l k n e (j + 1) = (headJ l k n e j && !decide (p = k)) := by
  unfold headJ
  rw [List.take_add_one, h, List.all_append, Bool.and_assoc]
  simp
def headsTo (l a : List Ev) (n : Nat) : List ByteArray := ((a.take n).filter (fun e => isHead l e.id)).map Ev.id
def headsL (l : List Ev) : List ByteArray := ((allL l).filter (fun e => isHead l e.id)).map Ev.id
theorem headsTo_yes {l a : List Ev} {n : Nat} {e : Ev} (h : a[n]? = some e) (hh : isHead l e.id = true) : headsTo l a (n + 1) = headsTo l a n ++ [e.id] := by
  unfold headsTo
  rw [List.take_add_one, h, List.filter_append, List.map_append]
  simp [hh]
theorem headsTo_no {l a : List Ev} {n : Nat} {e : Ev} (h : a[n]? = some e) (hh : isHead l e.id = false) : headsTo l a (n + 1) = headsTo l a n := by
  unfold headsTo
  rw [List.take_add_one, h, List.filter_append, List.map_append]
  simp [hh]
theorem headsTo_len (l a : List Ev) (n : Nat) : (headsTo l a n).length ≤ n := by
  unfold headsTo
  rw [List.length_map]
  refine Nat.le_trans (List.length_filter_le _ _) ?_
  rw [List.length_take]
  omega
theorem headsTo_all (l : List Ev) : headsTo l (allL l) (allL l).length = headsL l := by
  unfold headsTo headsL
  rw [List.take_length]
theorem allL_len (l : List Ev) : (allL l).length = l.length := by
  have key : ∀ (r out : List Ev), (r.foldl (fun out e => insP l e out) out).length = out.length + r.length := by
    intro r
    induction r with
    | nil => intro out; rfl
    | cons x r ih => intro out; rw [List.foldl_cons, ih, insP_len, List.length_cons]; omega
  have := key l []
  simpa [allL] using this
/-- While heads are told. -/
structure HdS (w wr : World) (out : Value) (ts : List ByteArray) : Prop where
  below : Below w.heap.size w wr
  row : LT.Mine wr w.heap.size out ts
theorem HdS.on {w wr w2 : World} {ts : List ByteArray} {out : Value} (h : HdS w wr out ts) (hb : Below wr.heap.size wr w2) : HdS w w2 out ts :=
  ⟨h.below.trans (hb.mono h.below.size), h.row.below hb⟩

end Go.Proofs.Ytjiecjpepiknmaa
