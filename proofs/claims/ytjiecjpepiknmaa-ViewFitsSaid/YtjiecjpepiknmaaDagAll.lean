/-
  The document's All: events by their positions.
-/
import Derived.Test.YtjiecjpepiknmaaDagPos
namespace Go.Proofs.Ytjiecjpepiknmaa
set_option maxRecDepth 20000
open Go.RowKit
set_option linter.unusedVariables false
set_option linter.unusedSimpArgs false

/-- An event is put where it belongs. -/
def insP (l : List Ev) (e : Ev) : List Ev → List Ev
  | [] => [e]
  | y :: r => bif beforeP (posL l y.id) (posL l e.id) then y :: insP l e r else e :: y :: r
def allTo (l : List Ev) (n : Nat) : List Ev := (l.take n).foldl (fun out e => insP l e out) []
def allL (l : List Ev) : List Ev := l.foldl (fun out e => insP l e out) []
theorem allTo_succ {l : List Ev} {n : Nat} {e : Ev} (h : l[n]? = some e) : allTo l (n + 1) = insP l e (allTo l n) := by
  unfold allTo
  rw [List.take_add_one, h, List.foldl_append]
  rfl
theorem allTo_all (l : List Ev) : allTo l l.length = allL l := by
  unfold allTo allL
  rw [List.take_length]
theorem insP_at {l : List Ev} {e : Ev} : ∀ {out : List Ev} {i : Nat}, (∀ (j : Nat) y, j < i → out[j]? = some y → beforeP (posL l y.id) (posL l e.id) = true) → i ≤ out.length → (∀ y, out[i]? = some y → beforeP (posL l y.id) (posL l e.id) = false) → insP l e out = out.take i ++ (e :: out.drop i)
  | [], i, _, hi, _ => by
    obtain rfl : i = 0 := by simpa using hi
    rfl
  | y :: r, 0, _, _, h => by
    unfold insP
    rw [h y rfl]
    rfl
  | y :: r, i + 1, h, hi, hs => by
    unfold insP
    rw [h 0 y (by omega) rfl, cond_true, insP_at (out := r) (i := i) (fun j z hj hz => h (j + 1) z (by omega) hz) (by simpa using hi) (fun z hz => hs z hz)]
    rfl
theorem insP_len (l : List Ev) (e : Ev) : ∀ out : List Ev, (insP l e out).length = out.length + 1
  | [] => rfl
  | y :: r => by
    unfold insP
    cases beforeP (posL l y.id) (posL l e.id)
    · rfl
    · simp [insP_len l e r]
/-- While events are put in their row. -/
structure AllS (w wr : World) (B2 : Nat) (room : ByteArray) (v : Value) (xs ys : List EvV) (out : Value) : Prop where
  box : wr.heap[B2]? = some (.cells #[.string room, v] 51 (0, 0))
  below : Below w.heap.size w wr
  row : LV.Mine wr w.heap.size out ys
  mem : ∀ y ∈ ys, y ∈ xs
theorem AllS.on {w wr w2 : World} {B2 : Nat} {room : ByteArray} {v : Value} {xs ys : List EvV} {out : Value} (h : AllS w wr B2 room v xs ys out) (hb : Below wr.heap.size wr w2) : AllS w w2 B2 room v xs ys out :=
  ⟨(hb.block B2 (smem_lt h.box)).trans h.box, h.below.trans (hb.mono h.below.size), h.row.below hb, h.mem⟩

end Go.Proofs.Ytjiecjpepiknmaa
