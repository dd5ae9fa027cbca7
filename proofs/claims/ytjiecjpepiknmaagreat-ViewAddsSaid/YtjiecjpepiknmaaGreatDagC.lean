/-
  What a dag of the code keeps to, told short: its room, its events as they came, the blocks that are its own; what each call does. The statements' walks go by these alone.
-/
import Derived.Test.YtjiecjpepiknmaaGreatDagArg
import Derived.Test.YtjiecjpepiknmaaGreatDagPerm
namespace Go.Proofs.YtjiecjpepiknmaaGreat
set_option maxRecDepth 20000
open Go.RowKit
set_option linter.unusedVariables false
set_option linter.unusedSimpArgs false

/-- A list stays where its block stays. -/
theorem Lies.Slice.stay0 {α : Type} {L : Lies α} {w w' : World} {v : Value} {xs : List α} (h : L.Slice w v xs) (hs : w.heap.size ≤ w'.heap.size) (hb : ∀ k, k < w.heap.size → 0 < xs.length → v.ownBlock = some k → w'.heap[k]? = w.heap[k]?) : L.Slice w' v xs := by
  obtain ⟨A, cap, rfl, h1, h2, h3, h4⟩ := h
  refine ⟨A, cap, rfl, h1, h2, h3, fun h0 => ?_⟩
  obtain ⟨b, off, rfl, hl, hr⟩ := h4 h0
  refine ⟨b, off, rfl, Nat.lt_of_lt_of_le hl hs, fun j u hu => ?_⟩
  exact (World.cell?_of_block (a := ⟨b, off + j, none⟩) (hb b hl h0 rfl)).trans (hr j u hu)
theorem Lies.Slice.stay {α : Type} {L : Lies α} {w w' : World} {v : Value} {xs : List α} (h : L.Slice w v xs) (hs : w.heap.size ≤ w'.heap.size) (hb : ∀ k, k < w.heap.size → v.ownBlock = some k → w'.heap[k]? = w.heap[k]?) : L.Slice w' v xs :=
  h.stay0 hs (fun k hk _ hv => hb k hk hv)
theorem Lies.Slice.foot {α : Type} {L : Lies α} {w : World} {v : Value} {xs : List α} (h : L.Slice w v xs) {k : Nat} (h0 : 0 < xs.length) (hk : v.ownBlock = some k) : k < w.heap.size := by
  obtain ⟨A, cap, rfl, h1, h2, h3, h4⟩ := h
  obtain ⟨b, off, rfl, hl, hr⟩ := h4 h0
  have h5 : b = k := by simpa [Value.ownBlock] using hk
  rw [← h5]; exact hl
/-- The blocks that an event, a list of events lies in. -/
def footV (x : EvV) (k : Nat) : Prop := 0 < x.ev.parents.length ∧ x.pv.ownBlock = some k
def footE (v : Value) (xs : List EvV) (k : Nat) : Prop := (0 < xs.length ∧ v.ownBlock = some k) ∨ ∃ x ∈ xs, footV x k
theorem EvV.at.foot {x : EvV} {w : World} (h : x.at w) {k : Nat} (hk : footV x k) : k < w.heap.size := h.1.foot hk.1 hk.2
theorem EvsS.foot {w : World} {v : Value} {xs : List EvV} (h : EvsS w v xs) {k : Nat} (hk : footE v xs k) : k < w.heap.size := by
  rcases hk with hk | ⟨x, hx, hk⟩
  · exact h.1.foot hk.1 hk.2
  · exact (h.2 x hx).foot hk
theorem EvV.at.stay0 {x : EvV} {w w' : World} (h : x.at w) (hs : w.heap.size ≤ w'.heap.size) (hb : ∀ k, k < w.heap.size → footV x k → w'.heap[k]? = w.heap[k]?) : x.at w' := ⟨h.1.stay0 hs (fun k hk h0 hv => hb k hk ⟨h0, hv⟩), h.2⟩
theorem EvV.at.stay {x : EvV} {w w' : World} (h : x.at w) (hs : w.heap.size ≤ w'.heap.size) (hb : ∀ k, k < w.heap.size → x.pv.ownBlock = some k → w'.heap[k]? = w.heap[k]?) : x.at w' := ⟨h.1.stay hs hb, h.2⟩
theorem EvsS.stay {w w' : World} {v : Value} {xs : List EvV} (h : EvsS w v xs) (hs : w.heap.size ≤ w'.heap.size) (hb : ∀ k, k < w.heap.size → footE v xs k → w'.heap[k]? = w.heap[k]?) : EvsS w' v xs :=
  ⟨h.1.stay0 hs (fun k hk h0 hv => hb k hk (.inl ⟨h0, hv⟩)), fun x hx => (h.2 x hx).stay0 hs (fun k hk hv => hb k hk (.inr ⟨x, hx, hv⟩))⟩
/-- From w to w' only the dag's own blocks have turned, and new ones have come. -/
structure TurnD (own : World → Nat → Nat → Prop) (w w' : World) (g : Nat) : Prop where
  os : w'.os = w.os
  tape : w'.tape = w.tape
  output : w'.output = w.output
  size : w.heap.size ≤ w'.heap.size
  block : ∀ k, k < w.heap.size → ¬ own w g k → w'.heap[k]? = w.heap[k]?
  owns : ∀ k, own w' g k → own w g k ∨ w.heap.size ≤ k
theorem TurnD.trans {own : World → Nat → Nat → Prop} {w w' w'' : World} {g : Nat} (h : TurnD own w w' g) (h' : TurnD own w' w'' g) : TurnD own w w'' g :=
  ⟨h'.os.trans h.os, h'.tape.trans h.tape, h'.output.trans h.output, Nat.le_trans h.size h'.size,
   fun k hk ho => (h'.block k (Nat.lt_of_lt_of_le hk h.size) (fun hh => by rcases h.owns k hh with hh | hh; exact ho hh; omega)).trans (h.block k hk ho),
   fun k hk => by
    rcases h'.owns k hk with hh | hh
    · exact h.owns k hh
    · exact .inr (Nat.le_trans h.size hh)⟩
theorem TurnD.below {own : World → Nat → Nat → Prop} {w w' : World} {g B : Nat} (h : TurnD own w w' g) (hf : ∀ k, own w g k → B ≤ k) (hB : B ≤ w.heap.size) : Below B w w' :=
  ⟨h.os, h.tape, h.output, h.size, fun k hk => h.block k (Nat.lt_of_lt_of_le hk hB) (fun ho => by have := hf k ho; omega)⟩
/-- What is told is new memory, and not the dag's. -/
def ToldD (own : World → Nat → Nat → Prop) (w : World) (g : Nat) (v : Value) : Prop := ∀ k, v.ownBlock = some k → ¬ own w g k

structure Dags where
  CD : World → Nat → ByteArray → List Ev → Prop
  own : World → Nat → Nat → Prop
  old : ∀ {w g room l k}, CD w g room l → own w g k → k < w.heap.size
  valid : ∀ {w g room l}, CD w g room l → Valid room l
  keep : ∀ {w w' : World} {g room l}, CD w g room l → w.heap.size ≤ w'.heap.size → (∀ k, own w g k → w'.heap[k]? = w.heap[k]?) → CD w' g room l ∧ ∀ k, own w' g k → own w g k
  new : ∀ w (room : ByteArray), room.size ≤ maxLen → namedB 33 room = true → Calls Tryz.prog 82 #[.string room] w fun e w' => ∃ g, e = .returned (.pointer (some ⟨g, 0, none⟩)) ∧ CD w' g room [] ∧ Below w.heap.size w w' ∧ ∀ k, own w' g k → w.heap.size ≤ k
  new40 : ∀ w (room : ByteArray), room.size ≤ 40 → Calls Tryz.prog 82 #[.string room] w fun e w' => ∃ g, e = .returned (.pointer (some ⟨g, 0, none⟩)) ∧ CD w' g room [] ∧ Below w.heap.size w w' ∧ ∀ k, own w' g k → w.heap.size ≤ k
  add : ∀ {w g room l} (x : EvV), CD w g room l → l.length ≤ 100 → x.at w → Calls Tryz.prog 53 #[.pointer (some ⟨g, 0, none⟩), x.val] w fun e w' => e = .returned (.int .i64 (errA room l x.ev)) ∧ CD w' g room (addA room l x.ev) ∧ TurnD own w w' g
  has : ∀ {w g room l} (k : ByteArray), CD w g room l → l.length ≤ 100 → k.size ≤ maxLen → Calls Tryz.prog 84 #[.pointer (some ⟨g, 0, none⟩), .string k] w fun e w' => e = .returned (.bool (hasE l k)) ∧ CD w' g room l ∧ TurnD own w w' g
  event : ∀ {w g room l} (k : ByteArray), CD w g room l → l.length ≤ 100 → k.size ≤ maxLen → Calls Tryz.prog 93 #[.pointer (some ⟨g, 0, none⟩), .string k] w fun e w' => ∃ y : EvV, e = .returned (.tuple #[y.val, .bool (hasE l k)]) ∧ y.at w' ∧ LT.Mine w' w.heap.size y.pv y.ev.parents ∧ ToldD own w' g y.pv ∧ (hasE l k = true → y.ev ∈ l ∧ y.ev.id = k) ∧ CD w' g room l ∧ TurnD own w w' g
  position : ∀ {w g room l} (k : ByteArray), CD w g room l → l.length ≤ 100 → k.size ≤ maxLen → Calls Tryz.prog 62 #[.pointer (some ⟨g, 0, none⟩), .string k] w fun e w' => ∃ p : Po, e = .returned (.tuple #[p.val, .bool (hasE l k)]) ∧ (hasE l k = true → p = posL l k) ∧ (hasE l k = false → p = ⟨0, ⟨#[]⟩⟩) ∧ CD w' g room l ∧ TurnD own w w' g
  may : ∀ {w} (x : EvV), x.at w → Calls Tryz.prog 83 #[x.val] w fun e w' => e = .returned (.bool (mayE x.ev)) ∧ Below w.heap.size w w'
  compare : ∀ {w} (p q : Po), Calls Tryz.prog 121 #[p.val, q.val] w fun e w' => e = .returned (.int .i64 (cmpP p q)) ∧ Below w.heap.size w w'
structure DagRms (C : Dags) : Prop where
  room : ∀ {w g room l}, C.CD w g room l → l.length ≤ 100 → Calls Tryz.prog 54 #[.pointer (some ⟨g, 0, none⟩)] w fun e w' => e = .returned (.string room) ∧ C.CD w' g room l ∧ TurnD C.own w w' g
structure DagAlls (C : Dags) : Prop where
  all : ∀ {w g room l}, C.CD w g room l → l.length ≤ 100 → Calls Tryz.prog 56 #[.pointer (some ⟨g, 0, none⟩)] w fun e w' => ∃ v, e = .returned v ∧ ∃ ys, LV.Mine w' w.heap.size v ys ∧ ToldD C.own w' g v ∧ (∀ y ∈ ys, y.at w' ∧ LT.Mine w' w.heap.size y.pv y.ev.parents ∧ ToldD C.own w' g y.pv) ∧ evs ys = allL l ∧ C.CD w' g room l ∧ TurnD C.own w w' g
structure DagHds (C : Dags) : Prop where
  heads : ∀ {w g room l}, C.CD w g room l → l.length ≤ 100 → Calls Tryz.prog 59 #[.pointer (some ⟨g, 0, none⟩)] w fun e w' => ∃ v, e = .returned v ∧ LT.Mine w' w.heap.size v (headsL l) ∧ ToldD C.own w' g v ∧ C.CD w' g room l ∧ TurnD C.own w w' g
structure DagSms (C : Dags) : Prop where
  same : ∀ {w} (x y : EvV), x.at w → y.at w → Calls Tryz.prog 79 #[x.val, y.val] w fun e w' => e = .returned (.bool (decide (x.ev = y.ev))) ∧ Below w.heap.size w w'
variable {C : Dags}
/-- The document's memory beside a dag of the code: it stays, whatever is called. -/
theorem Dags.stays {w w' : World} {g : Nat} {v : Value} {xs : List EvV} (h : EvsS w v xs) (ha : ∀ k, footE v xs k → ¬ C.own w g k) (ht : TurnD C.own w w' g) : EvsS w' v xs ∧ ∀ k, k < w.heap.size → footE v xs k → ¬ C.own w' g k :=
  ⟨h.stay ht.size (fun k hk hf => ht.block k hk (ha k hf)), fun k hk hf ho => by
    rcases ht.owns k ho with hh | hh
    · exact ha k hf hh
    · omega⟩
end Go.Proofs.YtjiecjpepiknmaaGreat
