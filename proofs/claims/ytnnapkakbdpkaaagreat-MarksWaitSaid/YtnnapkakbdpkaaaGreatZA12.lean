/-
  What the statements stand on, part ZA12.
-/
import Derived.Test.YtnnapkakbdpkaaaGreatZA11
set_option linter.unusedVariables false
set_option linter.unusedSimpArgs false
namespace Go.Proofs.YtnnapkakbdpkaaaGreat
set_option maxRecDepth 20000
open Go.RowKit
theorem nevs_len (ns : List NdV) : (nevs ns).length = ns.length := List.length_map _
def codeDags : Dags where
 CD := CDc
 own := ownC
 old := fun {w g room l k} h ho => by
  obtain ⟨mb, ns, D, h, _⟩ := h
  exact h.old ho
 valid := fun {w g room l} h => by
  obtain ⟨mb, ns, D, h, rfl⟩ := h
  exact h.val
 keep := fun {w w' g room l} h hs hk => by
  obtain ⟨mb, ns, D, h, rfl⟩ := h
  have h' := h.keep hk
  exact ⟨⟨mb, ns, D, h', rfl⟩, fun k ho => (h.own k).2 ((h'.own k).1 ho)⟩
 new := fun w room hs hr => new_any w room hr
 new40 := fun w room hs => new40_any w room hs
 add := fun {w g room l} x h hl hx => by
  obtain ⟨mb, ns, D, h, rfl⟩ := h
  exact add_any7 h (by rw [nevs_len] at hl; omega) x hx
 has := fun {w g room l} k h hl hk => by
  obtain ⟨mb, ns, D, h, rfl⟩ := h
  refine (has_code h k hk).mono ?_
  rintro e w' ⟨rfl, hb⟩
  exact ⟨rfl, h.still hb⟩
 event := fun {w g room l} k h hl hk => by
  obtain ⟨mb, ns, D, h, rfl⟩ := h
  refine (event_code7 h k hk).mono ?_
  rintro e w' ⟨y, rfl, hm, h0, h1, hb⟩
  refine ⟨y, rfl, ⟨hm.slice, ?_⟩, hm, fun j hj ho => ?_, h1, h.still hb⟩
  ·cases hh : hasE (nevs ns) k
   ·exact h0 hh
   ·obtain ⟨n, hn, he⟩ := List.mem_map.1 (h1 hh).1
    rw [← he]
    exact may_ok (h.node hn).1
  ·have h2 := (hm.lt j hj).1
   have h3 := h.old ((h.own j).2 (((h.below hb).own j).1 ho))
   omega
 position := fun {w g room l} k h hl hk => by
  obtain ⟨mb, ns, D, h, rfl⟩ := h
  refine (position_code h k hk).mono ?_
  rintro e w' ⟨q, rfl, h1, h0, hb⟩
  refine ⟨q, rfl, fun hh => ?_, h0, h.still hb⟩
  obtain ⟨n, hn, he, hq⟩ := h1 hh
  rw [hq, h.depth hn, he]
  rfl
 may := fun {w} x hx => may_any x w hx
 compare := fun {w} p q => compare_any p q w
end Go.Proofs.YtnnapkakbdpkaaaGreat

namespace Go.Proofs.YtnnapkakbdpkaaaGreat
set_option maxRecDepth 20000
open Go.RowKit Go.Maps Go.ChangeMaps
structure TurnP (P : Nat → Prop) (w w' : World) : Prop where
 os : w'.os = w.os
 tape : w'.tape = w.tape
 output : w'.output = w.output
 size : w.heap.size ≤ w'.heap.size
 block : ∀ k, k < w.heap.size → ¬ P k → w'.heap[k]? = w.heap[k]?
theorem TurnP.below {P : Nat → Prop} {w w' : World} {B : Nat} (h : TurnP P w w') (hf : ∀ k, P k → B ≤ k) (hB : B ≤ w.heap.size) : Below B w w' := ⟨h.os, h.tape, h.output, h.size, fun k hk => h.block k (Nat.lt_of_lt_of_le hk hB) (fun hh => by have := hf k hh; omega)⟩
theorem TurnD.refl {own : World → Nat → Nat → Prop} (w : World) (g : Nat) : TurnD own w w g := ⟨rfl, rfl, rfl, Nat.le_refl _, fun _ _ _ => rfl, fun _ h => .inl h⟩
theorem Dags.later {C : Dags} {w w' : World} {g : Nat} {room : ByteArray} {l : List Ev} (hc : C.CD w g room l) (hb : Below w.heap.size w w') : C.CD w' g room l ∧ TurnD C.own w w' g := by
 obtain ⟨h1, h2⟩ := C.keep hc hb.size (fun k hk => hb.block k (C.old hc hk))
 exact ⟨h1, ⟨hb.os, hb.tape, hb.output, hb.size, fun k hk _ => hb.block k hk, fun k hk => .inl (h2 k hk)⟩⟩
theorem below_drew (w : World) : Below w.heap.size w w.drew := (Below.refl _ w).drew
structure DgI where
 room : ByteArray
 g : Nat
 l : List Ev
abbrev DgI.rl (d : DgI) : ByteArray × List Ev := (d.room, d.l)
def DgI.ptr (d : DgI) : Value := .pointer (some ⟨d.g, 0, none⟩)
def DgI.entry (d : DgI) : Lit × Dv := (kl d.room, .held d.ptr)
def VdM (D : Dv) (ds : List DgI) : Prop := ∃ es, D = .map es ∧ es.Perm (ds.map DgI.entry)
theorem VdM.nil : VdM (.map []) [] := ⟨[], rfl, List.Perm.refl _⟩
theorem VdM.size {D : Dv} {ds : List DgI} (h : VdM D ds) : Maps.size D = ds.length := by
 obtain ⟨es, rfl, hp⟩ := h
 rw [Maps.size_eq, hp.length_eq, List.length_map]
theorem vd_apart {ds : List DgI} {es : List (Lit × Dv)} (hp : es.Perm (ds.map DgI.entry)) (hu : Up (ds.map DgI.room)) : es.Pairwise (fun p q => p.1 ≠ q.1) := by
 have h1 : (ds.map DgI.entry).Pairwise (fun p q => p.1 ≠ q.1) := by
  rw [List.pairwise_map]
  rw [Up, List.pairwise_map] at hu
  exact hu.imp (fun h e => up_ne h (kl_inj e))
 exact (hp.pairwise_iff (fun h e => h e.symm)).2 h1
theorem VdM.has_iff {D : Dv} {ds : List DgI} (h : VdM D ds) (k : ByteArray) : Maps.has D (kl k) = true ↔ ∃ d ∈ ds, d.room = k := by
 obtain ⟨es, rfl, hp⟩ := h
 rw [Maps.has_eq, List.any_eq_true]
 constructor
 ·rintro ⟨p, hm, hk⟩
  obtain ⟨d, hd, rfl⟩ := List.mem_map.1 (hp.mem_iff.1 hm)
  refine ⟨d, hd, ?_⟩
  simp only [DgI.entry, kl, Lit.sameKey, beq_iff_eq] at hk
  exact (key_eq _ _).2 hk
 ·rintro ⟨d, hd, rfl⟩
  exact ⟨d.entry, hp.mem_iff.2 (List.mem_map.2 ⟨d, hd, rfl⟩), WideAt.sameKey_self (kl_key _)⟩
theorem VdM.at_ {D : Dv} {ds : List DgI} (h : VdM D ds) (hu : Up (ds.map DgI.room)) {d : DgI} (hm : d ∈ ds) (zd : Dv) : D.atKey (kl d.room) zd = .held d.ptr := by
 obtain ⟨es, rfl, hp⟩ := h
 exact WideAt.atKey_mem zd (kl_key _) (vd_apart hp hu) (hp.mem_iff.2 (List.mem_map.2 ⟨d, hm, rfl⟩))
theorem VdM.put {D : Dv} {ds : List DgI} (h : VdM D ds) (hu : Up (ds.map DgI.room)) (d : DgI) : VdM (D.put (kl d.room) (.held d.ptr)) (putK DgI.room d ds) := by
 obtain ⟨es, rfl, hp⟩ := h
 refine ⟨_, DataW.put_eq _ _ _, ?_⟩
 unfold putKey
 refine (WideShapes.insert_perm _ _).trans ?_
 refine List.Perm.trans ?_ ((putK_perm hu).map DgI.entry).symm
 rw [List.map_cons]
 refine List.Perm.cons _ ?_
 have h2 := (hp.filter (notKey (kl d.room)))
 refine h2.trans (List.Perm.of_eq ?_)
 rw [List.filter_map]
 congr 1
 apply List.filter_congr
 intro z _
 simp only [Function.comp_apply, DgI.entry, notKey, kl, Lit.sameKey]
 congr 1
 rw [Bool.eq_iff_iff, beq_iff_eq, decide_eq_true_eq]
 exact ((key_eq _ _).symm)
theorem OwnN.tight {w : World} {mb n : Nat} {D : Dv} (h : OwnN w mb n D) : OwnN w mb (Maps.size D) D := by
 obtain ⟨es, clock, hb, F, hs, rfl⟩ := h
 exact ⟨es, clock, hb, F, by simp [Maps.size, length_sorted], rfl⟩
structure VI where
 g : Nat
 mb : Nat
 ds : List DgI
 D : Dv
def VI.V (v : VI) : Vw := v.ds.map DgI.rl
def VI.own (C : Dags) (v : VI) (w : World) (k : Nat) : Prop := k = v.g ∨ k = v.mb ∨ ∃ d ∈ v.ds, C.own w d.g k
structure CVs (C : Dags) (w : World) (v : VI) : Prop where
 hd : w.heap[v.g]? = some (.cells #[.map (some v.mb)] 105 (0, 0))
 map : OwnN w v.mb v.ds.length v.D
 is : VdM v.D v.ds
 dag : ∀ d ∈ v.ds, C.CD w d.g d.room d.l ∧ ∀ k, C.own w d.g k → k ≠ v.g ∧ k ≠ v.mb
 apart : ∀ d ∈ v.ds, ∀ d' ∈ v.ds, d.room ≠ d'.room → ∀ k, C.own w d.g k → ¬ C.own w d'.g k
 ok : VOk 100 v.V
section
variable {C : Dags} {w w' wr wa : World} {v v' : VI} {d : DgI}
theorem VI.V_room (v : VI) : v.V.map Prod.fst = v.ds.map DgI.room := by
 unfold VI.V
 rw [List.map_map]
 rfl
theorem CVs.up (h : CVs C w v) : Up (v.ds.map DgI.room) := by
 rw [← VI.V_room]
 exact h.ok.up
theorem CVs.each (h : CVs C w v) (hd : d ∈ v.ds) : Valid d.room d.l ∧ d.l.length ≤ 100 ∧ d.room.size ≤ 40 := h.ok.each d.rl (List.mem_map.2 ⟨d, hd, rfl⟩)
theorem CVs.of_ (h : CVs C w v) (hd : d ∈ v.ds) : ofL v.V d.room = d.l := ofL_in h.ok.up (p := d.rl) (List.mem_map.2 ⟨d, hd, rfl⟩)
theorem CVs.noRoom (h : CVs C w v) {r : ByteArray} (hr : ¬ ∃ d ∈ v.ds, d.room = r) : ofL v.V r = [] := ofL_out (by
 rw [VI.V_room]
 intro hm
 obtain ⟨d, hd, he⟩ := List.mem_map.1 hm
 exact hr ⟨d, hd, he⟩)
theorem CVs.len (h : CVs C w v) : v.ds.length ≤ 100 := by
 have := h.ok.len
 unfold VI.V at this
 rw [List.length_map] at this
 exact this
theorem CVs.old (h : CVs C w v) {k : Nat} (ho : v.own C w k) : k < w.heap.size := by
 rcases ho with rfl | rfl | ⟨d, hd, hk⟩
 ·exact smem_lt h.hd
 ·exact h.map.lt
 ·exact C.old (h.dag d hd).1 hk
theorem CVs.keep (h : CVs C w v) (hs : w.heap.size ≤ w'.heap.size) (hb : ∀ k, v.own C w k → w'.heap[k]? = w.heap[k]?) : CVs C w' v ∧ ∀ k, v.own C w' k → v.own C w k := by
 have hk : ∀ d ∈ v.ds, C.CD w' d.g d.room d.l ∧ ∀ k, C.own w' d.g k → C.own w d.g k := fun d hd => C.keep (h.dag d hd).1 hs (fun k hk => hb k (.inr (.inr ⟨d, hd, hk⟩)))
 refine ⟨⟨(hb v.g (.inl rfl)).trans h.hd, h.map.keep (hb v.mb (.inr (.inl rfl))), h.is, fun d hd => ⟨(hk d hd).1, fun k ho => (h.dag d hd).2 k ((hk d hd).2 k ho)⟩, fun d hd d' hd' hr k ho ho' => h.apart d hd d' hd' hr k ((hk d hd).2 k ho) ((hk d' hd').2 k ho'), h.ok⟩, fun k ho => ?_⟩
 rcases ho with rfl | rfl | ⟨d, hd, ho⟩
 ·exact .inl rfl
 ·exact .inr (.inl rfl)
 ·exact .inr (.inr ⟨d, hd, (hk d hd).2 k ho⟩)
theorem CVs.turn (h : CVs C w v) (hd : d ∈ v.ds) (hc : C.CD w' d.g d.room d.l) (ht : TurnD C.own w w' d.g) : CVs C w' v ∧ TurnP (v.own C w) w w' ∧ (∀ k, v.own C w' k → v.own C w k ∨ (w.heap.size ≤ k ∧ C.own w' d.g k)) ∧ w'.heap[v.mb]? = w.heap[v.mb]? := by
 have hoth : ∀ d' ∈ v.ds, d' ≠ d → C.CD w' d'.g d'.room d'.l ∧ ∀ k, C.own w' d'.g k → C.own w d'.g k := fun d' hd' hne => C.keep (h.dag d' hd').1 ht.size (fun k hk => ht.block k (C.old (h.dag d' hd').1 hk) (fun ho => h.apart d' hd' d hd (fun e => hne (up_keys h.up hd' hd e)) k hk ho))
 have hcd : ∀ d' ∈ v.ds, C.CD w' d'.g d'.room d'.l ∧ ∀ k, C.own w' d'.g k → C.own w d'.g k ∨ (w.heap.size ≤ k ∧ d' = d) := fun d' hd' => by
  by_cases hne : d' = d
  ·subst hne
   exact ⟨hc, fun k hk => by
    rcases ht.owns k hk with hh | hh
    ·exact .inl hh
    ·exact .inr ⟨hh, rfl⟩⟩
  ·obtain ⟨h1, h2⟩ := hoth d' hd' hne
   exact ⟨h1, fun k hk => .inl (h2 k hk)⟩
 have hmb : w'.heap[v.mb]? = w.heap[v.mb]? := ht.block v.mb h.map.lt (fun ho => ((h.dag d hd).2 _ ho).2 rfl)
 have hg := smem_lt h.hd
 have hm := h.map.lt
 refine ⟨⟨(ht.block v.g hg (fun ho => ((h.dag d hd).2 _ ho).1 rfl)).trans h.hd, h.map.keep hmb, h.is, fun d' hd' => ⟨(hcd d' hd').1, fun k hk => ?_⟩, fun d1 h1 d2 h2 hr k k1 k2 => ?_, h.ok⟩, ⟨ht.os, ht.tape, ht.output, ht.size, fun k hk hn => ht.block k hk (fun ho => hn (.inr (.inr ⟨d, hd, ho⟩)))⟩, fun k ho => ?_, hmb⟩
 ·rcases (hcd d' hd').2 k hk with hh | ⟨hh, -⟩
  ·exact (h.dag d' hd').2 k hh
  ·exact ⟨by omega, by omega⟩
 ·rcases (hcd d1 h1).2 k k1 with e1 | ⟨e1, e1'⟩
  ·rcases (hcd d2 h2).2 k k2 with e2 | ⟨e2, e2'⟩
   ·exact h.apart d1 h1 d2 h2 hr k e1 e2
   ·have := C.old (h.dag d1 h1).1 e1; omega
  ·rcases (hcd d2 h2).2 k k2 with e2 | ⟨e2, e2'⟩
   ·have := C.old (h.dag d2 h2).1 e2; omega
   ·rw [e1', e2'] at hr; exact hr rfl
 ·rcases ho with rfl | rfl | ⟨d', hd', ho⟩
  ·exact .inl (.inl rfl)
  ·exact .inl (.inr (.inl rfl))
  ·rcases (hcd d' hd').2 k ho with hh | ⟨hh, e⟩
   ·exact .inl (.inr (.inr ⟨d', hd', hh⟩))
   ·exact .inr ⟨hh, e ▸ ho⟩
end
structure Th where
 P : Nat → Prop
 I : World → Prop
 lt : ∀ w k, I w → P k → k < w.heap.size
 st : ∀ w w' : World, I w → w.heap.size ≤ w'.heap.size → (∀ k, k < w.heap.size → P k → w'.heap[k]? = w.heap[k]?) → I w'
def Th.box (B : Nat) (o : Obj) : Th := ⟨fun k => k = B, fun w => w.heap[B]? = some o, fun w k h e => by rw [e]; exact smem_lt h, fun w w' h hs hb => (hb B (smem_lt h) rfl).trans h⟩
def Th.low (B : Nat) : Th := ⟨fun _ => False, fun w => B ≤ w.heap.size, fun w k h e => e.elim, fun w w' h hs hb => Nat.le_trans h hs⟩
def Th.ev (x : EvV) : Th := ⟨footV x, fun w => x.at w, fun w k h hk => h.foot hk, fun w w' h hs hb => h.stay0 hs (fun k hk hf => hb k hk hf)⟩
def Th.evs (v : Value) (xs : List EvV) : Th := ⟨footE v xs, fun w => EvsS w v xs, fun w k h hk => h.foot hk, fun w w' h hs hb => h.stay hs (fun k hk hf => hb k hk hf)⟩
def Th.row {α : Type} (L : Lies α) (v : Value) (us : List α) : Th := ⟨fun k => 0 < us.length ∧ v.ownBlock = some k, fun w => L.Slice w v us, fun w k h hk => h.foot hk.1 hk.2, fun w w' h hs hb => h.stay0 hs (fun k hk h0 hv => hb k hk ⟨h0, hv⟩)⟩
def Th.mine {α : Type} (L : Lies α) (B : Nat) (v : Value) (us : List α) : Th := ⟨fun k => v.ownBlock = some k, fun w => L.Mine w B v us, fun w k h hk => (h.lt k hk).2, fun w w' h hs hb => h.keep (fun k hk => hb k (h.lt k hk).2 hk)⟩
structure Kv (C : Dags) (w wr : World) (vs : List VI) (ts : List Th) : Prop where
 below : Below w.heap.size w wr
 vw : ∀ (i : Nat) v, vs[i]? = some v → CVs C wr v ∧ ∀ k, v.own C wr k → w.heap.size ≤ k
 off : ∀ (i j : Nat) v v', vs[i]? = some v → vs[j]? = some v' → i ≠ j → ∀ k, v.own C wr k → ¬ v'.own C wr k
 th : ∀ t ∈ ts, t.I wr ∧ ∀ (i : Nat) v, vs[i]? = some v → ∀ k, t.P k → ¬ v.own C wr k
section
variable {C : Dags} {w w' wr : World} {vs : List VI} {ts ts' : List Th} {v v' : VI} {d : DgI} {i : Nat} {t : Th}
theorem Kv.start (w : World) : Kv C w w [] [] := ⟨Below.refl _ _, fun i v h => (by simp at h), fun i j v v' h => (by simp at h), fun t h => (by cases h)⟩
theorem Kv.size (h : Kv C w wr vs ts) : w.heap.size ≤ wr.heap.size := h.below.size
theorem Kv.is (h : Kv C w wr vs ts) (ht : t ∈ ts) : t.I wr := (h.th t ht).1
theorem Kv.cv (h : Kv C w wr vs ts) (hi : vs[i]? = some v) : CVs C wr v := (h.vw i v hi).1
theorem Kv.turn (h : Kv C w wr vs ts) (hi : vs[i]? = some v) (hc : CVs C w' v') (ht : TurnP (v.own C wr) wr w') (ho : ∀ k, v'.own C w' k → v.own C wr k ∨ wr.heap.size ≤ k) : Kv C w w' (vs.set i v') ts := by
 obtain ⟨hcv, hlo⟩ := h.vw i v hi
 have hil := (List.getElem?_eq_some_iff.1 hi).1
 have hsz := h.below.size
 have hoth : ∀ (j : Nat) u, vs[j]? = some u → j ≠ i → CVs C w' u ∧ ∀ k, u.own C w' k → u.own C wr k := fun j u hu hj => (h.cv hu).keep ht.size (fun k hk => ht.block k ((h.cv hu).old hk) (h.off j i u v hu hi hj k hk))
 refine ⟨h.below.trans (ht.below hlo hsz), fun j u hu => ?_, fun j k' u u' hu hu' hne k k1 k2 => ?_, fun t htm => ⟨?_, fun j u hu k hk hown => ?_⟩⟩
 ·rw [List.getElem?_set] at hu
  split at hu
  ·injection hu with hu
   subst hu
   exact ⟨hc, fun k hk => by
    rcases ho k hk with hh | hh
    ·exact hlo k hh
    ·omega⟩
  ·rename_i hne
   obtain ⟨h1, h2⟩ := hoth j u hu (fun e => hne e.symm)
   exact ⟨h1, fun k hk => (h.vw j u hu).2 k (h2 k hk)⟩
 ·rw [List.getElem?_set] at hu hu'
  by_cases e1 : i = j
  ·rw [if_pos e1, if_pos (by omega)] at hu
   have e2 : i ≠ k' := fun e => hne (by omega)
   rw [if_neg e2] at hu'
   injection hu with hu
   subst hu
   have k3 := (hoth k' u' hu' (fun e => e2 e.symm)).2 k k2
   rcases ho k k1 with hh | hh
   ·exact h.off i k' v u' hi hu' e2 k hh k3
   ·have := (h.cv hu').old k3; omega
  ·rw [if_neg e1] at hu
   have k3 := (hoth j u hu (fun e => e1 e.symm)).2 k k1
   by_cases e2 : i = k'
   ·rw [if_pos e2, if_pos (by omega)] at hu'
    injection hu' with hu'
    subst hu'
    rcases ho k k2 with hh | hh
    ·exact h.off j i u v hu hi (fun e => e1 e.symm) k k3 hh
    ·have := (h.cv hu).old k3; omega
   ·rw [if_neg e2] at hu'
    exact h.off j k' u u' hu hu' hne k k3 ((hoth k' u' hu' (fun e => e2 e.symm)).2 k k2)
 ·exact t.st wr w' (h.is htm) ht.size (fun k hk hp => ht.block k hk ((h.th t htm).2 i v hi k hp))
 ·have hkl := t.lt wr k (h.is htm) hk
  rw [List.getElem?_set] at hu
  split at hu
  ·injection hu with hu
   subst hu
   rcases ho k hown with hh | hh
   ·exact (h.th t htm).2 i v hi k hk hh
   ·omega
  ·rename_i hne
   exact (h.th t htm).2 j u hu k hk ((hoth j u hu (fun e => hne e.symm)).2 k hown)
theorem set_same {α : Type} {l : List α} {i : Nat} {x : α} (h : l[i]? = some x) : l.set i x = l := by
 apply List.ext_getElem?
 intro j
 rw [List.getElem?_set]
 split
 ·rename_i e
  subst e
  rw [if_pos (List.getElem?_eq_some_iff.1 h).1, h]
 ·rfl
theorem Kv.dag (h : Kv C w wr vs ts) (hi : vs[i]? = some v) (hd : d ∈ v.ds) (hc : C.CD w' d.g d.room d.l) (ht : TurnD C.own wr w' d.g) : Kv C w w' vs ts ∧ (∀ (j : Nat) u, vs[j]? = some u → w'.heap[u.mb]? = wr.heap[u.mb]?) ∧ ∀ k, wr.heap.size ≤ k → ¬ C.own w' d.g k → ∀ (j : Nat) u, vs[j]? = some u → ¬ u.own C w' k := by
 obtain ⟨h1, h2, h3, h4⟩ := (h.cv hi).turn hd hc ht
 have hk := h.turn hi h1 h2 (fun k hk => by
  rcases h3 k hk with hh | ⟨hh, -⟩
  ·exact .inl hh
  ·exact .inr hh)
 rw [set_same hi] at hk
 have hoth : ∀ (j : Nat) u, vs[j]? = some u → j ≠ i → CVs C w' u ∧ ∀ k, u.own C w' k → u.own C wr k := fun j u hu hj => (h.cv hu).keep ht.size (fun k hk => h2.block k ((h.cv hu).old hk) (h.off j i u v hu hi hj k hk))
 refine ⟨hk, fun j u hu => ?_, fun k hk1 hk2 j u hu ho => ?_⟩
 ·by_cases hj : j = i
  ·subst hj
   rw [hi] at hu
   injection hu with hu
   subst hu
   exact h4
  ·exact h2.block _ ((h.cv hu).old (.inr (.inl rfl))) (h.off j i u v hu hi hj _ (.inr (.inl rfl)))
 ·by_cases hj : j = i
  ·subst hj
   rw [hi] at hu
   injection hu with hu
   subst hu
   rcases h3 k ho with hh | ⟨-, hh⟩
   ·have := (h.cv hi).old hh; omega
   ·exact hk2 hh
  ·have := (h.cv hu).old ((hoth j u hu hj).2 k ho)
   omega
theorem Kv.less (h : Kv C w wr vs ts) (hs : ∀ t ∈ ts', t ∈ ts) : Kv C w wr vs ts' := ⟨h.below, h.vw, h.off, fun t ht => h.th t (hs t ht)⟩
theorem Kv.later (h : Kv C w wr vs ts) (hb : Below wr.heap.size wr w') : Kv C w w' vs ts := by
 have hk : ∀ (j : Nat) u, vs[j]? = some u → CVs C w' u ∧ ∀ k, u.own C w' k → u.own C wr k := fun j u hu => (h.cv hu).keep hb.size (fun k hk => hb.block k ((h.cv hu).old hk))
 exact ⟨h.below.trans (hb.mono h.below.size), fun j u hu => ⟨(hk j u hu).1, fun k ho => (h.vw j u hu).2 k ((hk j u hu).2 k ho)⟩, fun j j' u u' hu hu' hne k k1 k2 => h.off j j' u u' hu hu' hne k ((hk j u hu).2 k k1) ((hk j' u' hu').2 k k2), fun t ht => ⟨t.st wr w' (h.is ht) hb.size (fun k hk _ => hb.block k hk), fun j u hu k hp ho => (h.th t ht).2 j u hu k hp ((hk j u hu).2 k ho)⟩⟩
theorem Kv.add (h : Kv C w wr vs ts) (hb : Below wr.heap.size wr w') (hI : t.I w') (hP : ∀ k, t.P k → wr.heap.size ≤ k ∨ ∃ u ∈ ts, u.P k) : Kv C w w' vs (t :: ts) := by
 have h' := h.later hb
 refine ⟨h'.below, h'.vw, h'.off, fun u hu => ?_⟩
 rcases List.mem_cons.1 hu with rfl | hu
 ·refine ⟨hI, fun j x hx k hk ho => ?_⟩
  rcases hP k hk with hh | ⟨u, hu, hh⟩
  ·have := (h.cv hx).old (((h.cv hx).keep hb.size (fun k hk => hb.block k ((h.cv hx).old hk))).2 k ho)
   omega
  ·exact (h'.th u hu).2 j x hx k hh ho
 ·exact h'.th u hu
theorem Kv.with (h : Kv C w wr vs ts) (hI : t.I wr) (hP : ∀ k, t.P k → ∀ (j : Nat) u, vs[j]? = some u → ¬ u.own C wr k) : Kv C w wr vs (t :: ts) :=
 ⟨h.below, h.vw, h.off, fun u hu => by
  rcases List.mem_cons.1 hu with rfl | hu
  ·exact ⟨hI, fun j x hx k hk => hP k hk j x hx⟩
  ·exact h.th u hu⟩
theorem Kv.low (h : Kv C w wr vs ts) : Kv C w wr vs (Th.low wr.heap.size :: ts) := h.with (t := Th.low wr.heap.size) (Nat.le_refl _) (fun k hk => hk.elim)
theorem Kv.swap {a b : Th} (h : Kv C w wr vs (a :: b :: ts)) : Kv C w wr vs (b :: a :: ts) := h.less (fun t ht => by
 rcases List.mem_cons.1 ht with rfl | ht
 ·exact List.mem_cons_of_mem _ List.mem_cons_self
 ·rcases List.mem_cons.1 ht with rfl | ht
  ·exact List.mem_cons_self
  ·exact List.mem_cons_of_mem _ (List.mem_cons_of_mem _ ht))
theorem Kv.put {row : Option Nat} {t' : Th} (h : Kv C w wr vs (t :: ts)) (hg : wr.grownBy w' row) (hr : ∀ k, row = some k → t.P k ∧ w.heap.size ≤ k ∧ ∀ u ∈ ts, ¬ u.P k) (hI : t'.I w') (hP : ∀ k, t'.P k → t.P k ∨ wr.heap.size ≤ k) : Kv C w w' vs (t' :: ts) := by
 have hne : ∀ (j : Nat) u, vs[j]? = some u → ∀ k, u.own C wr k → some k ≠ row := fun j u hu k hk e => (h.th t List.mem_cons_self).2 j u hu k (hr k e.symm).1 hk
 have hk : ∀ (j : Nat) u, vs[j]? = some u → CVs C w' u ∧ ∀ k, u.own C w' k → u.own C wr k := fun j u hu => (h.cv hu).keep hg.size (fun k hk => hg.block k ((h.cv hu).old hk) (hne j u hu k hk))
 refine ⟨h.below.grown hg h.below.size (fun k hk => (hr k hk).2.1), fun j u hu => ⟨(hk j u hu).1, fun k ho => (h.vw j u hu).2 k ((hk j u hu).2 k ho)⟩, fun j j' u u' hu hu' hne k k1 k2 => h.off j j' u u' hu hu' hne k ((hk j u hu).2 k k1) ((hk j' u' hu').2 k k2), fun u hu => ?_⟩
 rcases List.mem_cons.1 hu with rfl | hu
 ·refine ⟨hI, fun j x hx k hkP ho => ?_⟩
  have h1 := (hk j x hx).2 k ho
  rcases hP k hkP with hh | hh
  ·exact (h.th t List.mem_cons_self).2 j x hx k hh h1
  ·have := (h.cv hx).old h1; omega
 ·have hu' := List.mem_cons_of_mem t hu
  exact ⟨u.st wr w' (h.is hu') hg.size (fun k hk hp => hg.block k hk (fun e => (hr k e.symm).2.2 u hu hp)), fun j x hx k hp ho => (h.th u hu').2 j x hx k hp ((hk j x hx).2 k ho)⟩
theorem Kv.grown (h : Kv C w wr vs ts) (hg : wr.grownBy w' none) : Kv C w w' vs ts := h.later ⟨hg.os, hg.tape, hg.output, hg.size, fun k hk => hg.block k hk (fun e => by cases e)⟩
theorem Kv.made (h : Kv C w wr vs ts) (hb : Below wr.heap.size wr w') (hc : CVs C w' v) (ho : ∀ k, v.own C w' k → wr.heap.size ≤ k) : Kv C w w' (vs ++ [v]) ts := by
 have h' := h.later hb
 have hk : ∀ (j : Nat) u, vs[j]? = some u → ∀ k, u.own C w' k → u.own C wr k := fun j u hu => ((h.cv hu).keep hb.size (fun k hk => hb.block k ((h.cv hu).old hk))).2
 have hcase : ∀ (j : Nat) u, (vs ++ [v])[j]? = some u → (vs[j]? = some u ∧ j < vs.length) ∨ (j = vs.length ∧ u = v) := fun j u hu => by
  by_cases hj : j < vs.length
  ·rw [List.getElem?_append_left hj] at hu
   exact .inl ⟨hu, hj⟩
  ·have hl := (List.getElem?_eq_some_iff.1 hu).1
   simp only [List.length_append, List.length_cons, List.length_nil] at hl
   obtain rfl : j = vs.length := by omega
   simp only [List.getElem?_concat_length, Option.some.injEq] at hu
   exact .inr ⟨rfl, hu.symm⟩
 refine ⟨h'.below, fun j u hu => ?_, fun j j' u u' hu hu' hne k k1 k2 => ?_, fun t ht => ⟨h'.is ht, fun j u hu k hp hown => ?_⟩⟩
 ·rcases hcase j u hu with ⟨hu, -⟩ | ⟨-, rfl⟩
  ·exact h'.vw j u hu
  ·exact ⟨hc, fun k hk => Nat.le_trans h.below.size (ho k hk)⟩
 ·rcases hcase j u hu with ⟨hu0, -⟩ | ⟨rfl, rfl⟩
  ·rcases hcase j' u' hu' with ⟨hu', -⟩ | ⟨rfl, rfl⟩
   ·exact h'.off j j' u u' hu0 hu' hne k k1 k2
   ·have := (h.cv hu0).old (hk j u hu0 k k1)
    have := ho k k2
    omega
  ·rcases hcase j' u' hu' with ⟨hu', -⟩ | ⟨rfl, rfl⟩
   ·have := (h.cv hu').old (hk j' u' hu' k k2)
    have := ho k k1
    omega
   ·exact hne rfl
 ·rcases hcase j u hu with ⟨hu, -⟩ | ⟨rfl, rfl⟩
  ·exact (h'.th t ht).2 j u hu k hp hown
  ·have := t.lt wr k (h.is ht) hp
   have := ho k hown
   omega
end
structure Kd (C : Dags) (w wr : World) (vs : List VI) (ts : List Th) (gd : Nat) (room : ByteArray) (l : List Ev) : Prop where
 kv : Kv C w wr vs ts
 is : (∃ (i : Nat) (v : VI) (d : DgI), vs[i]? = some v ∧ d ∈ v.ds ∧ d.g = gd ∧ d.room = room ∧ d.l = l) ∨ (C.CD wr gd room l ∧ ∀ k, C.own wr gd k → w.heap.size ≤ k ∧ (∀ (j : Nat) u, vs[j]? = some u → ¬ u.own C wr k) ∧ ∀ t ∈ ts, ¬ t.P k)
section
variable {C : Dags} {w w' wr : World} {vs : List VI} {ts ts' : List Th} {gd : Nat} {room : ByteArray} {l : List Ev}
theorem Kd.code (h : Kd C w wr vs ts gd room l) : C.CD wr gd room l := by
 rcases h.is with ⟨i, v, d, hi, hd, rfl, rfl, rfl⟩ | ⟨hc, -⟩
 ·exact ((h.kv.cv hi).dag d hd).1
 ·exact hc
theorem Kd.step (h : Kd C w wr vs ts gd room l) (hc : C.CD w' gd room l) (ht : TurnD C.own wr w' gd) : Kd C w w' vs ts gd room l ∧ ∀ k, wr.heap.size ≤ k → ¬ C.own w' gd k → ∀ (j : Nat) u, vs[j]? = some u → ¬ u.own C w' k := by
 rcases h.is with ⟨i, v, d, hi, hd, rfl, rfl, rfl⟩ | ⟨hc0, ho⟩
 ·obtain ⟨h1, -, h3⟩ := h.kv.dag hi hd hc ht
  exact ⟨⟨h1, .inl ⟨i, v, d, hi, hd, rfl, rfl, rfl⟩⟩, h3⟩
 ·have hk : ∀ (j : Nat) u, vs[j]? = some u → CVs C w' u ∧ ∀ k, u.own C w' k → u.own C wr k := fun j u hu => (h.kv.cv hu).keep ht.size (fun k hk => ht.block k ((h.kv.cv hu).old hk) (fun e => (ho k e).2.1 j u hu hk))
  refine ⟨⟨⟨h.kv.below.trans (ht.below (fun k hk => (ho k hk).1) h.kv.below.size), fun j u hu => ⟨(hk j u hu).1, fun k hh => (h.kv.vw j u hu).2 k ((hk j u hu).2 k hh)⟩, fun j j' u u' hu hu' hne k k1 k2 => h.kv.off j j' u u' hu hu' hne k ((hk j u hu).2 k k1) ((hk j' u' hu').2 k k2), fun t htm => ⟨t.st wr w' (h.kv.is htm) ht.size (fun k hk hp => ht.block k hk (fun e => (ho k e).2.2 t htm hp)), fun j u hu k hp hh => (h.kv.th t htm).2 j u hu k hp ((hk j u hu).2 k hh)⟩⟩, .inr ⟨hc, fun k hkk => ?_⟩⟩, fun k hk1 _ j u hu hh => ?_⟩
  ·rcases ht.owns k hkk with hh | hh
   ·exact ⟨(ho k hh).1, fun j u hu hx => (ho k hh).2.1 j u hu ((hk j u hu).2 k hx), (ho k hh).2.2⟩
   ·refine ⟨Nat.le_trans h.kv.below.size hh, fun j u hu hx => ?_, fun t htm hp => ?_⟩
    ·have := (h.kv.cv hu).old ((hk j u hu).2 k hx); omega
    ·have := t.lt wr k (h.kv.is htm) hp; omega
  ·have := (h.kv.cv hu).old ((hk j u hu).2 k hh); omega
theorem Kd.later (h : Kd C w wr vs ts gd room l) (hb : Below wr.heap.size wr w') : Kd C w w' vs ts gd room l := by
 have hh := C.keep h.code hb.size (fun k hk => hb.block k (C.old h.code hk))
 exact (h.step hh.1 ⟨hb.os, hb.tape, hb.output, hb.size, fun k hk _ => hb.block k hk, fun k hk => .inl (hh.2 k hk)⟩).1
end
end Go.Proofs.YtnnapkakbdpkaaaGreat

namespace Go.Proofs.YtnnapkakbdpkaaaGreat
set_option maxRecDepth 20000
open Go.RowKit
structure BdS (C : Dags) (w wr : World) (g : Nat) (room : ByteArray) (l : List Ev) : Prop where
 code : C.CD wr g room l
 below : Below w.heap.size w wr
 fresh : ∀ k, C.own wr g k → w.heap.size ≤ k
theorem BdS.turn {C : Dags} {w wr w2 : World} {g : Nat} {room : ByteArray} {l l' : List Ev} (h : BdS C w wr g room l) (hc : C.CD w2 g room l') (ht : TurnD C.own wr w2 g) : BdS C w w2 g room l' :=
 ⟨hc, h.below.trans (ht.below h.fresh h.below.size), fun k hk => by
  rcases ht.owns k hk with hh | hh
  ·exact h.fresh k hh
  ·exact Nat.le_trans h.below.size hh⟩
theorem BdS.later {C : Dags} {w wr w2 : World} {g : Nat} {room : ByteArray} {l : List Ev} (h : BdS C w wr g room l) (hb : Below wr.heap.size wr w2) : BdS C w w2 g room l := by
 obtain ⟨hc, ho⟩ := C.keep h.code hb.size (fun k hk => hb.block k (C.old h.code hk))
 exact ⟨hc, h.below.trans (hb.mono h.below.size), fun k hk => h.fresh k (ho k hk)⟩
theorem BdS.mono {C : Dags} {w0 w wr : World} {g : Nat} {room : ByteArray} {l : List Ev} (h : BdS C w wr g room l) (hb : Below w0.heap.size w0 w) : BdS C w0 wr g room l :=
 ⟨h.code, hb.trans (h.below.mono hb.size), fun k hk => Nat.le_trans hb.size (h.fresh k hk)⟩
end Go.Proofs.YtnnapkakbdpkaaaGreat

namespace Go.Proofs.YtnnapkakbdpkaaaGreat
set_option maxRecDepth 20000
open Go.RowKit
theorem lit_many {α : Type} {L : Lies α} (w : World) (xs : List α) (B n : Nat) (hB : B = w.heap.size) (hn : xs.length = n) (hm : n ≤ maxLen) (cs : Array Value) (hc : cs.toList = L.vs xs) : L.Slice (w.alloc (.cells cs L.e)) (.slice (some ⟨B, 0, none⟩) n n) xs := by
 subst hB hn
 refine ⟨_, _, rfl, Nat.le_refl _, hm, (fun e => by cases e), fun _ => ⟨_, 0, rfl, by simp, fun j u hu => ?_⟩⟩
 rw [Nat.zero_add, cell_of_row _ _ _ _ _ _ (heap_alloc_new w _), ← Array.getElem?_toList, hc]
 exact hu
end Go.Proofs.YtnnapkakbdpkaaaGreat

namespace Go.Proofs.YtnnapkakbdpkaaaGreat
set_option maxRecDepth 20000
open Go.RowKit
structure PoS (w wr : World) (B3 B4 B5 : Nat) (a b c : Po) : Prop where
 n34 : B3 ≠ B4
 n35 : B3 ≠ B5
 n45 : B4 ≠ B5
 lo3 : w.heap.size ≤ B3
 lo4 : w.heap.size ≤ B4
 lo5 : w.heap.size ≤ B5
 b3 : wr.heap[B3]? = some (.cells #[.int .i64 a.depth, .string a.id] 83 (0, 0))
 b4 : wr.heap[B4]? = some (.cells #[.int .i64 b.depth, .string b.id] 83 (0, 0))
 b5 : wr.heap[B5]? = some (.cells #[.int .i64 c.depth, .string c.id] 83 (0, 0))
 below : Below w.heap.size w wr
section
variable {w wr w2 : World} {B3 B4 B5 : Nat} {a b c : Po}
theorem PoS.on (h : PoS w wr B3 B4 B5 a b c) (hb : Below wr.heap.size wr w2) : PoS w w2 B3 B4 B5 a b c :=
 ⟨h.n34, h.n35, h.n45, h.lo3, h.lo4, h.lo5, (hb.block B3 (smem_lt h.b3)).trans h.b3, (hb.block B4 (smem_lt h.b4)).trans h.b4, (hb.block B5 (smem_lt h.b5)).trans h.b5, h.below.trans (hb.mono h.below.size)⟩
theorem PoS.start (w : World) (a b c : Po) : PoS w (((w.alloc (.cells #[.int .i64 a.depth, .string a.id] 83)).alloc (.cells #[.int .i64 b.depth, .string b.id] 83)).alloc (.cells #[.int .i64 c.depth, .string c.id] 83)) w.heap.size (w.heap.size + 1) (w.heap.size + 1 + 1) a b c := by
 have s1 : ∀ (u : World) (o : Obj), (u.alloc o).heap.size = u.heap.size + 1 := fun u o => by simp
 refine ⟨by omega, by omega, by omega, by omega, by omega, by omega, ?_, ?_, ?_, ((Gr.refl w).alloc _ |>.alloc _ |>.alloc _).below⟩
 ·rw [heap_alloc_old _ _ (by simp only [s1]; omega), heap_alloc_old _ _ (by simp only [s1]; omega)]
  exact heap_alloc_new _ _
 ·rw [heap_alloc_old _ _ (by simp only [s1]; omega), show w.heap.size + 1 = (w.alloc (.cells #[.int .i64 a.depth, .string a.id] 83)).heap.size by simp only [s1]]
  exact heap_alloc_new _ _
 ·have := heap_alloc_new ((w.alloc (.cells #[.int .i64 a.depth, .string a.id] 83)).alloc (.cells #[.int .i64 b.depth, .string b.id] 83)) (.cells #[.int .i64 c.depth, .string c.id] 83)
  simp only [s1] at this
  exact this
end
end Go.Proofs.YtnnapkakbdpkaaaGreat

namespace Go.Proofs.YtnnapkakbdpkaaaGreat
set_option maxRecDepth 20000
open Go.RowKit
set_option maxHeartbeats 1600000 in
theorem compare_gr (a b : Po) (w : World) : Calls Tryz.prog 102 #[.agg #[.int .i64 a.depth, .string a.id], .agg #[.int .i64 b.depth, .string b.id]] w fun e w' => e = .returned (.int .i64 (cmpP a b)) ∧ Gr w w' := by
 have hs1 : (w.alloc (.cells #[.int .i64 a.depth, .string a.id] 83)).heap.size = w.heap.size + 1 := by simp
 have H3 := Lib.hid (heap_alloc_new (w.alloc (.cells #[.int .i64 a.depth, .string a.id] 83)) (.cells #[.int .i64 b.depth, .string b.id] 83))
 have H2 := Lib.hid ((heap_alloc_old (w.alloc (.cells #[.int .i64 a.depth, .string a.id] 83)) (.cells #[.int .i64 b.depth, .string b.id] 83) (r := w.heap.size) (by rw [hs1]; omega)).trans (heap_alloc_new w _))
 have HB := Lib.hid (((Gr.refl w).alloc (.cells #[.int .i64 a.depth, .string a.id] 83)).alloc (.cells #[.int .i64 b.depth, .string b.id] 83))
 rw [hs1] at H3
 clear hs1
 have HQ1 := Lib.hid (fun W => Tryz.cmp_Compare_int a.depth b.depth W)
 have HQ2 := Lib.hid (fun W => Tryz.strings_Compare a.id b.id W)
 have HU := Lib.hid (cmpP_code a b)
 generalize Lib.compareInt a.depth b.depth = x at HQ1 HU
 generalize Lib.compareBytes a.id.data.toList b.id.data.toList = y at HQ2 HU
 go_enter Tryz.func102, Tryz.ntmps102
 go_upto_region 1 with (fail)
 generalize World.alloc _ _ = w1 at H2 H3 HB ⊢
 generalize w.heap.size + 1 = B3 at H3 ⊢
 generalize hB2 : w.heap.size = B2 at H2 ⊢
 have HS : w1.drew.cell? ⟨B2, 0, none⟩ = some (.int .i64 a.depth) ∧ w1.drew.cell? ⟨B2, 1, none⟩ = some (.string a.id) ∧ w1.drew.cell? ⟨B3, 0, none⟩ = some (.int .i64 b.depth) ∧ w1.drew.cell? ⟨B3, 1, none⟩ = some (.string b.id) ∧ Gr w w1.drew := ⟨cell_at H2.out 0, cell_at H2.out 1, cell_at H3.out 0, cell_at H3.out 1, HB.out.drew⟩
 refine wp_region_held_drew (S := fun w' => w'.cell? ⟨B2, 0, none⟩ = some (.int .i64 a.depth) ∧ w'.cell? ⟨B2, 1, none⟩ = some (.string a.id) ∧ w'.cell? ⟨B3, 0, none⟩ = some (.int .i64 b.depth) ∧ w'.cell? ⟨B3, 1, none⟩ = some (.string b.id) ∧ Gr w w') (by kernel_rfl) HS (fun hHeld => ?_)
 clear HS H2 H3 HB
 generalize w1.drew = wd at hHeld ⊢
 refine wpAnyH_take (i := 0) (oi := ⟨some 5, _, _, _, _, _⟩) (v := ?vc0) rfl (by kernel_rfl) (by kernel_rfl) (by kernel_rfl) (fun _ _ _ h => h) (Or.inl ⟨by rfl, ?yc0⟩) hHeld ?rc0
 case yc0 =>
  intro wx hSx
  go_simp
  try with_reducible rfl
 try simp only [actS]
 refine wpAnyH_take (i := 2) (oi := ⟨some 7, _, _, _, _, _⟩) (v := ?vc2) rfl (by kernel_rfl) (by kernel_rfl) (by kernel_rfl) (fun _ _ _ h => h) (Or.inl ⟨by rfl, ?yc2⟩) hHeld ?rc2
 case yc2 =>
  intro wx hSx
  go_simp
  try with_reducible rfl
 try simp only [actS]
 refine wpAnyH_take (i := 5) (oi := ⟨some 10, _, _, _, _, _⟩) (v := ?vc5) rfl (by kernel_rfl) (by kernel_rfl) (by kernel_rfl) (fun _ _ _ h => h) (Or.inl ⟨by rfl, ?yc5⟩) hHeld ?rc5
 case yc5 =>
  intro wx hSx
  go_simp
  try with_reducible rfl
 try simp only [actS]
 refine wpAnyH_take (i := 7) (oi := ⟨some 12, _, _, _, _, _⟩) (v := ?vc7) rfl (by kernel_rfl) (by kernel_rfl) (by kernel_rfl) (fun _ _ _ h => h) (Or.inl ⟨by rfl, ?yc7⟩) hHeld ?rc7
 case yc7 =>
  intro wx hSx
  go_simp
  try with_reducible rfl
 try simp only [actS]
 refine wpAnyH_take (i := 1) (oi := ⟨some 6, _, _, _, _, _⟩) (v := ?vc1) rfl (by kernel_rfl) (by kernel_rfl) (by kernel_rfl) (fun _ _ _ h => h) (Or.inl ⟨by rfl, ?yc1⟩) hHeld ?rc1
 case yc1 =>
  intro wx hSx
  obtain ⟨z1, z2, z3, z4, -⟩ := hSx
  go_simp
  try with_reducible rfl
 try simp only [actS]
 refine wpAnyH_take (i := 3) (oi := ⟨some 8, _, _, _, _, _⟩) (v := ?vc3) rfl (by kernel_rfl) (by kernel_rfl) (by kernel_rfl) (fun _ _ _ h => h) (Or.inl ⟨by rfl, ?yc3⟩) hHeld ?rc3
 case yc3 =>
  intro wx hSx
  obtain ⟨z1, z2, z3, z4, -⟩ := hSx
  go_simp
  try with_reducible rfl
 try simp only [actS]
 refine wpAnyH_take (i := 6) (oi := ⟨some 11, _, _, _, _, _⟩) (v := ?vc6) rfl (by kernel_rfl) (by kernel_rfl) (by kernel_rfl) (fun _ _ _ h => h) (Or.inl ⟨by rfl, ?yc6⟩) hHeld ?rc6
 case yc6 =>
  intro wx hSx
  obtain ⟨z1, z2, z3, z4, -⟩ := hSx
  go_simp
  try with_reducible rfl
 try simp only [actS]
 refine wpAnyH_take (i := 8) (oi := ⟨some 13, _, _, _, _, _⟩) (v := ?vc8) rfl (by kernel_rfl) (by kernel_rfl) (by kernel_rfl) (fun _ _ _ h => h) (Or.inl ⟨by rfl, ?yc8⟩) hHeld ?rc8
 case yc8 =>
  intro wx hSx
  obtain ⟨z1, z2, z3, z4, -⟩ := hSx
  go_simp
  try with_reducible rfl
 try simp only [actS]
 refine anyH_asks (i := 4) (oi := ⟨some 9, _, _, _, _, _⟩) (v := .int .i64 x) rfl (by kernel_rfl) (by kernel_rfl) (by kernel_rfl) (fun _ _ _ h => h) ⟨by rfl, fun wx hSx => ⟨_, _, ?ec4, (HQ1.out _).mono (fun _ _ h => ⟨h.1, h.2.symm⟩)⟩⟩ hHeld ?rc4
 case ec4 => go_simp
 try simp only [actS]
 refine anyH_asks (i := 9) (oi := ⟨some 14, _, _, _, _, _⟩) (v := .int .i64 y) rfl (by kernel_rfl) (by kernel_rfl) (by kernel_rfl) (fun _ _ _ h => h) ⟨by rfl, fun wx hSx => ⟨_, _, ?ec9, (HQ2.out _).mono (fun _ _ h => ⟨h.1, h.2.symm⟩)⟩⟩ hHeld ?rc9
 case ec9 => go_simp
 try simp only [actS]
 refine wpAnyH_ready (rs := [10]) (by kernel_rfl) (by simp) ?_
 refine AllReadyH.cons (o := ⟨some 15, _, _, _, _, _⟩) rfl (fun K hK => ?_) AllReadyH.nil
 have hNW : (wd.alloc (.cells #[.int .i64 x, .int .i64 y] 3)).cell? ⟨B2, 0, none⟩ = some (.int .i64 a.depth) ∧ (wd.alloc (.cells #[.int .i64 x, .int .i64 y] 3)).cell? ⟨B2, 1, none⟩ = some (.string a.id) ∧ (wd.alloc (.cells #[.int .i64 x, .int .i64 y] 3)).cell? ⟨B3, 0, none⟩ = some (.int .i64 b.depth) ∧ (wd.alloc (.cells #[.int .i64 x, .int .i64 y] 3)).cell? ⟨B3, 1, none⟩ = some (.string b.id) ∧ Gr w (wd.alloc (.cells #[.int .i64 x, .int .i64 y] 3)) := by
  obtain ⟨z1, z2, z3, z4, z5⟩ := hHeld
  have bn := below_new wd (.cells #[.int .i64 x, .int .i64 y] 3)
  exact ⟨(bn.cell (World.block_lt_of_cell? _ _ z1)).trans z1, (bn.cell (World.block_lt_of_cell? _ _ z2)).trans z2, (bn.cell (World.block_lt_of_cell? _ _ z3)).trans z3, (bn.cell (World.block_lt_of_cell? _ _ z4)).trans z4, z5.alloc _⟩
 have hn := heap_alloc_new wd (.cells #[.int .i64 x, .int .i64 y] 3)
 go_simp
 refine hK.out _ _ hNW (fun hHeld => ?_)
 clear hK K hNW
 try simp only [actS]
 refine wpAnyH_ready (rs := [11]) (by kernel_rfl) (by simp) ?_
 refine AllReadyH.cons (o := ⟨some 16, _, _, _, _, _⟩) rfl (fun K hK => ?_) AllReadyH.nil
 go_simp
 refine (or_any x y wd.heap.size _ (cell_at hn 0) (cell_at hn 1)).mono ?_
 rintro e wn ⟨rfl, rfl⟩
 refine hK.out _ _ hHeld (fun hHeld => ?_)
 clear hK K
 try simp only [actS]
 refine wpAnyH_take (i := 12) (oi := ⟨some 4, _, _, _, _, _⟩) (v := ?vc12) rfl (by kernel_rfl) (by kernel_rfl) (by kernel_rfl) (fun _ _ _ h => h) (Or.inl ⟨by rfl, ?yc12⟩) hHeld ?rc12
 case yc12 =>
  intro wx hSx
  go_simp
  try with_reducible rfl
 try simp only [actS]
 refine wpAnyH_done (by kernel_rfl) ?_ _
 go_wp2_with fail
 go_ret
 exact ⟨by rw [← HU.out]; rfl, hHeld.2.2.2.2⟩
end Go.Proofs.YtnnapkakbdpkaaaGreat
