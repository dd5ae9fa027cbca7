/-
  The map of pasts, pastsOf, known, Ahead, Apart, Len of an index.
-/
import Derived.Test.YtfbfdkibdjinaaaGreatDoorI8A
import Derived.Maps.Views
import Derived.Carry
import Derived.Test.YtfbfdkibdjinaaaGreatDoorC2
namespace Go.Proofs.YtfbfdkibdjinaaaGreatDoor
set_option maxRecDepth 20000
open Go.RowKit Go.Maps Go.ChangeMaps
set_option linter.unusedVariables false
set_option linter.unusedSimpArgs false

def zeroV : PsV := ⟨zeroP, none, 0⟩
theorem zeroV_val : zeroV.val = .agg #[.int .i64 0, .slice none 0 0] := rfl
theorem zeroPV (w : World) : (zeroValue 79).run Tryz.prog w = .ok zeroV.val w := by kernel_rfl
/-- The map says of each text which past it has. -/
structure PsM (w : World) (mb n : Nat) (f : ByteArray → Option PsV) : Prop where
  is : ∃ D : Dv, OwnN w mb n D ∧ (∀ k, D.atKey (kl k) (.held zeroV.val) = .held ((f k).getD zeroV).val) ∧ ∀ k, Maps.has D (kl k) = (f k).isSome
section
variable {w w' : World} {mb n : Nat} {f f' : ByteArray → Option PsV}
theorem PsM.made (w : World) : PsM (w.alloc (.map #[] 0)) w.heap.size 0 (fun _ => none) := ⟨.map [], World.ownsMap_made w _ _ _, fun k => WideAt.atKey_none _ (fun p hp => by cases hp), fun k => rfl⟩
theorem PsM.keep (h : PsM w mb n f) (hb : w'.heap[mb]? = w.heap[mb]?) : PsM w' mb n f := by
  obtain ⟨D, h1, h2, h3⟩ := h.is
  exact ⟨D, h1.keep hb, h2, h3⟩
theorem PsM.same (h : PsM w mb n f) (hn : ∀ k, f k = f' k) : PsM w mb n f' := by
  rw [show f' = f from funext (fun k => (hn k).symm)]
  exact h
theorem PsM.lt (h : PsM w mb n f) : mb < w.heap.size := by
  obtain ⟨D, h1, _⟩ := h.is
  exact h1.lt
theorem PsM.look (h : PsM w mb n f) {k : ByteArray} (hk : k.size ≤ maxLen) : (Instr.lookup 71 (.map (some mb)) (.string k) false).run Tryz.prog w = .ok ((f k).getD zeroV).val w := by
  obtain ⟨D, h1, h2, h3⟩ := h.is
  obtain ⟨v, ps, hr, hv⟩ := World.ownsMap.lookup h1 keyed Tryz.underlying71 (zeroPV w) (zd := .held zeroV.val) (zp := []) rfl (keyIs hk)
  rw [h2] at hv
  injection hv with hv
  injection hv with hv _
  injection hv with hv
  rw [hr, hv]
theorem PsM.look2 (h : PsM w mb n f) {k : ByteArray} (hk : k.size ≤ maxLen) : (Instr.lookup 71 (.map (some mb)) (.string k) true).run Tryz.prog w = .ok (.tuple #[((f k).getD zeroV).val, .bool (f k).isSome]) w := by
  obtain ⟨D, h1, h2, h3⟩ := h.is
  obtain ⟨v, ps, hr, hv⟩ := World.ownsMap.look_ok h1 keyed Tryz.underlying71 (zeroPV w) (zd := .held zeroV.val) (zp := []) rfl (keyIs hk)
  rw [h2] at hv
  rw [h3] at hr
  injection hv with hv
  injection hv with hv _
  injection hv with hv
  rw [hr, hv]
theorem PsM.put (h : PsM w mb n f) (hn : n < maxLen) {p : ByteArray} (hp : p.size ≤ maxLen) (x : PsV) : ∃ w', (Instr.mapUpdate 71 (.map (some mb)) (.string p) x.val).run Tryz.prog w = .ok () w' ∧ PsM w' mb (n + 1) (fun k => if p = k then some x else f k) ∧ w.grownBy w' (some mb) := by
  obtain ⟨D, h1, h2, h3⟩ := h.is
  obtain ⟨w', hr, ho, hg⟩ := World.ownsMap.update h1 keyed Tryz.underlying71 hn (key := .string p) (val := x.val) (d := .held x.val) (ps := []) (keyIs hp) rfl
  refine ⟨w', hr, ⟨_, ho, fun k => ?_, fun k => ?_⟩, hg⟩
  · by_cases hk : k = p
    · subst hk
      rw [Maps.atKey_put_same (World.ownsMap.isMap h1) (kl_key _)]
      simp
    · rw [Maps.atKey_put_other (fun e => hk (kl_inj e)), h2, if_neg (fun e => hk e.symm)]
  · by_cases hk : k = p
    · subst hk
      rw [Maps.has_put_same (World.ownsMap.isMap h1) (kl_key _)]
      simp
    · rw [Maps.has_put_other (fun e => hk (kl_inj e)), h3, if_neg (fun e => hk e.symm)]
/-- A row is no map. -/
theorem mine_psm {α : Type} {L : Lies α} {B : Nat} {v : Value} {xs : List α} (h : L.Mine w B v xs) (hm : PsM w mb n f) : ∀ k, v.ownBlock = some k → some k ≠ some mb := by
  intro k hk he
  injection he with he
  subst he
  obtain ⟨D, ⟨es, clock, hb, _⟩, _⟩ := hm.is
  rcases h with ⟨rfl, _⟩ | ⟨g, off, cap, cur, rfl, _, hh, _⟩
  · cases hk
  · simp only [Value.ownBlock, Option.some.injEq] at hk
    subst hk
    rw [hb] at hh
    cases hh
end
/-- Which past a text has, of those that have been made. -/
def fQ (s : List Ev) (qs : List PsV) (k : ByteArray) : Option PsV := (idx s k).bind (fun j => qs[j]?)
theorem fQ_snoc {l s : List Ev} {qs : List PsV} {e : Ev} (hs : Sorted l s) (he : s[qs.length]? = some e) (x : PsV) (k : ByteArray) : fQ s (qs ++ [x]) k = if e.id = k then some x else fQ s qs k := by
  unfold fQ
  by_cases hk : e.id = k
  · rw [if_pos hk, ← hk, row_idx hs he]
    simp
  · rw [if_neg hk]
    cases hi : idx s k with
    | none => rfl
    | some j =>
      obtain ⟨y, hy, hyk, -⟩ := idx_some hi
      have hj : j ≠ qs.length := fun e' => by
        subst e'
        rw [he] at hy
        injection hy with hy
        exact hk (by rw [hy]; exact hyk)
      simp only [Option.bind_some]
      by_cases hlt : j < qs.length
      · rw [List.getElem?_append_left hlt]
      · rw [List.getElem?_eq_none (by simp; omega), List.getElem?_eq_none (by omega)]
theorem fQ_look {s : List Ev} {qs : List PsV} {a : Nat} (hq : qs.map PsV.p = pastsA s a) (k : ByteArray) : ((fQ s qs k).getD zeroV).p = lookP s (pastsA s a) k := by
  unfold fQ lookP
  cases hi : idx s k with
  | none => rfl
  | some j =>
    simp only [Option.bind_some, List.getD_eq_getElem?_getD]
    rw [← hq, List.getElem?_map]
    cases qs[j]? <;> rfl
theorem pastI_ok {room : ByteArray} {l : List Ev} (hv : Valid room l) (hl : l.length ≤ 9) {i : Nat} {e : Ev} (he : (allL l)[i]? = some e) : (pastI (allL l) i).ok := by
  have hi := (List.getElem?_eq_some_iff.1 he).1
  rw [allL_len] at hi
  have hw := past_lt hv hl he
  refine ⟨by show i < 9; omega, ?_, ?_⟩
  · show (behindW _).length ≤ 1
    unfold behindW
    split <;> simp
  · intro W hW
    have h1 : W ∈ behindW ((parsAt (allL l) i).map (lookP (allL l) (pastsA (allL l) i))) := hW
    have h2 : (pastI (allL l) i).word = foldW ((parsAt (allL l) i).map (lookP (allL l) (pastsA (allL l) i))) := behind_word _ _
    unfold behindW at h1
    split at h1
    · cases h1
    · rw [List.mem_singleton.1 h1, ← h2]
      exact hw
theorem zeroP_ok : zeroP.ok := ⟨by decide, by decide, fun W hW => by cases hW⟩
/-- While pasts are made: the first a are there. -/
structure PoS (w wr : World) (mb : Nat) (s : List Ev) (qs : List PsV) : Prop where
  below : Below w.heap.size w wr
  new : w.heap.size ≤ mb
  map : PsM wr mb qs.length (fQ s qs)
  is : qs.map PsV.p = pastsA s qs.length
  row : ∀ q ∈ qs, LU.Mine wr w.heap.size q.sv q.p.ws
section
variable {w wr w2 : World} {mb : Nat} {s : List Ev} {qs : List PsV}
theorem PoS.on (h : PoS w wr mb s qs) (hb : Below wr.heap.size wr w2) : PoS w w2 mb s qs :=
  ⟨h.below.trans (hb.mono h.below.size), h.new, h.map.keep (hb.block mb h.map.lt), h.is, fun q hq => (h.row q hq).below hb⟩
theorem PoS.start (w : World) (s : List Ev) : PoS w (w.alloc (.map #[] 0)) w.heap.size s [] :=
  ⟨below_new w _, Nat.le_refl _, (PsM.made w).same (fun k => by unfold fQ; cases idx s k <;> rfl), rfl, fun q hq => by cases hq⟩
theorem PoS.at_ {room : ByteArray} {l : List Ev} (hv : Valid room l) (hl : l.length ≤ 9) (h : PoS w wr mb (allL l) qs) (hn : qs.length ≤ l.length) (k : ByteArray) : ((fQ (allL l) qs k).getD zeroV).at wr := by
  unfold fQ
  cases hi : idx (allL l) k with
  | none => exact ⟨.nil _, zeroP_ok⟩
  | some j =>
    simp only [Option.bind_some]
    cases hj : qs[j]? with
    | none => exact ⟨.nil _, zeroP_ok⟩
    | some q =>
      have hjl := (List.getElem?_eq_some_iff.1 hj).1
      have hq : q.p = pastI (allL l) j := by
        have h1 : (qs.map PsV.p)[j]? = some q.p := by rw [List.getElem?_map, hj]; rfl
        rw [h.is, pastsA_get _ _ _ hjl] at h1
        injection h1 with h1
        exact h1.symm
      obtain ⟨e, he, -⟩ := idx_some hi
      refine ⟨(h.row q (List.mem_of_getElem? hj)).slice, ?_⟩
      show q.p.ok
      rw [hq]
      exact pastI_ok hv hl he
theorem PoS.put {l : List Ev} (hs : Sorted l s) (h : PoS w wr mb s qs) (hn : qs.length < 1000) {e : Ev} (he : s[qs.length]? = some e) (hk : e.id.size ≤ maxLen) (x : PsV) (hx : x.p = pastI s qs.length) (hm : LU.Mine wr w.heap.size x.sv x.p.ws) :
    ∃ w', (Instr.mapUpdate 71 (.map (some mb)) (.string e.id) x.val).run Tryz.prog wr = .ok () w' ∧ PoS w w' mb s (qs ++ [x]) := by
  obtain ⟨w', hr, h1, hg⟩ := h.map.put (by unfold maxLen; omega) hk x
  refine ⟨w', hr, h.below.grown hg h.below.size (fun k hk => by injection hk with hk; rw [← hk]; exact h.new), h.new, ?_, ?_, fun q hq => ?_⟩
  · rw [List.length_append]
    exact h1.same (fun k => (fQ_snoc hs he x k).symm)
  · rw [List.map_append, h.is, List.length_append, List.map_singleton, hx]
    rfl
  · rcases List.mem_append.1 hq with hq | hq
    · exact (h.row q hq).grown hg (mine_psm (h.row q hq) h.map)
    · rw [List.mem_singleton.1 hq]
      exact hm.grown hg (mine_psm hm h.map)
end
end Go.Proofs.YtfbfdkibdjinaaaGreatDoor

namespace Go.Proofs.YtfbfdkibdjinaaaGreatDoor
set_option maxRecDepth 20000
open Go.RowKit Go.Maps Go.ChangeMaps
set_option linter.unusedVariables false
set_option linter.unusedSimpArgs false

/-- A row of rows of texts: the parents of events. -/
def LS : Lies EvV := ⟨39, 1, fun x => [x.pv], fun _ => rfl, fun x u hu => by
  simp only [List.mem_singleton] at hu
  subst hu
  rfl⟩
theorem knS : Kn Tryz.prog LS 58 (.slice none 0 0) 24 := ⟨Tryz.underlying58, by kernel_rfl, rfl, by decide⟩
theorem fill_ps (x : PsV) : Instr.fill (fun i => some (i * 2, 2)) ((Array.range (1 * 2)).map ((Value.agg #[.int .i64 0, .slice none 0 0]).cells[· % (Value.agg #[.int .i64 0, .slice none 0 0]).cells.size]!)) [(0, x.val)] = some (LP.cl x).toArray := by
  cases x
  kernel_rfl
theorem build_ps (x : PsV) (w : World) : (Instr.buildSlice 123 1 #[(0, x.val)]).run Tryz.prog w = .ok (.slice (some ⟨w.heap.size, 0, none⟩) 1 1) (w.alloc (.cells (LP.cl x).toArray 79)) := by
  obtain ⟨i0, hi0, hz0, hz1, hz2⟩ := info_parts knP.info
  refine run_buildSlice w 123 79 1 _ _ i0 _ Tryz.underlying123 hi0 hz0 (by rw [hz1]; decide) (by rw [hz1]; decide) ?_
  rw [hz1]
  exact fill_ps x
theorem make_hint (n : Nat) (w : World) : (Instr.makeMap 71 (some (.int .i64 (n : Int)))).run Tryz.prog w = .ok (.map (some w.heap.size)) (w.alloc (.map #[] 0)) := by
  simp [Instr.makeMap, run_underlying Tryz.underlying71, asInt, asIntOf]
/-- What stands behind the parents that have been passed. -/
def nearL (s : List Ev) (qs : List PsV) (ps : List ByteArray) (c : Nat) : List PsV := (ps.take c).map (fun q => (fQ s qs q).getD zeroV)
theorem nearL_succ {s : List Ev} {qs : List PsV} {ps : List ByteArray} {c : Nat} {p : ByteArray} (h : ps[c]? = some p) : nearL s qs ps (c + 1) = nearL s qs ps c ++ [(fQ s qs p).getD zeroV] := by
  unfold nearL
  rw [List.take_add_one, h, List.map_append]
  rfl
theorem nearL_len {s : List Ev} {qs : List PsV} {ps : List ByteArray} {c : Nat} (h : c ≤ ps.length) : (nearL s qs ps c).length = c := by
  unfold nearL
  rw [List.length_map, List.length_take]
  omega
theorem PoS.grown {w wr w2 : World} {mb : Nat} {s : List Ev} {qs ns : List PsV} {v : Value} (h : PoS w wr mb s qs) (hm : LP.Mine wr w.heap.size v ns) (hg : wr.grownBy w2 v.ownBlock) : PoS w w2 mb s qs :=
  ⟨h.below.grown hg h.below.size (fun k hk => (hm.lt k hk).1), h.new, h.map.keep (hg.block mb h.map.lt (fun e => mine_psm hm h.map mb e.symm rfl)), h.is, fun q hq => (h.row q hq).grown hg (fun k hk => (h.row q hq).apart hm (by decide) k hk)⟩
set_option maxHeartbeats 1600000 in
theorem pastsOf_any {room : ByteArray} {l : List Ev} (hv : Valid room l) (hl : l.length ≤ 9) (vr vp : Value) (ys : List EvV) (w : World) (hr : LT.Slice w vr ((evs ys).map Ev.id)) (hp : LS.Slice w vp ys) (hy : ∀ y ∈ ys, y.at w) (hys : evs ys = allL l) :
    Calls Tryz.prog 52 #[vr, vp] w fun e w' => ∃ mb qs, e = .returned (.map (some mb)) ∧ PoS w w' mb (allL l) qs ∧ qs.length = l.length := by
  have hyl : ys.length = l.length := by rw [← evs_len, hys, allL_len]
  obtain ⟨A0, c0, hvr, h1, h2, -⟩ := id hr
  rw [List.length_map, evs_len] at hvr h1
  subst hvr
  obtain ⟨A1, c1, rfl, h3, h4, -⟩ := id hp
  have hc0 : c0 ≤ 9223372036854775807 := by unfold maxLen at h2; omega
  have hc1 : c1 ≤ 9223372036854775807 := by unfold maxLen at h4; omega
  have HR := Lib.hid hr
  have HP := Lib.hid hp
  have HY := Lib.hid hy
  have HYS := Lib.hid hys
  have HV := Lib.hid hv
  have HSO := Lib.hid (allL_row hv).1
  have HS0 := Lib.hid (PoS.start w (allL l))
  have hmm := make_hint ys.length
  have hy9 : ys.length ≤ 9 := by omega
  have HYL := Lib.hid hyl
  clear hr hp hy hys hv h2 h4 hyl
  go_enter Tryz.func52, Tryz.ntmps52
  go_upto_region 2 with (fail)
  clear hmm
  generalize w.alloc _ = w1 at HS0 ⊢
  generalize hmb : w.heap.size = mb at HS0 ⊢
  go_wp2_with fail
  go_loopw [16] (fun i wr => ∃ a : Nat, i = .int .i64 (a : Int) ∧ a ≤ ys.length ∧ Hid (∃ qs, qs.length = a ∧ PoS w wr mb (allL l) qs)) (fun i _ => ys.length - (intOf i).toNat)
  case atStart => exact ⟨0, rfl, Nat.zero_le _, Lib.hid ⟨[], rfl, HS0.out⟩⟩
  case round =>
    obtain ⟨w0, hw0⟩ : ∃ w0, w0 = wr := ⟨_, rfl⟩
    subst hw0
    obtain ⟨a, rfl, ha, HQ⟩ := hrel
    obtain ⟨qs, hqa, hpo⟩ := HQ.out
    have HPO := Lib.hid hpo
    have HQA := Lib.hid hqa
    clear HQ hpo hqa HS0
    by_cases hax : a < ys.length
    · have q1 : decide ((a : Int) < (ys.length : Int)) = true := decide_eq_true (by omega)
      have hy : ys[a]? = some ys[a] := List.getElem?_eq_getElem hax
      generalize ys[a] = y at hy
      have HYA := Lib.hid (HY.out y (List.mem_of_getElem? hy))
      have HSE : Hid ((allL l)[a]? = some y.ev) := Lib.hid (by rw [← HYS.out]; exact evs_get hy)
      have HPL : Hid (y.ev.parents.length ≤ y.cap ∧ y.cap ≤ 9223372036854775807) := Lib.hid (by
        obtain ⟨_, _, he, h5, hm, _⟩ := id HYA.out.1
        injection he with _ he2 he3
        unfold maxLen at hm
        omega)
      have hpl := HPL.out
      have hid : ((evs ys).map Ev.id)[a]? = some y.ev.id := by rw [List.getElem?_map, evs_get hy]; rfl
      obtain ⟨b, off, rfl, hb, hrr⟩ := HR.out.at hid
      have hi1 := index_any (P := Tryz.prog) knT (by decide) (b := b) (off := off) (cap := c0) hax
      have r0 : w0.cell? ⟨b, off + a, none⟩ = some (.string y.ev.id) := (HPO.out.below.cell (p := ⟨b, off + a, none⟩) hb).trans (by have := hrr 0 _ rfl; simpa only [LT, Nat.mul_one, Nat.add_zero] using this)
      obtain ⟨b2, o2, rfl, hb2, hr2⟩ := HP.out.at hy
      have hi2 := index_any (P := Tryz.prog) knS (by decide) (b := b2) (off := o2) (cap := c1) hax
      have r1 : w0.cell? ⟨b2, o2 + a, none⟩ = some (.slice y.A y.ev.parents.length y.cap) := (HPO.out.below.cell (p := ⟨b2, o2 + a, none⟩) hb2).trans (by have := hr2 0 _ rfl; simpa only [LS, EvV.pv, Nat.mul_one, Nat.add_zero] using this)
      simp only [LT, LS] at hi1 hi2
      clear hy hid hrr hr2
      have HPB : Hid (y.ev.parents.length ≤ 1000) := Lib.hid (by
        obtain ⟨i, hi⟩ := List.getElem?_of_mem (((allL_row HV.out).2 y.ev).1 (List.mem_of_getElem? HSE.out))
        have := (may_short (err_zero (HV.out i y.ev hi)).1).2.2.2.2.2.2.2
        omega)
      have hpb := HPB.out
      go_wp2_with fail
      go_loopw [8, 26] (fun u i wr => ∃ (c : Nat) (ns : List PsV) (Ao : Option Addr) (co : Nat), u = .slice Ao ns.length co ∧ i = .int .i64 (c : Int) ∧ c ≤ y.ev.parents.length ∧ ns.length ≤ c ∧ Hid (ns = nearL (allL l) qs y.ev.parents c) ∧ Hid (PoS w wr mb (allL l) qs) ∧ Hid (LP.Mine wr w.heap.size u ns)) (fun _ i _ => y.ev.parents.length - (intOf i).toNat)
      case atStart => exact ⟨0, [], none, 0, rfl, rfl, Nat.zero_le _, Nat.le_refl _, Lib.hid rfl, HPO, Lib.hid (Lies.Mine.nil _ _)⟩
      case round =>
        obtain ⟨c, ns, Ao, co, rfl, rfl, hc, hnl, HNE, HPR, HMN⟩ := hrel
        clear HPO r0 r1
        have hco : ns.length ≤ co ∧ co ≤ 9223372036854775807 := by
          obtain ⟨_, _, he, h5, hm, -⟩ := HMN.out.shape
          injection he with _ he2 he3
          unfold maxLen at hm
          omega
        by_cases hcl : c < y.ev.parents.length
        · have q2 : decide ((c : Int) < (y.ev.parents.length : Int)) = true := decide_eq_true (by omega)
          have hp : y.ev.parents[c]? = some y.ev.parents[c] := List.getElem?_eq_getElem hcl
          generalize y.ev.parents[c] = p at hp
          have hps : p.size ≤ maxLen := HYA.out.2.2.2.2.2.1 p (List.mem_of_getElem? hp)
          obtain ⟨b3, o3, hA3, hb3, hr3⟩ := (show LT.Slice w (.slice y.A y.ev.parents.length y.cap) y.ev.parents from HYA.out.1).at hp
          have hi3 := index_any (P := Tryz.prog) knT (by decide) (b := b3) (off := o3) (cap := y.cap) hcl
          have r3 : wr.cell? ⟨b3, o3 + c, none⟩ = some (.string p) := (HPR.out.below.cell (p := ⟨b3, o3 + c, none⟩) hb3).trans (by have := hr3 0 _ rfl; simpa only [LT, Nat.mul_one, Nat.add_zero] using this)
          simp only [LT] at hi3
          have hlk := HPR.out.map.look hps
          have HNS := Lib.hid (nearL_succ (s := allL l) (qs := qs) hp)
          generalize (fQ (allL l) qs p).getD zeroV = z at hlk HNS
          unfold PsV.val PsV.sv at hlk
          have hlit := Lib.hid (show LP.Slice (wr.alloc (.cells #[.int .i64 (z.p.place : Int), .slice z.A z.p.ws.length z.c] 79)) (.slice (some ⟨wr.heap.size, 0, none⟩) 1 1) [z] from lit_slice (L := LP) wr z wr.heap.size rfl #[.int .i64 (z.p.place : Int), .slice z.A z.p.ws.length z.c] rfl)
          have hb6 := below_new wr (.cells #[.int .i64 (z.p.place : Int), .slice z.A z.p.ws.length z.c] 79)
          have HP6 := Lib.hid (HPR.out.on hb6)
          have HM6 := Lib.hid (HMN.out.below hb6)
          have hsz6 : w.heap.size ≤ (wr.alloc (.cells #[.int .i64 (z.p.place : Int), .slice z.A z.p.ws.length z.c] 79)).heap.size := HP6.out.below.size
          rw [hA3]
          clear hp hr3 hb6
          go_wp2_with (at_builtin; refine wpList_puts rfl knP (.tmp 30) (.tmp 34) 123 rfl (v := .slice Ao ns.length co) rfl HM6.out hsz6 (.slice (some ⟨wr.heap.size, 0, none⟩) 1 1) [z] 1 rfl rfl (hlit.out.srcN knP rfl) (by omega) ?_; intro A7 cap7 w7 m7 g7 o7; have HM7 := Lib.hid m7; have HP7 := Lib.hid (HP6.out.grown HM6.out g7); clear m7 g7 o7)
          refine ⟨⟨c + 1, ns ++ [z], A7, cap7, by rw [List.length_append]; rfl, by go_num, by omega, by rw [List.length_append]; simp only [List.length_cons, List.length_nil]; omega, Lib.hid (by rw [HNS.out, ← HNE.out]), HP7, HM7⟩, ?_⟩
          simp [intOf]; omega
        · have q2 : decide ((c : Int) < (y.ev.parents.length : Int)) = false := decide_eq_false (by omega)
          obtain rfl : c = y.ev.parents.length := by omega
          have HNA : Hid (∀ x ∈ ns, x.at wr) := Lib.hid (fun x hx => by
            rw [HNE.out] at hx
            obtain ⟨q, -, rfl⟩ := List.mem_map.1 hx
            exact HPR.out.at_ HV.out hl (by rw [HQA.out]; have := HYL.out; omega) q)
          have HAB := Lib.hid (aheadBehind_any _ ns wr HMN.out.slice HNA.out (by omega))
          have HBW : Hid (behindW (ns.map PsV.p) = behindW ((parsAt (allL l) a).map (lookP (allL l) (pastsA (allL l) a)))) := Lib.hid (by
            have e1 : parsAt (allL l) a = y.ev.parents := by unfold parsAt; rw [HSE.out]; rfl
            have e2 : qs.map PsV.p = pastsA (allL l) a := by have := HPR.out.is; rw [HQA.out] at this; exact this
            rw [e1, HNE.out, nearL, List.take_length, List.map_map]
            congr 1
            exact List.map_congr_left (fun q _ => fQ_look e2 q))
          generalize behindW (ns.map PsV.p) = bw at HAB HBW
          go_wp2_with fail
          go_at_call 74
          refine HAB.out.mono ?_
          rintro e w8 ⟨A8, c8, rfl, hm8, b8⟩
          have HP8 := Lib.hid (HPR.out.on b8)
          have hsz := HPR.out.below.size
          obtain ⟨w9, hr9, hp9⟩ := HP8.out.put HSO.out (by rw [HQA.out]; omega) (by rw [HQA.out]; exact HSE.out) HYA.out.2.1 ⟨⟨a, bw⟩, A8, c8⟩ (by unfold pastI; rw [HQA.out, HBW.out]) (show LU.Mine w8 w.heap.size (.slice A8 bw.length c8) bw from hm8.mono hsz)
          have HP9 := Lib.hid hp9
          have hc8 : c8 ≤ 9223372036854775807 := by
            obtain ⟨_, _, he, h5, hm, -⟩ := hm8.shape
            injection he with _ he2 he3
            unfold maxLen at hm
            omega
          unfold PsV.val PsV.sv at hr9
          simp only [] at hr9
          clear hp9 hm8 b8 HPR HP8 HMN HAB HNA
          go_wp2_with fail
          refine ⟨⟨a + 1, by go_num, by omega, Lib.hid ⟨_, by rw [List.length_append, HQA.out]; rfl, HP9.out⟩⟩, ?_⟩
          simp [intOf]; omega
    · have q1 : decide ((a : Int) < (ys.length : Int)) = false := decide_eq_false (by omega)
      go_wp2_with fail
      go_ret
      exact ⟨mb, qs, rfl, HPO.out, by have := HYL.out; have := HQA.out; omega⟩
end Go.Proofs.YtfbfdkibdjinaaaGreatDoor

namespace Go.Proofs.YtfbfdkibdjinaaaGreatDoor
set_option maxRecDepth 20000
open Go.RowKit Go.Maps Go.ChangeMaps
set_option linter.unusedVariables false
set_option linter.unusedSimpArgs false

/-- Only these blocks have turned, and new ones have come. -/
structure TurnP (P : Nat → Prop) (w w' : World) : Prop where
  os : w'.os = w.os
  tape : w'.tape = w.tape
  output : w'.output = w.output
  size : w.heap.size ≤ w'.heap.size
  block : ∀ k, k < w.heap.size → ¬ P k → w'.heap[k]? = w.heap[k]?
section
variable {P P' : Nat → Prop} {w w' w'' : World} {B : Nat}
theorem TurnP.refl : TurnP P w w := ⟨rfl, rfl, rfl, Nat.le_refl _, fun _ _ _ => rfl⟩
theorem TurnP.trans (h : TurnP P w w') (h' : TurnP P' w' w'') (hp : ∀ k, P' k → P k ∨ w.heap.size ≤ k) : TurnP P w w'' :=
  ⟨h'.os.trans h.os, h'.tape.trans h.tape, h'.output.trans h.output, Nat.le_trans h.size h'.size, fun k hk hn => (h'.block k (Nat.lt_of_lt_of_le hk h.size) (fun hh => by rcases hp k hh with hh | hh; exact hn hh; omega)).trans (h.block k hk hn)⟩
theorem TurnP.of_below (h : Below w.heap.size w w') : TurnP P w w' := ⟨h.os, h.tape, h.output, h.size, fun k hk _ => h.block k hk⟩
theorem TurnP.below (h : TurnP P w w') (hf : ∀ k, P k → B ≤ k) (hB : B ≤ w.heap.size) : Below B w w' := ⟨h.os, h.tape, h.output, h.size, fun k hk => h.block k (Nat.lt_of_lt_of_le hk hB) (fun hh => by have := hf k hh; omega)⟩
theorem TurnP.mono (h : TurnP P w w') (hp : ∀ k, P k → P' k) : TurnP P' w w' := ⟨h.os, h.tape, h.output, h.size, fun k hk hn => h.block k hk (fun hh => hn (hp k hh))⟩
theorem TurnP.drew (h : TurnP P w w') : TurnP P w w'.drew := ⟨h.os, h.tape, h.output, h.size, h.block⟩
theorem TurnP.cell {g o : Nat} {v : Value} (h : TurnP P w w') (hg : P g) : TurnP P w (w'.setCell ⟨g, o, none⟩ v) := by
  have hh := sm_grown w' g o [v]
  exact ⟨hh.os.trans h.os, hh.tape.trans h.tape, hh.output.trans h.output, Nat.le_trans h.size hh.size, fun k hk hn => (hh.block k (Nat.lt_of_lt_of_le hk h.size) (fun e => by injection e with e; exact hn (e ▸ hg))).trans (h.block k hk hn)⟩
end
/-- An index that has not been asked. -/
structure IxF (w : World) (g : Nat) (l : List Ev) (vr vp : Value) (ys : List EvV) : Prop where
  hd : w.heap[g]? = some (IxB vr vp 0 0 (.map none))
  row : LT.Mine w 0 vr ((allL l).map Ev.id)
  pars : LS.Mine w 0 vp ys
  evs : evs ys = allL l
  each : ∀ y ∈ ys, LT.Mine w 0 y.pv y.ev.parents ∧ y.ev.ok
/-- An index that has been asked. -/
structure IxN (w : World) (g : Nat) (l : List Ev) (vr : Value) (mb : Nat) (qs : List PsV) : Prop where
  hd : w.heap[g]? = some (IxB vr (.slice none 0 0) 1 0 (.map (some mb)))
  row : LT.Mine w 0 vr ((allL l).map Ev.id)
  map : PsM w mb l.length (fQ (allL l) qs)
  len : qs.length = l.length
  is : qs.map PsV.p = pastsA (allL l) l.length
  ws : ∀ q ∈ qs, LU.Mine w 0 q.sv q.p.ws
structure InF (P : Nat → Prop) (g : Nat) (vr vp : Value) (ys : List EvV) : Prop where
  g : P g
  row : ∀ k, vr.ownBlock = some k → P k
  pars : ∀ k, vp.ownBlock = some k → P k
  each : ∀ y ∈ ys, ∀ k, y.pv.ownBlock = some k → P k
structure InN (P : Nat → Prop) (g : Nat) (vr : Value) (mb : Nat) (qs : List PsV) : Prop where
  g : P g
  row : ∀ k, vr.ownBlock = some k → P k
  map : P mb
  each : ∀ q ∈ qs, ∀ k, q.sv.ownBlock = some k → P k
structure CX (w : World) (g : Nat) (l : List Ev) (P : Nat → Prop) : Prop where
  val : ∃ room, Valid room l
  len : l.length ≤ 9
  old : ∀ k, P k → k < w.heap.size
  is : (∃ vr vp ys, IxF w g l vr vp ys ∧ InF P g vr vp ys) ∨ ∃ vr mb qs, IxN w g l vr mb qs ∧ InN P g vr mb qs
section
variable {P P' : Nat → Prop} {w w' : World} {g mb : Nat} {l : List Ev} {vr vp : Value} {ys : List EvV} {qs : List PsV}
theorem IxF.keep (h : IxF w g l vr vp ys) (hi : InF P g vr vp ys) (hk : ∀ k, P k → w'.heap[k]? = w.heap[k]?) : IxF w' g l vr vp ys :=
  ⟨(hk g hi.g).trans h.hd, h.row.keep (fun k hh => hk k (hi.row k hh)), h.pars.keep (fun k hh => hk k (hi.pars k hh)), h.evs, fun y hy => ⟨(h.each y hy).1.keep (fun k hh => hk k (hi.each y hy k hh)), (h.each y hy).2⟩⟩
theorem IxN.keep (h : IxN w g l vr mb qs) (hi : InN P g vr mb qs) (hk : ∀ k, P k → w'.heap[k]? = w.heap[k]?) : IxN w' g l vr mb qs :=
  ⟨(hk g hi.g).trans h.hd, h.row.keep (fun k hh => hk k (hi.row k hh)), h.map.keep (hk mb hi.map), h.len, h.is, fun q hq => (h.ws q hq).keep (fun k hh => hk k (hi.each q hq k hh))⟩
/-- An index stays where its own blocks stay. -/
theorem CX.keep (h : CX w g l P) (hs : w.heap.size ≤ w'.heap.size) (hk : ∀ k, P k → w'.heap[k]? = w.heap[k]?) : CX w' g l P := by
  refine ⟨h.val, h.len, fun k hh => Nat.lt_of_lt_of_le (h.old k hh) hs, ?_⟩
  rcases h.is with ⟨vr, vp, ys, h1, h2⟩ | ⟨vr, mb, qs, h1, h2⟩
  · exact .inl ⟨vr, vp, ys, h1.keep h2 hk, h2⟩
  · exact .inr ⟨vr, mb, qs, h1.keep h2 hk, h2⟩
theorem CX.below (h : CX w g l P) (hb : Below w.heap.size w w') : CX w' g l P := h.keep hb.size (fun k hk => hb.block k (h.old k hk))
end
/-- What a call that asks an index tells: it is there still, and only its own blocks have turned. -/
def AskX (w w' : World) (g : Nat) (l : List Ev) (P : Nat → Prop) : Prop := ∃ P', CX w' g l P' ∧ TurnP P w w' ∧ ∀ k, P' k → P k ∨ w.heap.size ≤ k
theorem AskX.trans {w w' w'' : World} {g : Nat} {l : List Ev} {P P' : Nat → Prop} (ht : TurnP P w w') (hp : ∀ k, P' k → P k ∨ w.heap.size ≤ k) (h' : AskX w' w'' g l P') : AskX w w'' g l P := by
  obtain ⟨P'', h1, h2, h3⟩ := h'
  refine ⟨P'', h1, ht.trans h2 hp, fun k hk => ?_⟩
  rcases h3 k hk with hh | hh
  · exact hp k hh
  · exact .inr (Nat.le_trans ht.size hh)
theorem AskX.still {w w' : World} {g : Nat} {l : List Ev} {P : Nat → Prop} (h : CX w g l P) (hb : Below w.heap.size w w') : AskX w w' g l P := ⟨P, h.below hb, .of_below hb, fun k hk => .inl hk⟩
end Go.Proofs.YtfbfdkibdjinaaaGreatDoor

namespace Go.Proofs.YtfbfdkibdjinaaaGreatDoor
set_option maxRecDepth 20000
open Go.RowKit Go.Maps Go.ChangeMaps
set_option linter.unusedVariables false
set_option linter.unusedSimpArgs false

/-- Pasts that are new since w, beside the index's block. -/
structure KnS (w W : World) (g : Nat) (l : List Ev) (mb : Nat) (qs : List PsV) : Prop where
  trn : TurnP (fun k => k = g) w W
  lo : g < w.heap.size
  new : w.heap.size ≤ mb
  map : PsM W mb l.length (fQ (allL l) qs)
  len : qs.length = l.length
  is : qs.map PsV.p = pastsA (allL l) l.length
  ws : ∀ q ∈ qs, LU.Mine W w.heap.size q.sv q.p.ws
section
variable {w W : World} {g : Nat} {l : List Ev} {mb : Nat} {qs : List PsV}
theorem KnS.cell (h : KnS w W g l mb qs) (o : Nat) (v : Value) : KnS w (W.setCell ⟨g, o, none⟩ v) g l mb qs := by
  have hg := sm_grown W g o [v]
  have h1 := h.lo
  have h2 := h.new
  exact ⟨h.trn.cell rfl, h.lo, h.new, h.map.keep (hg.block mb h.map.lt (fun e => by injection e with e; omega)), h.len, h.is, fun q hq => (h.ws q hq).grown hg (fun k hk e => by injection e with e; have := ((h.ws q hq).lt k hk).1; omega)⟩
theorem KnS.drew (h : KnS w W g l mb qs) : KnS w W.drew g l mb qs := ⟨h.trn.drew, h.lo, h.new, h.map.keep rfl, h.len, h.is, fun q hq => (h.ws q hq).keep (fun _ _ => rfl)⟩
theorem KnS.mono {w0 : World} (h : KnS w W g l mb qs) (ht : TurnP (fun k => k = g) w0 w) (hl : g < w0.heap.size) : KnS w0 W g l mb qs := ⟨ht.trans h.trn (fun k hk => .inl hk), hl, Nat.le_trans ht.size h.new, h.map, h.len, h.is, fun q hq => (h.ws q hq).mono ht.size⟩
end
theorem ixb_set5 {w : World} {g : Nat} {row par m : Value} {d st : Int} (h : w.heap[g]? = some (IxB row par d st m)) (x : Value) : (w.setCell ⟨g, 5, none⟩ x).heap[g]? = some (IxB row par d st x) := by
  obtain ⟨cur, z1, z2, z3⟩ := sm_at g 73 [x] 5 w _ h (by show 6 ≤ 6; omega)
  have z5 : cur = #[row, par, .int .u32 d, .int .i32 st, .int .u32 0, x] := Array.toList_inj.1 z3
  rw [z5] at z1
  exact z1
theorem ixb_set1 {w : World} {g : Nat} {row par m : Value} {d st : Int} (h : w.heap[g]? = some (IxB row par d st m)) (x : Value) : (w.setCell ⟨g, 1, none⟩ x).heap[g]? = some (IxB row x d st m) := by
  obtain ⟨cur, z1, z2, z3⟩ := sm_at g 73 [x] 1 w _ h (by show 2 ≤ 6; omega)
  have z5 : cur = #[row, x, .int .u32 d, .int .i32 st, .int .u32 0, m] := Array.toList_inj.1 z3
  rw [z5] at z1
  exact z1

set_option maxHeartbeats 1600000 in
theorem known1_any {room : ByteArray} {l : List Ev} (hv : Valid room l) (hl : l.length ≤ 9) (g pb : Nat) (vr vp : Value) (ys : List EvV) (w : World) (hne : pb ≠ g) (hd : w.heap[g]? = some (IxB vr vp 0 1 (.map none))) (hbx : w.heap[pb]? = some (.cells #[.pointer (some ⟨g, 0, none⟩)] 29 (0, 0)))
    (hr : LT.Slice w vr ((allL l).map Ev.id)) (hp : LS.Slice w vp ys) (hy : ∀ y ∈ ys, y.at w) (hys : evs ys = allL l) :
    Calls Tryz.prog 51 #[.pointer (some ⟨pb, 0, none⟩)] w fun e W' => e = .returned (.tuple #[]) ∧ ∃ mb qs, W'.heap[g]? = some (IxB vr (.slice none 0 0) 0 1 (.map (some mb))) ∧ KnS w W' g l mb qs := by
  have HPA := Lib.hid (pastsOf_any hv hl vr vp ys w.drew (by rw [hys]; exact hr) hp hy hys)
  have HD := Lib.hid hd
  have HB := Lib.hid hbx
  obtain ⟨A0, c0, hvr, -⟩ := id hr
  obtain ⟨A1, c1, hvp, -⟩ := id hp
  generalize ((allL l).map Ev.id).length = nr at hvr
  subst hvr
  subst hvp
  have hgl := smem_lt hd
  clear hr hp hy hys hv hd hbx
  go_enter Tryz.func51, Tryz.ntmps51
  go_upto_region 0 with (fail)
  refine wp_region_held_drew (S := fun W => W.heap[pb]? = some (.cells #[.pointer (some ⟨g, 0, none⟩)] 29 (0, 0)) ∧ ∃ m, W.heap[g]? = some (IxB (.slice A0 nr c0) (.slice A1 ys.length c1) 0 1 m)) (by kernel_rfl) ⟨HB.out, _, HD.out⟩ (fun hHeld => ?_)
  refine wpAnyH_take (i := 0) (oi := ⟨some 1, _, _, _, _, _⟩) (v := ?va0) rfl (by kernel_rfl) (by kernel_rfl) (by kernel_rfl) (fun _ _ _ h => h) (Or.inl ⟨by rfl, ?ya0⟩) hHeld ?ra0
  case ya0 =>
    intro wx hSx
    have p0 := cell_at hSx.1 0
    go_simp
    try with_reducible rfl
  try simp only [Act.put, List.setIfInBounds_toArray, List.set_cons_zero, List.set_cons_succ]
  refine wpAnyH_take (i := 1) (oi := ⟨some 2, _, _, _, _, _⟩) (v := ?va1) rfl (by kernel_rfl) (by kernel_rfl) (by kernel_rfl) (fun _ _ _ h => h) (Or.inl ⟨by rfl, ?ya1⟩) hHeld ?ra1
  case ya1 =>
    intro wx hSx
    have p0 := cell_at hSx.1 0
    go_simp
    try with_reducible rfl
  try simp only [Act.put, List.setIfInBounds_toArray, List.set_cons_zero, List.set_cons_succ]
  refine wpAnyH_take (i := 2) (oi := ⟨some 3, _, _, _, _, _⟩) (v := ?va2) rfl (by kernel_rfl) (by kernel_rfl) (by kernel_rfl) (fun _ _ _ h => h) (Or.inl ⟨by rfl, ?ya2⟩) hHeld ?ra2
  case ya2 =>
    intro wx hSx
    go_simp
    try with_reducible rfl
  try simp only [Act.put, List.setIfInBounds_toArray, List.set_cons_zero, List.set_cons_succ]
  refine wpAnyH_take (i := 3) (oi := ⟨some 4, _, _, _, _, _⟩) (v := ?va3) rfl (by kernel_rfl) (by kernel_rfl) (by kernel_rfl) (fun _ _ _ h => h) (Or.inl ⟨by rfl, ?ya3⟩) hHeld ?ra3
  case ya3 =>
    intro wx hSx
    go_simp
    try with_reducible rfl
  try simp only [Act.put, List.setIfInBounds_toArray, List.set_cons_zero, List.set_cons_succ]
  refine wpAnyH_take (i := 4) (oi := ⟨some 5, _, _, _, _, _⟩) (v := ?va4) rfl (by kernel_rfl) (by kernel_rfl) (by kernel_rfl) (fun _ _ _ h => h) (Or.inl ⟨by rfl, ?ya4⟩) hHeld ?ra4
  case ya4 =>
    intro wx hSx
    obtain ⟨m, hm⟩ := hSx.2
    have p0 := cell_at hm 0
    have p1 := cell_at hm 1
    go_simp
    try with_reducible rfl
  try simp only [Act.put, List.setIfInBounds_toArray, List.set_cons_zero, List.set_cons_succ]
  refine wpAnyH_take (i := 5) (oi := ⟨some 6, _, _, _, _, _⟩) (v := ?va5) rfl (by kernel_rfl) (by kernel_rfl) (by kernel_rfl) (fun _ _ _ h => h) (Or.inl ⟨by rfl, ?ya5⟩) hHeld ?ra5
  case ya5 =>
    intro wx hSx
    have p0 := cell_at hSx.1 0
    go_simp
    try with_reducible rfl
  try simp only [Act.put, List.setIfInBounds_toArray, List.set_cons_zero, List.set_cons_succ]
  refine wpAnyH_take (i := 6) (oi := ⟨some 7, _, _, _, _, _⟩) (v := ?va6) rfl (by kernel_rfl) (by kernel_rfl) (by kernel_rfl) (fun _ _ _ h => h) (Or.inl ⟨by rfl, ?ya6⟩) hHeld ?ra6
  case ya6 =>
    intro wx hSx
    go_simp
    try with_reducible rfl
  try simp only [Act.put, List.setIfInBounds_toArray, List.set_cons_zero, List.set_cons_succ]
  refine wpAnyH_take (i := 7) (oi := ⟨some 8, _, _, _, _, _⟩) (v := ?va7) rfl (by kernel_rfl) (by kernel_rfl) (by kernel_rfl) (fun _ _ _ h => h) (Or.inl ⟨by rfl, ?ya7⟩) hHeld ?ra7
  case ya7 =>
    intro wx hSx
    go_simp
    try with_reducible rfl
  try simp only [Act.put, List.setIfInBounds_toArray, List.set_cons_zero, List.set_cons_succ]
  refine wpAnyH_take (i := 8) (oi := ⟨some 9, _, _, _, _, _⟩) (v := ?va8) rfl (by kernel_rfl) (by kernel_rfl) (by kernel_rfl) (fun _ _ _ h => h) (Or.inl ⟨by rfl, ?ya8⟩) hHeld ?ra8
  case ya8 =>
    intro wx hSx
    obtain ⟨m, hm⟩ := hSx.2
    have p0 := cell_at hm 0
    have p1 := cell_at hm 1
    go_simp
    try with_reducible rfl
  try simp only [Act.put, List.setIfInBounds_toArray, List.set_cons_zero, List.set_cons_succ]
  refine wpAnyH_ready (rs := [9]) (by kernel_rfl) (by simp) ?_
  refine AllReadyH.cons (o := ⟨some 10, _, _, _, _, _⟩) rfl (fun K hK => ?_) AllReadyH.nil
  go_simp
  refine HPA.out.mono ?_
  rintro e wn ⟨mb, qs, rfl, hpo, hql⟩
  have hbn : Below w.heap.size w wn := (Below.refl _ _).drew.trans hpo.below
  have HD2 := Lib.hid ((hbn.block g hgl).trans HD.out)
  have HK2 : Hid (KnS w wn g l mb qs) := Lib.hid ⟨TurnP.of_below hbn, hgl, hpo.new, by rw [← hql]; exact hpo.map, hql, by rw [← hql]; exact hpo.is, hpo.row⟩
  refine hK.out _ _ ⟨(hbn.block pb (smem_lt HB.out)).trans HB.out, _, HD2.out⟩ (fun hHeld => ?_)
  have HB2 := Lib.hid ((hbn.block pb (smem_lt HB.out)).trans HB.out)
  clear hK K hbn hpo hql HPA
  try simp only [Act.put, List.setIfInBounds_toArray, List.set_cons_zero, List.set_cons_succ]
  refine wpAnyH_take (i := 10) (oi := ⟨some 11, _, _, _, _, _⟩) (v := ?va10) rfl (by kernel_rfl) (by kernel_rfl) (by kernel_rfl) (fun _ _ _ h => h) (Or.inl ⟨by rfl, ?ya10⟩) hHeld ?ra10
  case ya10 =>
    intro wx hSx
    go_simp
    try with_reducible rfl
  try simp only [Act.put, List.setIfInBounds_toArray, List.set_cons_zero, List.set_cons_succ]
  refine wpAnyH_take (i := 11) (oi := ⟨some 12, _, _, _, _, _⟩) (v := ?va11) rfl (by kernel_rfl) (by kernel_rfl) (by kernel_rfl) (fun _ _ _ h => h) (Or.inl ⟨by rfl, ?ya11⟩) hHeld ?ra11
  case ya11 =>
    intro wx hSx
    go_simp
    try with_reducible rfl
  try simp only [Act.put, List.setIfInBounds_toArray, List.set_cons_zero, List.set_cons_succ]
  refine wpAnyH_ready (rs := [12]) (by kernel_rfl) (by simp) ?_
  refine AllReadyH.cons (o := ⟨none, _, _, _, _, _⟩) rfl (fun K hK => ?_) AllReadyH.nil
  have c5 : wn.cell? ⟨g, 5, none⟩ = some (.map none) := cell_at HD2.out 5
  have f5 : wn.frozen? ⟨g, 5, none⟩ = false := free_at HD2.out 5
  have HD3 := Lib.hid (ixb_set5 HD2.out (.map (some mb)))
  have HK3 := Lib.hid (HK2.out.cell 5 (.map (some mb)))
  have HB3 := Lib.hid (((sm_grown wn g 5 [.map (some mb)]).block pb (smem_lt HB2.out) (fun e => hne (by injection e))).trans HB2.out)
  simp only [World.setCells] at HB3
  go_simp
  generalize World.setCell _ _ _ = w3 at HD3 HK3 HB3 ⊢
  refine hK.out _ _ ⟨HB3.out, _, HD3.out⟩ (fun hHeld => ?_)
  clear hK K c5 f5 HD2 HK2 HB2
  try simp only [Act.put, List.setIfInBounds_toArray, List.set_cons_zero, List.set_cons_succ]
  refine wpAnyH_done (by kernel_rfl) ?_ _
  have b0 : w3.cell? ⟨pb, 0, none⟩ = some (.pointer (some ⟨g, 0, none⟩)) := cell_at HB3.out 0
  have c1' : w3.cell? ⟨g, 1, none⟩ = some (.slice A1 ys.length c1) := cell_at HD3.out 1
  have f1' : w3.frozen? ⟨g, 1, none⟩ = false := free_at HD3.out 1
  have HD4 := Lib.hid (ixb_set1 HD3.out (.slice none 0 0))
  have HK4 := Lib.hid (HK3.out.cell 1 (.slice none 0 0))
  go_wp2_with fail
  go_end0
  exact ⟨rfl, mb, qs, HD4.out, HK4.out⟩

theorem mine_neL {α : Type} {L : Lies α} {w : World} {B b : Nat} {v : Value} {xs : List α} {cs : Array Value} {t : TypeId} (hm : L.Mine w B v xs) (hb : w.heap[b]? = some (.cells cs t (0, 0))) (ht : t ≠ L.e) : ∀ k, v.ownBlock = some k → k ≠ b := by
  intro k hk e
  subst e
  rcases hm with ⟨rfl, _⟩ | ⟨g, off, cap, cur, rfl, _, hh, _⟩
  · cases hk
  · simp only [Value.ownBlock, Option.some.injEq] at hk
    subst hk
    rw [hb] at hh
    injection hh with hh
    injection hh with _ hh
    exact ht hh
/-- Which blocks are its own, once it has been asked. -/
def setN (g : Nat) (vr : Value) (mb : Nat) (qs : List PsV) (k : Nat) : Prop := k = g ∨ vr.ownBlock = some k ∨ k = mb ∨ ∃ q ∈ qs, q.sv.ownBlock = some k
theorem setN_in (g : Nat) (vr : Value) (mb : Nat) (qs : List PsV) : InN (setN g vr mb qs) g vr mb qs := ⟨.inl rfl, fun k h => .inr (.inl h), .inr (.inr (.inl rfl)), fun q hq k h => .inr (.inr (.inr ⟨q, hq, h⟩))⟩
/-- Behind the first asking. -/
theorem first_done {P : Nat → Prop} {w w1 w2 : World} {g mb : Nat} {l : List Ev} {vr vp : Value} {ys : List EvV} {qs : List PsV} (h : CX w g l P) (hf : IxF w g l vr vp ys) (hi : InF P g vr vp ys) (hb : Below w.heap.size w w1) (hk : KnS w1 w2 g l mb qs) (hd : w2.heap[g]? = some (IxB vr (.slice none 0 0) 1 0 (.map (some mb)))) :
    IxN w2 g l vr mb qs ∧ CX w2 g l (setN g vr mb qs) ∧ TurnP P w w2 ∧ ∀ k, setN g vr mb qs k → P k ∨ w.heap.size ≤ k := by
  have hne := mine_ne hf.row hf.hd (by decide)
  have hrow : LT.Mine w2 0 vr ((allL l).map Ev.id) := hf.row.keep (fun k hk' => (hk.trn.block k (Nat.lt_of_lt_of_le (h.old k (hi.row k hk')) hb.size) (hne k hk')).trans (hb.block k (h.old k (hi.row k hk'))))
  have hN : IxN w2 g l vr mb qs := ⟨hd, hrow, hk.map, hk.len, hk.is, fun q hq => (hk.ws q hq).mono (Nat.zero_le _)⟩
  refine ⟨hN, ⟨h.val, h.len, fun k hk' => ?_, .inr ⟨vr, mb, qs, hN, setN_in g vr mb qs⟩⟩, ?_, fun k hk' => ?_⟩
  · rcases hk' with rfl | hk' | rfl | ⟨q, hq, hk'⟩
    · exact smem_lt hd
    · exact (hrow.lt k hk').2
    · exact hk.map.lt
    · exact ((hk.ws q hq).lt k hk').2
  · exact (TurnP.of_below hb).trans hk.trn (fun k hk' => .inl (by rw [hk']; exact hi.g))
  · have hs := hb.size
    rcases hk' with rfl | hk' | rfl | ⟨q, hq, hk'⟩
    · exact .inl hi.g
    · exact .inl (hi.row k hk')
    · exact .inr (Nat.le_trans hs hk.new)
    · exact .inr (Nat.le_trans hs ((hk.ws q hq).lt k hk').1)

set_option maxHeartbeats 1600000 in
theorem known_any {P : Nat → Prop} {g : Nat} {l : List Ev} (w : World) (h : CX w g l P) :
    Calls Tryz.prog 31 #[.pointer (some ⟨g, 0, none⟩)] w fun e w' => ∃ P' vr mb qs, e = .returned (.map (some mb)) ∧ IxN w' g l vr mb qs ∧ InN P' g vr mb qs ∧ CX w' g l P' ∧ TurnP P w w' ∧ ∀ k, P' k → P k ∨ w.heap.size ≤ k := by
  have HC := Lib.hid h
  have HBX := Lib.hid (heap_alloc_new w (.cells #[.pointer (some ⟨g, 0, none⟩)] 29))
  have HBN := Lib.hid (below_new w (.cells #[.pointer (some ⟨g, 0, none⟩)] 29))
  have hmf : ∀ (fn : Fn) (first cap : Array Value) (w : World), (Instr.makeFunc fn first cap).run Tryz.prog w = .ok (.func fn first cap) w := fun _ _ _ _ => rfl
  obtain ⟨room, hv⟩ := h.val
  rcases h.is with ⟨vr, vp, ys, hf, hi⟩ | ⟨vr, mb, qs, hf, hi⟩
  · have HF := Lib.hid hf
    have HI := Lib.hid hi
    have hgl := smem_lt hf.hd
    have HV := Lib.hid hv
    clear h hv hf hi
    go_enter Tryz.func31, Tryz.ntmps31
    go_upto_region 1 with (fail)
    generalize w.alloc _ = w1 at HBX HBN ⊢
    have hne : w.heap.size ≠ g := by omega
    generalize w.heap.size = pb at HBX hne ⊢
    have HF1 := Lib.hid (HF.out.keep HI.out (fun k hk => HBN.out.block k (HC.out.old k hk)))
    have HG := Lib.hid (sm_grown w1 g 3 [.int .i32 1])
    have HIN := Lib.hid (known1_any HV.out HC.out.len g pb vr vp ys (w1.setCell ⟨g, 3, none⟩ (.int .i32 1)) (fun e => hne e) (ixb_set3 HF1.out.hd 1) ((HG.out.block pb (smem_lt HBX.out) (fun e => hne (by injection e))).trans HBX.out)
      (HF1.out.row.grown HG.out (fun k hk e => mine_ne HF1.out.row HF1.out.hd (by decide) k hk (by injection e))).slice
      (HF1.out.pars.grown HG.out (fun k hk e => mine_neL HF1.out.pars HF1.out.hd (by decide) k hk (by injection e))).slice
      (fun y hy => ⟨((HF1.out.each y hy).1.grown HG.out (fun k hk e => mine_ne (HF1.out.each y hy).1 HF1.out.hd (by decide) k hk (by injection e))).slice, (HF1.out.each y hy).2⟩) HF1.out.evs)
    have HDO := Lib.hid (do_first g ⟨pb, 0, none⟩ vr vp (.map none) (fun W' => ∃ mb qs, W'.heap[g]? = some (IxB vr (.slice none 0 0) 0 1 (.map (some mb))) ∧ KnS (w1.setCell ⟨g, 3, none⟩ (.int .i32 1)) W' g l mb qs) w1 HF1.out.hd HIN.out (fun W' ⟨mb, qs, h1, _⟩ => ⟨_, _, _, h1⟩))
    have p0 : w1.cell? ⟨pb, 0, none⟩ = some (.pointer (some ⟨g, 0, none⟩)) := cell_at HBX.out 0
    go_wp2_with fail
    go_at_call 50
    refine HDO.out.mono ?_
    rintro e w2 ⟨rfl, W', ⟨mb, qs, hW, hK⟩, hw2⟩
    have hgl1 : g < w1.heap.size := Nat.lt_of_lt_of_le hgl HBN.out.size
    have HK : Hid (KnS w1 w2 g l mb qs) := Lib.hid (by rw [hw2]; exact ((hK.drew.cell 2 _).cell 3 _).mono (TurnP.refl.cell rfl) hgl1)
    have HD2 : Hid (w2.heap[g]? = some (IxB vr (.slice none 0 0) 1 0 (.map (some mb)))) := Lib.hid (by rw [hw2]; exact ixb_set3 (ixb_set2 (w := W'.drew) hW 1) 0)
    have HFD := Lib.hid (first_done HC.out HF.out HI.out HBN.out HK.out HD2.out)
    have q0 : w2.cell? ⟨pb, 0, none⟩ = some (.pointer (some ⟨g, 0, none⟩)) := (World.cell?_of_block (a := ⟨pb, 0, none⟩) (HK.out.trn.block pb (smem_lt HBX.out) hne)).trans p0
    have q1 : w2.cell? ⟨g, 5, none⟩ = some (.map (some mb)) := cell_at HD2.out 5
    clear hw2 hW hK HDO HIN p0
    go_wp2_with fail
    go_ret
    exact ⟨_, vr, mb, qs, rfl, HFD.out.1, setN_in _ _ _ _, HFD.out.2.1, HFD.out.2.2.1, HFD.out.2.2.2⟩
  · have HF := Lib.hid hf
    have HI := Lib.hid hi
    have hgl := smem_lt hf.hd
    clear h hv hf hi
    go_enter Tryz.func31, Tryz.ntmps31
    go_upto_region 1 with (fail)
    generalize w.alloc _ = w1 at HBX HBN ⊢
    generalize w.heap.size = pb at HBX ⊢
    have HF1 := Lib.hid (HF.out.keep HI.out (fun k hk => HBN.out.block k (HC.out.old k hk)))
    have p0 : w1.cell? ⟨pb, 0, none⟩ = some (.pointer (some ⟨g, 0, none⟩)) := cell_at HBX.out 0
    have p5 : w1.cell? ⟨g, 5, none⟩ = some (.map (some mb)) := cell_at HF1.out.hd 5
    go_wp2_with fail
    go_at_call 50
    refine (do_done g vr _ _ _ w1 HF1.out.hd).mono ?_
    rintro e w2 ⟨rfl, rfl⟩
    go_wp2_with fail
    go_ret
    exact ⟨P, vr, mb, qs, rfl, HF1.out, HI.out, HC.out.below HBN.out, .of_below HBN.out, fun k hk => .inl hk⟩
end Go.Proofs.YtfbfdkibdjinaaaGreatDoor

namespace Go.Proofs.YtfbfdkibdjinaaaGreatDoor
set_option maxRecDepth 20000
open Go.RowKit Go.Maps Go.ChangeMaps
set_option linter.unusedVariables false
set_option linter.unusedSimpArgs false

section
variable {w w' : World} {g mb : Nat} {l : List Ev} {vr : Value} {qs : List PsV} {room : ByteArray} {a b : ByteArray}
theorem hasE_all (hv : Valid room l) (a : ByteArray) : hasE (allL l) a = hasE l a := by
  rw [Bool.eq_iff_iff, has_iff, has_iff]
  exact ⟨fun ⟨x, hx, h⟩ => ⟨x, ((allL_row hv).2 x).1 hx, h⟩, fun ⟨x, hx, h⟩ => ⟨x, ((allL_row hv).2 x).2 hx, h⟩⟩
theorem IxN.some_ (h : IxN w g l vr mb qs) (hv : Valid room l) (ha : hasE l a = true) : ∃ (j : Nat) (e : Ev) (q : PsV), (allL l)[j]? = some e ∧ e.id = a ∧ fQ (allL l) qs a = some q ∧ q.p = pastI (allL l) j ∧ q ∈ qs := by
  rw [← hasE_all hv] at ha
  unfold hasE at ha
  obtain ⟨j, hj⟩ := Option.isSome_iff_exists.1 ha
  obtain ⟨e, he, hid, -⟩ := idx_some hj
  have hjl : j < qs.length := by
    have := (List.getElem?_eq_some_iff.1 he).1
    rw [allL_len] at this
    rw [h.len]; exact this
  have hq := List.getElem?_eq_getElem hjl
  refine ⟨j, e, qs[j], he, hid, ?_, ?_, List.getElem_mem hjl⟩
  · unfold fQ
    rw [hj]
    exact hq
  · have h1 : (qs.map PsV.p)[j]? = some qs[j].p := by rw [List.getElem?_map, hq]; rfl
    rw [h.is, pastsA_get _ _ _ (by rw [← h.len]; exact hjl)] at h1
    injection h1 with h1
    exact h1.symm
theorem IxN.none_ (hv : Valid room l) (ha : hasE l a = false) : fQ (allL l) qs a = none := by
  rw [← hasE_all hv] at ha
  unfold hasE at ha
  unfold fQ
  cases hi : idx (allL l) a with
  | none => rfl
  | some j => rw [hi] at ha; cases ha
theorem IxN.at_ (h : IxN w g l vr mb qs) (hv : Valid room l) (hl : l.length ≤ 9) (a : ByteArray) : ((fQ (allL l) qs a).getD zeroV).at w := by
  cases ha : hasE l a with
  | false => rw [IxN.none_ hv ha]; exact ⟨.nil _, zeroP_ok⟩
  | true =>
    obtain ⟨j, e, q, he, -, hf, hq, hm⟩ := h.some_ hv ha
    rw [hf]
    refine ⟨(h.ws q hm).slice, ?_⟩
    show q.p.ok
    rw [hq]
    exact pastI_ok hv hl he
/-- The bit at a's place in b's word. -/
theorem IxN.bit (h : IxN w g l vr mb qs) (hv : Valid room l) {j : Nat} {e : Ev} (he : (allL l)[j]? = some e) (b : ByteArray) : ((fQ (allL l) qs b).getD zeroV).p.word.testBit j = aheadB l e.id b := by
  rw [Bool.eq_iff_iff, aheadB_iff]
  cases hb : hasE l b with
  | false =>
    rw [IxN.none_ hv hb]
    refine ⟨fun h1 => ?_, fun h1 => ?_⟩
    · simp [zeroV, zeroP, Pst.word] at h1
    · rw [h1.last] at hb; cases hb
  | true =>
    obtain ⟨jb, eb, q, heb, hid, hf, hq, hm⟩ := h.some_ hv hb
    rw [hf, Option.getD_some, hq, past_bit hv jb eb heb j, hid]
    constructor
    · rintro ⟨f, hf1, hah⟩
      rw [he] at hf1
      injection hf1 with hf1
      rw [hf1]; exact hah
    · exact fun hah => ⟨e, he, hah⟩
end
theorem field_past (p : Int) (A : Option Addr) (n c : Nat) (w : World) : (Instr.field 79 (.agg #[.int .i64 p, .slice A n c]) 1).run Tryz.prog w = .ok (.slice A n c) w := by kernel_rfl
/-- set.has, of a past's set. -/
theorem has_any (x : PsV) (p : Nat) (w : World) (hx : x.at w) (hp : p < 9) :
    Calls Tryz.prog 32 #[.slice x.A x.p.ws.length x.c, .int .i64 (p : Int)] w fun e w' => e = .returned (.bool (x.p.word.testBit p)) ∧ w' = w := by
  obtain ⟨⟨pl, ws⟩, A, c⟩ := x
  have hs : LU.Slice w (.slice A ws.length c) ws := hx.1
  have hlen : ws.length ≤ 1 := hx.2.len
  have hlt : ∀ W ∈ ws, W < 512 := hx.2.lt
  have hc : c ≤ 9223372036854775807 := by
    obtain ⟨A', c', he, -, h2, -⟩ := hs
    injection he with _ _ h3
    unfold maxLen at h2
    omega
  cases ws with
  | nil =>
    refine (has_none A c p w hp hc).mono ?_
    rintro e w' ⟨rfl, rfl⟩
    exact ⟨by simp [Pst.word], rfl⟩
  | cons W tl =>
    obtain rfl : tl = [] := by cases tl with
      | nil => rfl
      | cons _ _ => simp at hlen
    obtain ⟨b, o, rfl, hb, hr⟩ := hs.at (i := 0) (x := W) rfl
    exact has_one b o c W p w hp (hlt W (by simp)) hc (by have := hr 0 _ rfl; simpa only [LU, Nat.zero_mul, Nat.add_zero] using this)
set_option maxHeartbeats 1600000 in
theorem ahead_any {P : Nat → Prop} {g : Nat} {l : List Ev} (w : World) (h : CX w g l P) (a b : ByteArray) (ha : a.size ≤ maxLen) (hb : b.size ≤ maxLen) :
    Calls Tryz.prog 12 #[.pointer (some ⟨g, 0, none⟩), .string a, .string b] w fun e w' => e = .returned (.bool (aheadB l a b)) ∧ AskX w w' g l P := by
  have HK := Lib.hid (known_any w h)
  obtain ⟨room, hv⟩ := h.val
  have hl := h.len
  have HV := Lib.hid hv
  clear h hv
  go_enter Tryz.func12, Tryz.ntmps12
  go_wp2_with fail
  go_at_call 31
  refine HK.out.mono ?_
  rintro e w1 ⟨P', vr, mb, qs, rfl, hN, hI, hC, hT, hP⟩
  have HN := Lib.hid hN
  have HA : Hid (∀ w2, Below w1.heap.size w1 w2 → AskX w w2 g l P) := Lib.hid (fun w2 hb => AskX.trans hT hP (AskX.still hC hb))
  have hl1 := hN.map.look2 ha
  have HZ := Lib.hid (hN.at_ HV.out hl b)
  clear hN hI hC hT hP HK
  cases hh : hasE l a with
  | false =>
    have HR : Hid (aheadB l a b = false) := Lib.hid (by
      cases h2 : aheadB l a b with
      | false => rfl
      | true => rw [(aheadB_iff.1 h2).first HV.out] at hh; cases hh)
    rw [IxN.none_ HV.out hh] at hl1
    rw [Option.getD_none, zeroV_val] at hl1
    simp only [Option.isSome_none] at hl1
    go_wp2_with fail
    go_ret
    exact ⟨by rw [HR.out]; rfl, HA.out _ (below_new _ _)⟩
  | true =>
    obtain ⟨j, e, q, he, hid, hf, hq, hm⟩ := HN.out.some_ HV.out hh
    have HR := Lib.hid (HN.out.bit HV.out he b)
    rw [hid] at HR
    have hj : j < 9 := by
      have := (List.getElem?_eq_some_iff.1 he).1
      rw [allL_len] at this
      omega
    rw [hf] at hl1
    simp only [Option.getD_some, Option.isSome_some] at hl1
    have hqp : q.p.place = j := by rw [hq]; rfl
    unfold PsV.val PsV.sv at hl1
    rw [hqp] at hl1
    generalize q.p.ws.length = nq at hl1
    have HB2 := Lib.hid (below_new w1 (.cells #[.int .i64 (j : Int), .slice q.A nq q.c] 79))
    have HX2 := Lib.hid (heap_alloc_new w1 (.cells #[.int .i64 (j : Int), .slice q.A nq q.c] 79))
    clear hf hq hm hid he hh hqp
    go_upto_region 3 with (fail)
    generalize w1.alloc _ = w2 at HB2 HX2 ⊢
    have hl2 := (HN.out.map.keep (HB2.out.block mb HN.out.map.lt)).look hb
    generalize w1.heap.size = B8 at HX2 ⊢
    generalize (fQ (allL l) qs b).getD zeroV = z at hl2 HZ HR
    unfold PsV.val PsV.sv at hl2
    have p0 : w2.cell? ⟨B8, 0, none⟩ = some (.int .i64 (j : Int)) := cell_at HX2.out 0
    have HH := Lib.hid (has_any z j w2 (HZ.out.below HB2.out) hj)
    rw [HR.out] at HH
    clear hl1
    have hfd := field_past
    go_wp2_with fail
    go_at_call 32
    refine HH.out.mono ?_
    rintro e w3 ⟨rfl, rfl⟩
    go_wp2_with fail
    go_ret
    exact ⟨rfl, HA.out _ HB2.out⟩
end Go.Proofs.YtfbfdkibdjinaaaGreatDoor

namespace Go.Proofs.YtfbfdkibdjinaaaGreatDoor
set_option maxRecDepth 20000
open Go.RowKit Go.Maps Go.ChangeMaps
set_option linter.unusedVariables false
set_option linter.unusedSimpArgs false

set_option maxHeartbeats 800000 in
theorem hasX_any {P : Nat → Prop} {g : Nat} {l : List Ev} (w : World) (h : CX w g l P) (a : ByteArray) (ha : a.size ≤ maxLen) :
    Calls Tryz.prog 34 #[.pointer (some ⟨g, 0, none⟩), .string a] w fun e w' => e = .returned (.bool (hasE l a)) ∧ AskX w w' g l P := by
  have HK := Lib.hid (known_any w h)
  obtain ⟨room, hv⟩ := h.val
  have HV := Lib.hid hv
  clear h hv
  go_enter Tryz.func34, Tryz.ntmps34
  go_wp2_with fail
  go_at_call 31
  refine HK.out.mono ?_
  rintro e w1 ⟨P', vr, mb, qs, rfl, hN, hI, hC, hT, hP⟩
  have HA : Hid (∀ w2, Below w1.heap.size w1 w2 → AskX w w2 g l P) := Lib.hid (fun w2 hb => AskX.trans hT hP (AskX.still hC hb))
  have hl1 := hN.map.look2 ha
  have HS : Hid ((fQ (allL l) qs a).isSome = hasE l a) := Lib.hid (by
    cases hh : hasE l a with
    | false => rw [IxN.none_ HV.out hh]; rfl
    | true => obtain ⟨j, e, q, -, -, hf, -⟩ := hN.some_ HV.out hh; rw [hf]; rfl)
  rw [HS.out] at hl1
  generalize (fQ (allL l) qs a).getD zeroV = z at hl1
  unfold PsV.val PsV.sv at hl1
  clear hN hI hC hT hP HK HS
  go_wp2_with fail
  go_ret
  exact ⟨rfl, HA.out _ (below_new _ _)⟩
set_option maxHeartbeats 800000 in
theorem lenX_any {P : Nat → Prop} {g : Nat} {l : List Ev} (w : World) (h : CX w g l P) :
    Calls Tryz.prog 16 #[.pointer (some ⟨g, 0, none⟩)] w fun e w' => e = .returned (.int .i64 (l.length : Int)) ∧ w' = w := by
  have key : ∃ A c, w.cell? ⟨g, 0, none⟩ = some (.slice A l.length c) ∧ c ≤ 9223372036854775807 := by
    rcases h.is with ⟨vr, vp, ys, hf, -⟩ | ⟨vr, mb, qs, hf, -⟩
    all_goals
      obtain ⟨A, c, he, h5, hm, -⟩ := hf.row.shape
      rw [List.length_map, allL_len] at he
      have h0 := cell_at hf.hd 0
      rw [he] at h0
      exact ⟨A, c, h0, by unfold maxLen at hm; omega⟩
  obtain ⟨A, c, c0, hc⟩ := key
  clear h
  go_enter Tryz.func16, Tryz.ntmps16
  go_wp2_with fail
  go_ret
  exact ⟨rfl, rfl⟩
noncomputable def apartB (l : List Ev) (a b : ByteArray) : Bool := hasE l a && hasE l b && !decide (a = b) && !aheadB l a b && !aheadB l b a
set_option maxHeartbeats 1600000 in
theorem apart_any {P : Nat → Prop} {g : Nat} {l : List Ev} (w : World) (h : CX w g l P) (a b : ByteArray) (ha : a.size ≤ maxLen) (hb : b.size ≤ maxLen) :
    Calls Tryz.prog 14 #[.pointer (some ⟨g, 0, none⟩), .string a, .string b] w fun e w' => e = .returned (.bool (apartB l a b)) ∧ AskX w w' g l P := by
  have HC1 := Lib.hid (fun (k : ByteArray) (hk : k.size ≤ maxLen) W Q (h : CX W g l Q) => hasX_any W h k hk)
  have HC2 := Lib.hid (fun (k m : ByteArray) (hk : k.size ≤ maxLen) (hm : m.size ≤ maxLen) W Q (h : CX W g l Q) => ahead_any W h k m hk hm)
  have H0 := Lib.hid h
  clear h
  have HRR : Hid (apartB l a b = (hasE l a && hasE l b && !decide (a = b) && !aheadB l a b && !aheadB l b a)) := Lib.hid rfl
  have q1 : (a.toList == b.toList) = decide (a = b) := keyB a b
  generalize apartB l a b = R at HRR ⊢
  have H1 := Lib.hid (HC1.out a ha)
  have H2 := Lib.hid (HC1.out b hb)
  have H3 := Lib.hid (HC2.out a b ha hb)
  have H4 := Lib.hid (HC2.out b a hb ha)
  clear HC1 HC2
  generalize hasE l a = xa at H1 HRR
  generalize hasE l b = xb at H2 HRR
  generalize decide (a = b) = xe at q1 HRR
  generalize aheadB l a b = x1 at H3 HRR
  generalize aheadB l b a = x2 at H4 HRR
  go_enter Tryz.func14, Tryz.ntmps14
  go_wp2_with fail
  go_at_call 34
  refine (H1.out w P H0.out).mono ?_
  rintro e w1 ⟨rfl, hk1⟩
  have HK1 := Lib.hid hk1
  obtain ⟨P1, c1, t1, i1⟩ := hk1
  have HD1 := Lib.hid (H2.out w1 P1 c1)
  have HT1 : Hid (∀ w2, AskX w1 w2 g l P1 → AskX w w2 g l P) := Lib.hid (fun w2 h => AskX.trans t1 i1 h)
  clear c1 t1 i1 H1 H0
  cases xa with
  | false =>
    go_wp2_with fail
    go_ret
    exact ⟨by rw [HRR.out]; rfl, HK1.out⟩
  | true =>
  go_wp2_with fail
  go_at_call 34
  refine HD1.out.mono ?_
  rintro e w2 ⟨rfl, hk2'⟩
  have hk2 := HT1.out _ hk2'
  have HK2 := Lib.hid hk2
  obtain ⟨P2, c2, t2, i2⟩ := hk2
  have HE2 := Lib.hid (H3.out w2 P2 c2)
  have HT2 : Hid (∀ w3, AskX w2 w3 g l P2 → AskX w w3 g l P) := Lib.hid (fun w2 h => AskX.trans t2 i2 h)
  clear hk2' HD1 HT1 HK1 c2 t2 i2 H2
  cases xb with
  | false =>
    go_wp2_with fail
    go_ret
    exact ⟨by rw [HRR.out]; rfl, HK2.out⟩
  | true =>
  cases xe with
  | true =>
    go_wp2_with fail
    go_ret
    exact ⟨by rw [HRR.out]; rfl, HK2.out⟩
  | false =>
  go_wp2_with fail
  go_at_call 12
  refine HE2.out.mono ?_
  rintro e w3 ⟨rfl, hk3'⟩
  have hk3 := HT2.out _ hk3'
  have HK3 := Lib.hid hk3
  obtain ⟨P3, c3, t3, i3⟩ := hk3
  have HE3 := Lib.hid (H4.out w3 P3 c3)
  have HT3 : Hid (∀ w4, AskX w3 w4 g l P3 → AskX w w4 g l P) := Lib.hid (fun w2 h => AskX.trans t3 i3 h)
  clear hk3' HE2 HT2 HK2 c3 t3 i3 H3 H4
  cases x1 with
  | true =>
    go_wp2_with fail
    go_ret
    exact ⟨by rw [HRR.out]; rfl, HK3.out⟩
  | false =>
  go_wp2_with fail
  go_at_call 12
  refine HE3.out.mono ?_
  rintro e w4 ⟨rfl, hk4'⟩
  have HK4 := Lib.hid (HT3.out _ hk4')
  clear hk4' HE3 HT3 HK3
  cases x2 with
  | true =>
    go_wp2_with fail
    go_ret
    exact ⟨by rw [HRR.out]; rfl, HK4.out⟩
  | false =>
    go_wp2_with fail
    go_ret
    exact ⟨by rw [HRR.out]; rfl, HK4.out⟩
end Go.Proofs.YtfbfdkibdjinaaaGreatDoor
