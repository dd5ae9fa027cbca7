/-
  What the statements stand on, part ZA24.
-/
import Derived.Test.YtnnapkakbdpkaaaGreatZA23
set_option linter.unusedVariables false
set_option linter.unusedSimpArgs false
namespace Go.Proofs.YtnnapkakbdpkaaaGreat
set_option maxRecDepth 20000
open Go.RowKit
def Pk.box (q : Pk) (vd : Value) : Obj := .cells #[.int .i64 (q.most : Int), vd, .int .i64 (q.lost : Int)] 33 (0, 0)
structure Bo (w wr : World) (b : Nat) (v : Value) (p : Pk) (g : Nat) (vd : Value) (q : Pk) (ts : List Th) : Prop where
 kp : Kp w wr b v p (Th.box g (q.box vd) :: Th.row LE vd q.l :: ts)
 off : ∀ k, 0 < q.l.length → vd.ownBlock = some k → k ≠ g
 lo : w.heap.size ≤ g
 ot : ∀ t ∈ ts, ¬ t.P g
structure Bn (w wr : World) (b : Nat) (v : Value) (p : Pk) (g : Nat) (vd : Value) (q : Pk) (vn : Value) (qn : Pk) (ts : List Th) : Prop where
 kp : Kp w wr b v p (Th.box g (q.box vd) :: Th.row LE vn qn.l :: ts)
 off : ∀ k, 0 < qn.l.length → vn.ownBlock = some k → k ≠ g
 lo : w.heap.size ≤ g
 ot : ∀ t ∈ ts, ¬ t.P g
section
variable {w wr w' : World} {b g : Nat} {v v' vd vn : Value} {p p' q qn : Pk} {ts ts' : List Th} {t : Th}
theorem Bo.at (h : Bo w wr b v p g vd q ts) : wr.heap[g]? = some (q.box vd) := h.kp.is List.mem_cons_self
theorem Bo.row (h : Bo w wr b v p g vd q ts) : LE.Slice wr vd q.l := h.kp.is (t := Th.row LE vd q.l) (List.mem_cons_of_mem _ List.mem_cons_self)
theorem Bn.at (h : Bn w wr b v p g vd q vn qn ts) : wr.heap[g]? = some (q.box vd) := h.kp.is List.mem_cons_self
theorem Bn.row (h : Bn w wr b v p g vd q vn qn ts) : LE.Slice wr vn qn.l := h.kp.is (t := Th.row LE vn qn.l) (List.mem_cons_of_mem _ List.mem_cons_self)
theorem Bo.later (h : Bo w wr b v p g vd q ts) (hb : Below wr.heap.size wr w') : Bo w w' b v p g vd q ts := ⟨h.kp.later hb, h.off, h.lo, h.ot⟩
theorem Bn.later (h : Bn w wr b v p g vd q vn qn ts) (hb : Below wr.heap.size wr w') : Bn w w' b v p g vd q vn qn ts := ⟨h.kp.later hb, h.off, h.lo, h.ot⟩
theorem Bo.add (h : Bo w wr b v p g vd q ts) (hb : Below wr.heap.size wr w') (hI : t.I w') (hP : ∀ k, t.P k → wr.heap.size ≤ k) : Bo w w' b v p g vd q (t :: ts) := by
 refine ⟨(h.kp.add hb hI (fun k hk => .inl (hP k hk))).less (fun u hu => ?_), h.off, h.lo, fun u hu hg => ?_⟩
 ·rcases List.mem_cons.1 hu with rfl | hu
  ·exact List.mem_cons_of_mem _ List.mem_cons_self
  ·rcases List.mem_cons.1 hu with rfl | hu
   ·exact List.mem_cons_of_mem _ (List.mem_cons_of_mem _ List.mem_cons_self)
   ·rcases List.mem_cons.1 hu with rfl | hu
    ·exact List.mem_cons_self
    ·exact List.mem_cons_of_mem _ (List.mem_cons_of_mem _ (List.mem_cons_of_mem _ hu))
 ·rcases List.mem_cons.1 hu with rfl | hu
  ·have := hP g hg
   have := smem_lt h.at
   omega
  ·exact h.ot u hu hg
theorem Bn.add (h : Bn w wr b v p g vd q vn qn ts) (hb : Below wr.heap.size wr w') (hI : t.I w') (hP : ∀ k, t.P k → wr.heap.size ≤ k) : Bn w w' b v p g vd q vn qn (t :: ts) := by
 refine ⟨(h.kp.add hb hI (fun k hk => .inl (hP k hk))).less (fun u hu => ?_), h.off, h.lo, fun u hu hg => ?_⟩
 ·rcases List.mem_cons.1 hu with rfl | hu
  ·exact List.mem_cons_of_mem _ List.mem_cons_self
  ·rcases List.mem_cons.1 hu with rfl | hu
   ·exact List.mem_cons_of_mem _ (List.mem_cons_of_mem _ List.mem_cons_self)
   ·rcases List.mem_cons.1 hu with rfl | hu
    ·exact List.mem_cons_self
    ·exact List.mem_cons_of_mem _ (List.mem_cons_of_mem _ (List.mem_cons_of_mem _ hu))
 ·rcases List.mem_cons.1 hu with rfl | hu
  ·have := hP g hg
   have := smem_lt h.at
   omega
  ·exact h.ot u hu hg
theorem Bo.less (h : Bo w wr b v p g vd q ts) (hs : ∀ t ∈ ts', t ∈ ts) : Bo w wr b v p g vd q ts' :=
 ⟨h.kp.less (fun u hu => by
  rcases List.mem_cons.1 hu with rfl | hu
  ·exact List.mem_cons_self
  ·rcases List.mem_cons.1 hu with rfl | hu
   ·exact List.mem_cons_of_mem _ List.mem_cons_self
   ·exact List.mem_cons_of_mem _ (List.mem_cons_of_mem _ (hs u hu))), h.off, h.lo, fun t ht => h.ot t (hs t ht)⟩
theorem grown_setRow (w : World) (g : Nat) (cs : Array Value) : w.grownBy (w.setRow g cs) (some g) := by
 have hb : Below g w (w.setRow g cs) := below_setRow (Below.refl _ _) (Nat.le_refl _) cs
 exact ⟨hb.os, hb.tape, hb.output, hb.size, fun k hk hne => setRow_other w g k cs (fun e => hne (by rw [e]))⟩
theorem Bn.store (h : Bn w wr b v p g vd q vn qn ts) : Bo w (wr.setRow g #[.int .i64 (qn.most : Int), vn, .int .i64 (qn.lost : Int)]) b v p g vn qn ts := by
 have hr := setRow_heap wr g _ #[.int .i64 (qn.most : Int), vn, .int .i64 (qn.lost : Int)] _ _ h.at
 refine ⟨h.kp.rebox hr (grown_setRow wr g _) h.lo (fun t ht hg => ?_), h.off, h.lo, h.ot⟩
 rcases List.mem_cons.1 ht with rfl | ht
 ·exact h.off g hg.1 hg.2 rfl
 ·exact h.ot t ht hg
theorem Bo.code (h : Bo w wr b v p g vd q ts) (hk : Kp w w' b v' p' (Th.box g (q.box vd) :: Th.row LE vd q.l :: ts)) : Bo w w' b v' p' g vd q ts := ⟨hk, h.off, h.lo, h.ot⟩
end
theorem Bo.start {w wr : World} {b m : Nat} (hk : Kp w wr b (.slice none 0 0) ⟨m, [], 0⟩ []) : Bo w (wr.alloc (.cells #[.int .i64 (m : Int), .slice none 0 0, .int .i64 0] 33)) b (.slice none 0 0) ⟨m, [], 0⟩ wr.heap.size (.slice none 0 0) ⟨m, [], 0⟩ [] := by
 have hb := below_new wr (.cells #[.int .i64 (m : Int), .slice none 0 0, .int .i64 0] 33)
 refine ⟨(hk.add hb (t := Th.box wr.heap.size (Pk.box ⟨m, [], 0⟩ (.slice none 0 0))) (heap_alloc_new wr _) (fun k hk => .inl (Nat.le_of_eq hk.symm))).with (t := Th.row LE (.slice none 0 0) []) (Lies.Slice.nil _) (fun k hk => (by cases hk.2)) |>.swap, fun k h => (by cases h), hk.below.size, fun t ht => by cases ht⟩
def Th.room (v : Value) (n : Nat) : Th where
 P := fun k => 0 < n ∧ v.ownBlock = some k
 I := fun W => n = 0 ∨ ∃ g off c cur, v = .slice (some ⟨g, off, none⟩) n c ∧ W.heap[g]? = some (.cells cur 43 (0, 0)) ∧ off + n * 11 ≤ cur.size
 lt := fun W k h hk => by
  rcases h with h | ⟨g, off, c, cur, rfl, hh, _⟩
  ·omega
  ·have := hk.2
   simp only [Value.ownBlock, Option.some.injEq] at this
   rw [← this]
   exact smem_lt hh
 st := fun W W' h hs hb => by
  rcases h with h | ⟨g, off, c, cur, rfl, hh, hz⟩
  ·exact .inl h
  ·by_cases hn : n = 0
   ·exact .inl hn
   ·exact .inr ⟨g, off, c, cur, rfl, (hb g (smem_lt hh) ⟨by omega, rfl⟩).trans hh, hz⟩
theorem Lies.Mine.room {W : World} {B : Nat} {v : Value} {us : List Edu} (h : LE.Mine W B v us) : (Th.room v us.length).I W := by
 rcases h with ⟨_, rfl⟩ | ⟨g, off, cap, cur, rfl, _, hh, h1, _, h3, _⟩
 ·exact .inl rfl
 ·refine .inr ⟨g, off, cap, cur, rfl, hh, ?_⟩
  have : us.length * 11 ≤ cap * 11 := Nat.mul_le_mul_right _ h1
  have hc : cap * LE.c = cap * 11 := rfl
  omega
structure FitP (p : Pk) (m a : Nat) : Prop where
 most : p.most = m
 len : p.l.length ≤ m
 lost : p.lost ≤ a
theorem FitP.start (m : Nat) : FitP ⟨m, [], 0⟩ m 0 := ⟨rfl, Nat.zero_le _, Nat.le_refl _⟩
theorem FitP.put {p : Pk} {m a : Nat} (h : FitP p m a) (e : Edu) : FitP (p.put e) m (a + 1) := by
 refine ⟨by rw [p.put_most]; exact h.most, ?_, ?_⟩
 ·have := p.put_len e (by rw [h.most]; exact h.len)
  rw [h.most] at this
  exact this
 ·have := p.put_lost e
  have := h.lost
  cases hg : p.goes e <;> simp only [hg, cond_true, cond_false] at * <;> omega
theorem FitP.take {p : Pk} {m a : Nat} (h : FitP p m a) (room event : ByteArray) : FitP (p.take room event) m (a + 1) :=
 ⟨h.most, Nat.le_trans (p.take_len room event) h.len, Nat.le_succ_of_le h.lost⟩
end Go.Proofs.YtnnapkakbdpkaaaGreat

namespace Go.Proofs.YtnnapkakbdpkaaaGreat
set_option maxRecDepth 20000
open Go.RowKit Go.Maps Go.ChangeMaps
section
variable {C : Dags} {w wr w' : World} {vs : List VI} {ts : List Th} {v : VI} {i : Nat}
theorem zeroDag (w : World) : (zeroValue 115).run Tryz.prog w = .ok (.pointer none) w := by kernel_rfl
theorem CVs.look (h : CVs C w v) (k : ByteArray) (hk : k.size ≤ maxLen) :
  ((¬ ∃ d ∈ v.ds, d.room = k) ∧ (Instr.lookup 103 (.map (some v.mb)) (.string k) true).run Tryz.prog w = .ok (.tuple #[.pointer none, .bool false]) w)
  ∨ ∃ d ∈ v.ds, d.room = k ∧ (Instr.lookup 103 (.map (some v.mb)) (.string k) true).run Tryz.prog w = .ok (.tuple #[.pointer (some ⟨d.g, 0, none⟩), .bool true]) w := by
 obtain ⟨x, ps, hr, hv⟩ := World.ownsMap.look_ok h.map keyed Tryz.underlying103 (zeroDag w) (zd := .held (.pointer none)) (zp := []) rfl (keyIs hk)
 by_cases hh : ∃ d ∈ v.ds, d.room = k
 ·obtain ⟨d, hd, he⟩ := id hh
  have h1 := (h.is.has_iff k).2 hh
  refine .inr ⟨d, hd, he, ?_⟩
  rw [← he, h.is.at_ h.up hd] at hv
  injection hv with hv
  injection hv with hv _
  injection hv with hv
  rw [hr, h1, hv]
  rfl
 ·have h1 : Maps.has v.D (kl k) = false := by
   rw [Bool.eq_false_iff]
   exact fun e => hh ((h.is.has_iff k).1 e)
  refine .inl ⟨hh, ?_⟩
  have hz := Maps.atKey_of_not_has (D := v.D) (k := kl k) h1 (.held (.pointer none))
  rw [hz] at hv
  injection hv with hv
  injection hv with hv _
  injection hv with hv
  rw [hr, h1, hv]
theorem CVs.store (h : CVs C w v) {k : ByteArray} (hk : k.size ≤ maxLen) (g : Nat) : ∃ w', (Instr.mapUpdate 103 (.map (some v.mb)) (.string k) (.pointer (some ⟨g, 0, none⟩))).run Tryz.prog w = .ok () w' ∧ OwnN w' v.mb (v.ds.length + 1) (v.D.put (kl k) (.held (.pointer (some ⟨g, 0, none⟩)))) ∧ w.grownBy w' (some v.mb) := by
 obtain ⟨w', hr, ho, hg⟩ := World.ownsMap.update h.map keyed Tryz.underlying103 (by have := h.len; unfold maxLen; omega) (key := .string k) (val := .pointer (some ⟨g, 0, none⟩)) (d := .held (.pointer (some ⟨g, 0, none⟩))) (ps := []) (keyIs hk) rfl
 exact ⟨w', hr, ho, hg⟩
set_option maxHeartbeats 800000 in
theorem viewNew_any (h : Kv C w wr vs ts) : Calls Tryz.prog 10 #[] wr fun e w' => ∃ v, e = .returned (.pointer (some ⟨v.g, 0, none⟩)) ∧ v.V = [] ∧ Kv C w w' (vs ++ [v]) ts := by
 have HK := Lib.hid h
 have hmm := @run_makeMap Tryz.prog
 clear h
 go_enter Tryz.func10, Tryz.ntmps10
 go_wp2_with fail
 go_ret
 have h0 := World.ownsMap_made (H := Value) wr Tryz.prog 9 heldR
 have hb : Below wr.heap.size wr ((wr.alloc (.map #[] 0)).alloc (.cells #[.map (some wr.heap.size)] 105)) := ((Below.refl _ wr).alloc (Nat.le_refl _) _).alloc (by simp) _
 have h1 : CVs C ((wr.alloc (.map #[] 0)).alloc (.cells #[.map (some wr.heap.size)] 105)) ⟨wr.heap.size + 1, wr.heap.size, [], .map []⟩ := by
  refine ⟨?_, h0.alloc _, VdM.nil, fun n hn => (by cases hn), fun d hd => (by cases hd), VOk.nil.mono (Nat.zero_le _)⟩
  have := heap_alloc_new (wr.alloc (.map #[] 0)) (.cells #[.map (some wr.heap.size)] 105)
  rw [show (wr.alloc (.map #[] 0)).heap.size = wr.heap.size + 1 by simp] at this
  exact this
 refine ⟨⟨wr.heap.size + 1, wr.heap.size, [], .map []⟩, rfl, rfl, HK.out.made hb h1 (fun k hk => ?_)⟩
 rcases hk with e | e | ⟨d, hd, _⟩
 ·simp only at e; omega
 ·simp only at e; omega
 ·cases hd
def DagOf (C : Dags) (wr w' : World) (v : VI) (gd : Nat) (room : ByteArray) : Prop := (∃ d ∈ v.ds, d.g = gd ∧ d.room = room ∧ w' = wr) ∨ ((¬ ∃ d ∈ v.ds, d.room = room) ∧ C.CD w' gd room [] ∧ Below wr.heap.size wr w' ∧ ∀ k, C.own w' gd k → wr.heap.size ≤ k)
theorem DagOf.kd {gd : Nat} {room : ByteArray} (h : Kv C w wr vs ts) (hi : vs[i]? = some v) (hd : DagOf C wr w' v gd room) : Kd C w w' vs ts gd room (ofL v.V room) := by
 rcases hd with ⟨d, hd, rfl, rfl, rfl⟩ | ⟨hn, hc, hb, ho⟩
 ·exact ⟨h, .inl ⟨i, v, d, hi, hd, rfl, rfl, ((h.cv hi).of_ hd).symm⟩⟩
 ·rw [(h.cv hi).noRoom hn]
  refine ⟨h.later hb, .inr ⟨hc, fun k hk => ⟨Nat.le_trans h.below.size (ho k hk), fun j u hu hh => ?_, fun t ht hp => ?_⟩⟩⟩
  ·have := (h.cv hu).old (((h.cv hu).keep hb.size (fun k hk => hb.block k ((h.cv hu).old hk))).2 k hh)
   have := ho k hk
   omega
  ·have := t.lt wr k (h.is ht) hp
   have := ho k hk
   omega
set_option maxHeartbeats 800000 in
theorem dagOf_any (h : Kv C w wr vs ts) (hi : vs[i]? = some v) (room : ByteArray) (hr : room.size ≤ 40) : Calls Tryz.prog 47 #[.pointer (some ⟨v.g, 0, none⟩), .string room] wr fun e w' => ∃ gd, e = .returned (.pointer (some ⟨gd, 0, none⟩)) ∧ DagOf C wr w' v gd room := by
 have hcv := h.cv hi
 have c1 : wr.cell? ⟨v.g, 0, none⟩ = some (.map (some v.mb)) := cell_at hcv.hd 0
 rcases hcv.look room (Nat.le_trans hr (by decide)) with ⟨hno, hlk⟩ | ⟨d, hd, he, hlk⟩
 ·have HNO := Lib.hid hno
  have HNW := Lib.hid (C.new40 wr room hr)
  clear hno h hi hcv hr
  go_enter Tryz.func47, Tryz.ntmps47
  go_wp2_with fail
  go_at_call 75
  refine HNW.out.mono ?_
  rintro e w1 ⟨gd, rfl, hc, hb, hf⟩
  have HF := Lib.hid hf
  have HB := Lib.hid hb
  have HC := Lib.hid hc
  clear hf hb hc c1 hlk
  go_wp2_with fail
  go_ret
  exact ⟨gd, rfl, .inr ⟨HNO.out, HC.out, HB.out, HF.out⟩⟩
 ·have HD := Lib.hid hd
  have HE := Lib.hid he
  clear hd he h hi hcv hr
  go_enter Tryz.func47, Tryz.ntmps47
  go_wp2_with fail
  go_ret
  exact ⟨d.g, rfl, .inl ⟨d, HD.out, rfl, HE.out, rfl⟩⟩
end
end Go.Proofs.YtnnapkakbdpkaaaGreat

namespace Go.Proofs.YtnnapkakbdpkaaaGreat
set_option maxRecDepth 20000
open Go.RowKit Go.Maps Go.ChangeMaps
section
variable {C : Dags} {w wr w' : World} {vs : List VI} {ts : List Th} {v : VI} {i : Nat}
theorem CVs.gm (h : CVs C w v) : v.g ≠ v.mb := fun e => by
 obtain ⟨xs, clock, hb, _⟩ := h.map
 rw [← e, h.hd] at hb
 cases hb
theorem CVs.next {w1 w3 w4 : World} {gd : Nat} {room : ByteArray} {l' : List Ev} (h : CVs C w1 v)
  (hgd : (∃ d ∈ v.ds, d.g = gd ∧ d.room = room) ∨ ((¬ ∃ d ∈ v.ds, d.room = room) ∧ ∀ k, C.own w1 gd k → ¬ v.own C w1 k))
  (hc : C.CD w3 gd room l') (ht : TurnD C.own w1 w3 gd) (ho : OwnN w4 v.mb (v.ds.length + 1) (v.D.put (kl room) (.held (.pointer (some ⟨gd, 0, none⟩)))))
  (hg : w3.grownBy w4 (some v.mb)) (hok : VOk 100 (putK Prod.fst (room, l') v.V)) :
  CVs C w4 ⟨v.g, v.mb, putK DgI.room ⟨room, gd, l'⟩ v.ds, v.D.put (kl room) (.held (.pointer (some ⟨gd, 0, none⟩)))⟩ ∧ (∀ k, VI.own C ⟨v.g, v.mb, putK DgI.room ⟨room, gd, l'⟩ v.ds, v.D.put (kl room) (.held (.pointer (some ⟨gd, 0, none⟩)))⟩ w4 k → v.own C w1 k ∨ C.own w1 gd k ∨ w1.heap.size ≤ k) ∧ ∀ k, k < w1.heap.size → ¬ v.own C w1 k → ¬ C.own w1 gd k → w4.heap[k]? = w1.heap[k]? := by
 have hgl := smem_lt h.hd
 have hml := h.map.lt
 have hgm := h.gm
 have hnot : ∀ k, C.own w1 gd k → k ≠ v.g ∧ k ≠ v.mb := fun k hk => by
  rcases hgd with ⟨d, hd, rfl, -⟩ | ⟨-, hn⟩
  ·exact (h.dag d hd).2 k hk
  ·exact ⟨fun e => hn k hk (.inl e), fun e => hn k hk (.inr (.inl e))⟩
 have hoff : ∀ d ∈ v.ds, d.room ≠ room → ∀ k, C.own w1 d.g k → ¬ C.own w1 gd k := fun d hd hr k h1 h2 => by
  rcases hgd with ⟨d0, hd0, rfl, rfl⟩ | ⟨-, hn⟩
  ·exact h.apart d hd d0 hd0 hr k h1 h2
  ·exact hn k h2 (.inr (.inr ⟨d, hd, h1⟩))
 have h3 : ∀ d ∈ v.ds, d.room ≠ room → C.CD w3 d.g d.room d.l ∧ ∀ k, C.own w3 d.g k → C.own w1 d.g k := fun d hd hr => C.keep (h.dag d hd).1 ht.size (fun k hk => ht.block k (C.old (h.dag d hd).1 hk) (hoff d hd hr k hk))
 have own3 : ∀ k, C.own w3 gd k → k ≠ v.g ∧ k ≠ v.mb := fun k hk => by
  rcases ht.owns k hk with hh | hh
  ·exact hnot k hh
  ·exact ⟨by omega, by omega⟩
 have h4 : ∀ d ∈ v.ds, d.room ≠ room → C.CD w4 d.g d.room d.l ∧ ∀ k, C.own w4 d.g k → C.own w1 d.g k := fun d hd hr => by
  obtain ⟨a, b⟩ := h3 d hd hr
  obtain ⟨a', b'⟩ := C.keep a hg.size (fun k hk => hg.block k (C.old a hk) (fun e => ((h.dag d hd).2 k (b k hk)).2 (by injection e)))
  exact ⟨a', fun k hk => b k (b' k hk)⟩
 obtain ⟨hn, on⟩ := C.keep hc hg.size (fun k hk => hg.block k (C.old hc hk) (fun e => (own3 k hk).2 (by injection e)))
 have hmem : ∀ d, d ∈ putK DgI.room ⟨room, gd, l'⟩ v.ds → d = ⟨room, gd, l'⟩ ∨ (d ∈ v.ds ∧ d.room ≠ room) := fun d hd => (putK_mem h.up).1 hd
 have hV : (putK DgI.room ⟨room, gd, l'⟩ v.ds).map DgI.rl = putK Prod.fst (room, l') v.V := putK_map (key := DgI.room) Prod.fst DgI.rl (fun _ => rfl) _ _
 have his : VdM (v.D.put (kl room) (.held (.pointer (some ⟨gd, 0, none⟩)))) (putK DgI.room ⟨room, gd, l'⟩ v.ds) := h.is.put h.up ⟨room, gd, l'⟩
 have hmap := ho.tight
 rw [his.size] at hmap
 refine ⟨⟨(hg.block v.g (Nat.lt_of_lt_of_le hgl ht.size) (fun e => hgm (by injection e))).trans ((ht.block v.g hgl (fun o => (hnot _ o).1 rfl)).trans h.hd), hmap, his, fun d hd => ?_, fun d hd d' hd' hr k k1 k2 => ?_, by unfold VI.V; rw [hV]; exact hok⟩, fun k hk => ?_, fun k hk hno hno2 => ?_⟩
 ·rcases hmem d hd with rfl | ⟨hd, hr⟩
  ·exact ⟨hn, fun k hk => own3 k (on k hk)⟩
  ·exact ⟨(h4 d hd hr).1, fun k hk => (h.dag d hd).2 k ((h4 d hd hr).2 k hk)⟩
 ·rcases hmem d hd with rfl | ⟨hd, hr1⟩
  ·rcases hmem d' hd' with rfl | ⟨hd', hr2⟩
   ·exact hr rfl
   ·have e2 := (h4 d' hd' hr2).2 k k2
    rcases ht.owns k (on k k1) with hh | hh
    ·exact hoff d' hd' hr2 k e2 hh
    ·have := C.old (h.dag d' hd').1 e2; omega
  ·have e1 := (h4 d hd hr1).2 k k1
   rcases hmem d' hd' with rfl | ⟨hd', hr2⟩
   ·rcases ht.owns k (on k k2) with hh | hh
    ·exact hoff d hd hr1 k e1 hh
    ·have := C.old (h.dag d hd).1 e1; omega
   ·exact h.apart d hd d' hd' hr k e1 ((h4 d' hd' hr2).2 k k2)
 ·rcases hk with e | e | ⟨d, hd, hk⟩
  ·exact .inl (.inl e)
  ·exact .inl (.inr (.inl e))
  ·rcases hmem d hd with rfl | ⟨hd, hr⟩
   ·rcases ht.owns k (on k hk) with hh | hh
    ·exact .inr (.inl hh)
    ·exact .inr (.inr hh)
   ·exact .inl (.inr (.inr ⟨d, hd, (h4 d hd hr).2 k hk⟩))
 ·exact (hg.block k (Nat.lt_of_lt_of_le hk ht.size) (fun e => hno (.inr (.inl (by injection e))))).trans (ht.block k hk hno2)
theorem errV_le {n : Nat} {V : Vw} {e : Ev} (h : VOk n V) (he : errV V e = 0) : VOk (n + 1) (putK Prod.fst (e.room, addA e.room (ofL V e.room) e) V) := by
 have := addV_ok (e := e) h
 unfold addV at this
 rw [if_pos he] at this
 exact this
theorem Kv.added {w1 w3 w4 : World} {gd : Nat} {e : Ev} (h : Kv C w wr vs ts) (hi : vs[i]? = some v) (hd : DagOf C wr w1 v gd e.room) (hn : VOk 99 v.V) (he : errV v.V e = 0)
  (hc : C.CD w3 gd e.room (addA e.room (ofL v.V e.room) e)) (ht : TurnD C.own w1 w3 gd) (ho : OwnN w4 v.mb (v.ds.length + 1) (v.D.put (kl e.room) (.held (.pointer (some ⟨gd, 0, none⟩)))))
  (hg : w3.grownBy w4 (some v.mb)) : ∃ v', v'.g = v.g ∧ v'.V = addV v.V e ∧ Kv C w w4 (vs.set i v') ts := by
 have hcv := h.cv hi
 have hb1 : Below wr.heap.size wr w1 ∧ (∀ k, C.own w1 gd k → v.own C wr k ∨ wr.heap.size ≤ k) := by
  rcases hd with ⟨d, hd, rfl, -, rfl⟩ | ⟨-, -, hb, ho⟩
  ·exact ⟨Below.refl _ _, fun k hk => .inl (.inr (.inr ⟨d, hd, hk⟩))⟩
  ·exact ⟨hb, fun k hk => .inr (ho k hk)⟩
 obtain ⟨hb1, hgo⟩ := hb1
 obtain ⟨hcv1, hown1⟩ := hcv.keep hb1.size (fun k hk => hb1.block k (hcv.old hk))
 have hgd : (∃ d ∈ v.ds, d.g = gd ∧ d.room = e.room) ∨ ((¬ ∃ d ∈ v.ds, d.room = e.room) ∧ ∀ k, C.own w1 gd k → ¬ v.own C w1 k) := by
  rcases hd with ⟨d, hd, h1, h2, -⟩ | ⟨hno, -, hb, ho⟩
  ·exact .inl ⟨d, hd, h1, h2⟩
  ·refine .inr ⟨hno, fun k hk hh => ?_⟩
   have := hcv.old (hown1 k hh)
   have := ho k hk
   omega
 obtain ⟨h1, h2, h3⟩ := hcv1.next hgd hc ht ho hg (errV_le hn he)
 refine ⟨⟨v.g, v.mb, putK DgI.room ⟨e.room, gd, addA e.room (ofL v.V e.room) e⟩ v.ds, v.D.put (kl e.room) (.held (.pointer (some ⟨gd, 0, none⟩)))⟩, rfl, ?_, h.turn hi h1 ⟨hg.os.trans (ht.os.trans hb1.os), hg.tape.trans (ht.tape.trans hb1.tape), hg.output.trans (ht.output.trans hb1.output), Nat.le_trans hb1.size (Nat.le_trans ht.size hg.size), fun k hk hno => ?_⟩ (fun k hk => ?_)⟩
 ·unfold addV
  rw [if_pos he]
  unfold VI.V
  exact putK_map (key := DgI.room) Prod.fst DgI.rl (fun _ => rfl) _ _
 ·refine (h3 k (Nat.lt_of_lt_of_le hk hb1.size) (fun hh => hno (hown1 k hh)) (fun hh => ?_)).trans (hb1.block k hk)
  rcases hgo k hh with hh | hh
  ·exact hno hh
  ·omega
 ·rcases h2 k hk with hh | hh | hh
  ·exact .inl (hown1 k hh)
  ·exact hgo k hh
  ·exact .inr (Nat.le_trans hb1.size hh)
set_option maxHeartbeats 1600000 in
theorem viewAdd_any (CR : DagRms C) (h : Kv C w wr vs ts) (hi : vs[i]? = some v) (hn : VOk 99 v.V) (x : EvV) (hx : Th.ev x ∈ ts) (hr : x.ev.room.size ≤ 40) : Calls Tryz.prog 16 #[.pointer (some ⟨v.g, 0, none⟩), x.val] wr fun e w' => ∃ v', e = .returned (.int .i64 (errV v.V x.ev)) ∧ v'.g = v.g ∧ v'.V = addV v.V x.ev ∧ Kv C w w' (vs.set i v') ts := by
 have HK0 := Lib.hid h
 have HK := Lib.hid (show Kv C w (wr.alloc (.cells #[.string x.ev.id, .string x.ev.room, .slice x.A x.ev.parents.length x.cap, .string x.ev.thread, .string x.ev.user, .int .i64 x.ev.does] 52)) vs (Th.box wr.heap.size (.cells #[.string x.ev.id, .string x.ev.room, .slice x.A x.ev.parents.length x.cap, .string x.ev.thread, .string x.ev.user, .int .i64 x.ev.does] 52 (0, 0)) :: ts) from h.add (below_new wr _) (heap_alloc_new wr _) (fun k hk => .inl (Nat.le_of_eq hk.symm)))
 have HX := Lib.hid hx
 have HR := Lib.hid hr
 have HN := Lib.hid hn
 have HI := Lib.hid hi
 clear h hx hr hn
 unfold EvV.val EvV.pv
 go_enter Tryz.func16, Tryz.ntmps16
 go_upto_region 1 with (fail)
 generalize wr.alloc _ = w0 at HK ⊢
 generalize hB : wr.heap.size = B at HK ⊢
 have HB0 := Lib.hid (HK.out.is List.mem_cons_self)
 have c1 : w0.cell? ⟨B, 1, none⟩ = some (.string x.ev.room) := cell_at HB0.out 1
 have HQ := Lib.hid (dagOf_any HK.out hi x.ev.room HR.out)
 go_wp2_with fail
 go_at_call 47
 refine HQ.out.mono ?_
 rintro e w1 ⟨gd, rfl, hd⟩
 have HD := Lib.hid hd
 have HKD := Lib.hid (hd.kd HK.out hi)
 clear hd HQ c1 HB0
 have HB1 := Lib.hid (HKD.out.kv.is List.mem_cons_self)
 have HXA := Lib.hid (HKD.out.kv.is (List.mem_cons_of_mem _ HX.out))
 have r0 : w1.cell? ⟨B, 0, none⟩ = some (.string x.ev.id) := cell_at HB1.out 0
 have r1 : w1.cell? ⟨B, 1, none⟩ = some (.string x.ev.room) := cell_at HB1.out 1
 have r2 : w1.cell? ⟨B, 2, none⟩ = some (.slice x.A x.ev.parents.length x.cap) := cell_at HB1.out 2
 have r3 : w1.cell? ⟨B, 3, none⟩ = some (.string x.ev.thread) := cell_at HB1.out 3
 have r4 : w1.cell? ⟨B, 4, none⟩ = some (.string x.ev.user) := cell_at HB1.out 4
 have r5 : w1.cell? ⟨B, 5, none⟩ = some (.int .i64 x.ev.does) := cell_at HB1.out 5
 have hl99 : Hid ((ofL v.V x.ev.room).length ≤ 99) := Lib.hid (HN.out.of_ _).2
 have HA := Lib.hid (C.add x HKD.out.code (Nat.le_trans hl99.out (by decide)) HXA.out)
 unfold EvV.val EvV.pv at HA
 go_wp2_with fail
 go_at_call 48
 refine HA.out.mono ?_
 rintro e w2 ⟨rfl, hc2, ht2⟩
 have HC2 := Lib.hid hc2
 have HT2 := Lib.hid ht2
 clear hc2 ht2 HA r0 r1 r2 r3 r4 r5 HB1 HXA
 have HER : Hid (errA x.ev.room (ofL v.V x.ev.room) x.ev = errV v.V x.ev) := Lib.hid rfl
 rw [HER.out]
 by_cases he : errV v.V x.ev = 0
 ·have q1 : (errV v.V x.ev == 0) = true := by rw [beq_iff_eq]; exact he
  have HE := Lib.hid he
  have hl100 : Hid ((addA x.ev.room (ofL v.V x.ev.room) x.ev).length ≤ 100) := Lib.hid (by have := addA_len x.ev.room (ofL v.V x.ev.room) x.ev; have := hl99.out; omega)
  clear he
  go_upto_region 4 with (fail)
  have HV : Hid (∀ W, C.CD W gd x.ev.room (addA x.ev.room (ofL v.V x.ev.room) x.ev) → TurnD C.own w1 W gd → W.cell? ⟨v.g, 0, none⟩ = some (.map (some v.mb)) ∧ OwnN W v.mb v.ds.length v.D) := Lib.hid (fun W hc ht => by
   have hcv := HKD.out.kv.cv HI.out
   have hno : ¬ C.own w1 gd v.g ∧ ¬ C.own w1 gd v.mb := by
    rcases HD.out with ⟨d, hd, rfl, -, rfl⟩ | ⟨-, -, hb, ho⟩
    ·exact ⟨fun e => ((hcv.dag d hd).2 _ e).1 rfl, fun e => ((hcv.dag d hd).2 _ e).2 rfl⟩
    ·have h0 := HK.out.cv HI.out
     exact ⟨fun e => by have := h0.old (.inl rfl); have := ho _ e; omega, fun e => by have := h0.old (.inr (.inl rfl)); have := ho _ e; omega⟩
   exact ⟨cell_at ((ht.block _ (smem_lt hcv.hd) hno.1).trans hcv.hd) 0, hcv.map.keep (ht.block _ hcv.map.lt hno.2)⟩)
  have HRM := Lib.hid (fun W (hc : C.CD W gd x.ev.room (addA x.ev.room (ofL v.V x.ev.room) x.ev)) => CR.room hc hl100.out)
  have HD2 : Hid (C.CD w2.drew gd x.ev.room (addA x.ev.room (ofL v.V x.ev.room) x.ev) ∧ TurnD C.own w1 w2.drew gd) := Lib.hid ⟨(Dags.later HC2.out (below_drew w2)).1, HT2.out.trans (Dags.later HC2.out (below_drew w2)).2⟩
  refine wp_region_held_drew (S := fun W => W.cell? ⟨v.g, 0, none⟩ = some (.map (some v.mb))) (by kernel_rfl) (HV.out _ HD2.out.1 HD2.out.2).1 (fun hHeld => ?_)
  generalize w2.drew = wd at hHeld HD2 ⊢
  refine wpAnyH_take (i := 0) (oi := ⟨some 16, _, _, _, _, _⟩) (v := ?vq0) rfl (by kernel_rfl) (by kernel_rfl) (by kernel_rfl) (fun _ _ _ h => h) (Or.inl ⟨by rfl, ?yq0⟩) hHeld ?rq0
  case yq0 =>
   intro wx hSx
   go_simp
   try with_reducible rfl
  try simp only [actS]
  refine wpAnyH_take (i := 1) (oi := ⟨some 17, _, _, _, _, _⟩) (v := ?vq1) rfl (by kernel_rfl) (by kernel_rfl) (by kernel_rfl) (fun _ _ _ h => h) (Or.inl ⟨by rfl, ?yq1⟩) hHeld ?rq1
  case yq1 =>
   intro wx hSx
   go_simp
   try with_reducible rfl
  try simp only [actS]
  refine wpAnyH_take (i := 2) (oi := ⟨some 18, _, _, _, _, _⟩) (v := ?vq2) rfl (by kernel_rfl) (by kernel_rfl) (by kernel_rfl) (fun _ _ _ h => h) (Or.inl ⟨by rfl, ?yq2⟩) hHeld ?rq2
  case yq2 =>
   intro wx hSx
   go_simp
   try with_reducible rfl
  try simp only [actS]
  refine wpAnyH_take (i := 3) (oi := ⟨some 19, _, _, _, _, _⟩) (v := ?vq3) rfl (by kernel_rfl) (by kernel_rfl) (by kernel_rfl) (fun _ _ _ h => h) (Or.inl ⟨by rfl, ?yq3⟩) hHeld ?rq3
  case yq3 =>
   intro wx hSx
   have z : wx.cell? ⟨v.g, 0, none⟩ = some (.map (some v.mb)) := hSx
   go_simp
   try with_reducible rfl
  try simp only [actS]
  refine wpAnyH_take (i := 4) (oi := ⟨some 20, _, _, _, _, _⟩) (v := ?vq4) rfl (by kernel_rfl) (by kernel_rfl) (by kernel_rfl) (fun _ _ _ h => h) (Or.inl ⟨by rfl, ?yq4⟩) hHeld ?rq4
  case yq4 =>
   intro wx hSx
   go_simp
   try with_reducible rfl
  try simp only [actS]
  refine wpAnyH_take (i := 6) (oi := ⟨some 22, _, _, _, _, _⟩) (v := ?vq6) rfl (by kernel_rfl) (by kernel_rfl) (by kernel_rfl) (fun _ _ _ h => h) (Or.inl ⟨by rfl, ?yq6⟩) hHeld ?rq6
  case yq6 =>
   intro wx hSx
   go_simp
   try with_reducible rfl
  try simp only [actS]
  refine wpAnyH_ready (rs := [5]) (by kernel_rfl) (by simp) ?_
  refine AllReadyH.cons (o := ⟨some 21, _, _, _, _, _⟩) rfl (fun K hK => ?_) AllReadyH.nil
  go_simp
  refine (HRM.out _ HD2.out.1).mono ?_
  rintro e wn ⟨rfl, hcn, htn⟩
  replace HD2 := Lib.hid (show C.CD wn gd x.ev.room (addA x.ev.room (ofL v.V x.ev.room) x.ev) ∧ TurnD C.own w1 wn gd from ⟨hcn, HD2.out.2.trans htn⟩)
  refine hK.out _ _ (HV.out _ HD2.out.1 HD2.out.2).1 (fun hHeld => ?_)
  clear hK K hcn htn
  try simp only [actS]
  refine wpAnyH_ready (rs := [7]) (by kernel_rfl) (by simp) ?_
  refine AllReadyH.cons (o := ⟨none, _, _, _, _, _⟩) rfl (fun K hK => ?_) AllReadyH.nil
  obtain ⟨w9, hru, ho9, hg9⟩ := World.ownsMap.update (HV.out _ HD2.out.1 HD2.out.2).2 keyed Tryz.underlying103 (by have := (HKD.out.kv.cv HI.out).len; unfold maxLen; omega) (key := .string x.ev.room) (val := .pointer (some ⟨gd, 0, none⟩)) (d := .held (.pointer (some ⟨gd, 0, none⟩))) (ps := []) (keyIs (Nat.le_trans HR.out (by decide))) rfl
  have HG9 := Lib.hid hg9
  have HO9 := Lib.hid ho9
  have hc9 : w9.cell? ⟨v.g, 0, none⟩ = some (.map (some v.mb)) := by
   have hcv := HK.out.cv HI.out
   have h1 := hHeld
   rw [World.cell?] at h1 ⊢
   rw [hg9.block v.g (by have h2 := hcv.old (.inl rfl); have h3 := HD2.out.2.size; have h4 : w0.heap.size ≤ w1.heap.size := by { rcases HD.out with ⟨d, -, -, -, rfl⟩ | ⟨-, -, hb, -⟩; exact Nat.le_refl _; exact hb.size }; omega) (fun e => hcv.gm (by injection e))]
   exact h1
  clear ho9 hg9
  go_simp
  refine hK.out _ _ hc9 (fun hHeld => ?_)
  clear hK K
  try simp only [actS]
  refine wpAnyH_done (by kernel_rfl) ?_ _
  go_wp2_with fail
  go_ret
  obtain ⟨v', g1, g2, g3⟩ := Kv.added HK.out HI.out HD.out HN.out HE.out HD2.out.1 HD2.out.2 HO9.out HG9.out
  exact ⟨v', by rw [HE.out]; rfl, g1, g2, g3.less (fun t ht => List.mem_cons_of_mem _ ht)⟩
 ·have q1 : (errV v.V x.ev == 0) = false := by rw [beq_eq_false_iff_ne]; exact he
  have HE := Lib.hid he
  have hadd : Hid (addA x.ev.room (ofL v.V x.ev.room) x.ev = ofL v.V x.ev.room) := Lib.hid (by unfold addA; rw [HER.out, if_neg he])
  have hadv : Hid (addV v.V x.ev = v.V) := Lib.hid (by unfold addV; rw [if_neg he])
  clear he
  go_wp2_with fail
  go_ret
  refine ⟨v, rfl, rfl, hadv.out.symm, ?_⟩
  rw [set_same HI.out]
  have hc2 := HC2.out
  rw [hadd.out] at hc2
  exact ((HKD.out.step hc2 HT2.out).1.kv).less (fun t ht => List.mem_cons_of_mem _ ht)
end
end Go.Proofs.YtnnapkakbdpkaaaGreat

namespace Go.Proofs.YtnnapkakbdpkaaaGreat
set_option maxRecDepth 20000
open Go.RowKit
def AddPostY (w : World) (room : ByteArray) (v : Value) (xs : List EvV) (x : EvV) (e : Ending) (w' : World) : Prop :=
 ∃ v' xs', e = .returned (.tuple #[.agg #[.string room, v'], .int .i64 (errA room (evs xs) x.ev)]) ∧ EvsS w' v' xs' ∧ evs xs' = addA room (evs xs) x.ev ∧ Below w.heap.size w w' ∧ (xs' = xs ∨ xs' = xs ++ [x]) ∧ ∀ k, 0 < xs'.length → v'.ownBlock = some k → (0 < xs.length ∧ v.ownBlock = some k) ∨ w.heap.size ≤ k
theorem AddPostY.refuse {w w' : World} {room : ByteArray} {v : Value} {xs : List EvV} {x : EvV} {n : Int} (h : EvsS w v xs) (he : errA room (evs xs) x.ev = n) (hn : n ≠ 0) (hb : Below w.heap.size w w') : AddPostY w room v xs x (.returned (.tuple #[.agg #[.string room, v], .int .i64 n])) w' :=
 ⟨v, xs, by rw [he], h.below hb, by unfold addA; rw [he, if_neg hn], hb, .inl rfl, fun k h0 hk => .inl ⟨h0, hk⟩⟩
theorem AddPostY.takes {w w' : World} {room : ByteArray} {v v' : Value} {xs : List EvV} {x : EvV} {B : Nat} (h : EvsS w v xs) (hx : x.at w) (he : errA room (evs xs) x.ev = 0) (hm : LV.Mine w' B v' (xs ++ [x])) (hb : Below w.heap.size w w') (hB : w.heap.size ≤ B) : AddPostY w room v xs x (.returned (.tuple #[.agg #[.string room, v'], .int .i64 0])) w' :=
 ⟨v', xs ++ [x], by rw [he], ⟨hm.slice, fun y hy => by rcases List.mem_append.1 hy with hy | hy; exact (h.2 y hy).below hb; rw [List.mem_singleton.1 hy]; exact hx.below hb⟩, by unfold addA; rw [he, if_pos rfl]; simp [evs], hb, .inr rfl, fun k h0 hk => .inr (Nat.le_trans hB (hm.lt k hk).1)⟩
end Go.Proofs.YtnnapkakbdpkaaaGreat

namespace Go.Proofs.YtnnapkakbdpkaaaGreat
set_option maxRecDepth 20000
open Go.RowKit
structure DV where
 room : ByteArray
 xs : List EvV
 A : Option Addr
 cap : Nat
def DV.lv (d : DV) : Value := .slice d.A d.xs.length d.cap
def DV.cells (d : DV) : List Value := [.string d.room, d.lv]
def DV.val (d : DV) : Value := .agg #[.string d.room, d.lv]
abbrev DV.rl (d : DV) : ByteArray × List Ev := (d.room, evs d.xs)
def LD : Lies DV := ⟨93, 2, DV.cells, fun _ => rfl, fun x u hu => by
 simp only [DV.cells, DV.lv, List.mem_cons, List.not_mem_nil, or_false] at hu
 rcases hu with rfl | rfl <;> rfl⟩
def DsS (w : World) (v : Value) (ds : List DV) : Prop := LD.Slice w v ds ∧ ∀ d ∈ ds, EvsS w d.lv d.xs
def footD (v : Value) (ds : List DV) (k : Nat) : Prop := (0 < ds.length ∧ v.ownBlock = some k) ∨ ∃ d ∈ ds, footE d.lv d.xs k
theorem DsS.below {w w' : World} {v : Value} {ds : List DV} (h : DsS w v ds) (hb : Below w.heap.size w w') : DsS w' v ds := ⟨h.1.below hb, fun d hd => (h.2 d hd).below hb⟩
theorem DsS.foot {w : World} {v : Value} {ds : List DV} (h : DsS w v ds) {k : Nat} (hk : footD v ds k) : k < w.heap.size := by
 rcases hk with ⟨h0, hk⟩ | ⟨d, hd, hk⟩
 ·exact h.1.foot h0 hk
 ·exact (h.2 d hd).foot hk
theorem DsS.stay {w w' : World} {v : Value} {ds : List DV} (h : DsS w v ds) (hs : w.heap.size ≤ w'.heap.size) (hb : ∀ k, k < w.heap.size → footD v ds k → w'.heap[k]? = w.heap[k]?) : DsS w' v ds :=
 ⟨h.1.stay0 hs (fun k hk h0 hv => hb k hk (.inl ⟨h0, hv⟩)), fun d hd => (h.2 d hd).stay hs (fun k hk hf => hb k hk (.inr ⟨d, hd, hf⟩))⟩
def Th.vw (v : Value) (ds : List DV) : Th := ⟨footD v ds, fun w => DsS w v ds, fun w k h hk => h.foot hk, fun w w' h hs hb => h.stay hs (fun k hk hf => hb k hk hf)⟩
end Go.Proofs.YtnnapkakbdpkaaaGreat

namespace Go.Proofs.YtnnapkakbdpkaaaGreat
set_option maxRecDepth 20000
open Go.RowKit
structure OuS {α : Type} (L : Lies α) (w wr : World) (u : Value) (ts : List α) : Prop where
 below : Below w.heap.size w wr
 row : L.Mine wr w.heap.size u ts
theorem OuS.on {α : Type} {L : Lies α} {w wr w2 : World} {u : Value} {ts : List α} (h : OuS L w wr u ts) (hb : Below wr.heap.size wr w2) : OuS L w w2 u ts := ⟨h.below.trans (hb.mono h.below.size), h.row.below hb⟩
theorem OuS.drewN {α : Type} {L : Lies α} {w wr : World} {u : Value} {ts : List α} (h : OuS L w wr u ts) (n : Nat) : OuS L w (wr.drewN n) u ts := h.on ((Gr.refl _).drewN n).below
theorem OuS.put {α : Type} {L : Lies α} {w wr w2 : World} {u u' : Value} {ts ts' : List α} (h : OuS L w wr u ts) (hg : wr.grownBy w2 u.ownBlock) (hm : L.Mine w2 w.heap.size u' ts') : OuS L w w2 u' ts' := ⟨h.below.grown hg h.below.size (fun k hk => (h.row.lt k hk).1), hm⟩
end Go.Proofs.YtnnapkakbdpkaaaGreat

namespace Go.Proofs.YtnnapkakbdpkaaaGreat
set_option maxRecDepth 20000
open Go.RowKit
theorem knG : Kn Tryz.prog LG 22 (.agg #[.int .i64 0, .int .i64 0, .slice none 0 0, .int .i64 0]) 48 := ⟨Tryz.underlying22, by kernel_rfl, rfl, by decide⟩
abbrev gps (xs : List GV) : List Gp := xs.map GV.g
structure MdS (w wr : World) (B4 B5 : Nat) (room : ByteArray) (v : Value) (xs : List EvV) : Prop where
 ne : B4 ≠ B5
 lo4 : w.heap.size ≤ B4
 lo5 : w.heap.size ≤ B5
 b4 : wr.heap[B4]? = some (.cells #[.string ⟨#[]⟩, .slice none 0 0] 93 (0, 0))
 b5 : wr.heap[B5]? = some (.cells #[.string room, v] 93 (0, 0))
 row : EvsS wr v xs
 below : Below w.heap.size w wr
theorem MdS.on {w wr w2 : World} {B4 B5 : Nat} {room : ByteArray} {v : Value} {xs : List EvV} (h : MdS w wr B4 B5 room v xs) (hb : Below wr.heap.size wr w2) : MdS w w2 B4 B5 room v xs :=
 ⟨h.ne, h.lo4, h.lo5, (hb.block B4 (smem_lt h.b4)).trans h.b4, (hb.block B5 (smem_lt h.b5)).trans h.b5, h.row.below hb, h.below.trans (hb.mono h.below.size)⟩
theorem MdS.start (w : World) (room : ByteArray) : MdS w ((w.alloc (.cells #[.string ⟨#[]⟩, .slice none 0 0] 93)).alloc (.cells #[.string room, .slice none 0 0] 93)) w.heap.size (w.heap.size + 1) room (.slice none 0 0) [] := by
 have s1 : ∀ (u : World) (o : Obj), (u.alloc o).heap.size = u.heap.size + 1 := fun u o => by simp
 refine ⟨by omega, Nat.le_refl _, by omega, ?_, ?_, ⟨Lies.Slice.nil _, fun x hx => absurd hx List.not_mem_nil⟩, ((Gr.refl w).alloc _ |>.alloc _).below⟩
 ·rw [heap_alloc_old _ _ (by simp only [s1]; omega)]
  exact heap_alloc_new _ _
 ·have := heap_alloc_new (w.alloc (.cells #[.string ⟨#[]⟩, .slice none 0 0] 93)) (.cells #[.string room, .slice none 0 0] 93)
  rw [s1] at this
  exact this
def onTo (g : Gp) (i n : Nat) : List Bool := (List.range 9).map (fun j => (g.parents.take (min n 3)).any (fun p => decide (aroundN p (i : Int) = j)))
theorem onTo_zero (g : Gp) (i : Nat) : onTo g i 0 = List.replicate 9 false := by
 unfold onTo
 simp only [Nat.zero_min, List.take_zero, List.any_nil]
 rfl
theorem onTo_len (g : Gp) (i n : Nat) : (onTo g i n).length = 9 := by simp [onTo]
theorem onTo_succ {g : Gp} {i n : Nat} {p : Int} (hn : n < 3) (h : g.parents[n]? = some p) (ha : aroundN p (i : Int) < 9) : onTo g i (n + 1) = (onTo g i n).set (aroundN p (i : Int)) true := by
 apply List.ext_getElem?
 intro j
 unfold onTo
 rw [List.getElem?_set, List.getElem?_map, List.getElem?_map, List.length_map, List.length_range, Nat.min_eq_left (by omega), Nat.min_eq_left (by omega), List.take_add_one, h]
 by_cases hj : j < 9
 ·rw [List.getElem?_range hj]
  by_cases he : aroundN p (i : Int) = j
  ·subst he
   simp [hj]
  ·simp [he]
 ·rw [List.getElem?_eq_none (by simpa using hj)]
  have : aroundN p (i : Int) ≠ j := by omega
  simp [this]
theorem onTo_all {g : Gp} {i n j : Nat} (hn : n = 3 ∨ n = g.parents.length) (hj : j < 9) (h3 : n ≤ 3) : (onTo g i n)[j]? = some (onP g i j) := by
 unfold onTo onP
 rw [List.getElem?_map, List.getElem?_range hj, Nat.min_eq_left h3]
 simp only [Option.map_some]
 congr 2
 rcases hn with rfl | rfl
 ·rfl
 ·rw [List.take_length, List.take_of_length_le h3]
def parsTo (g : Gp) (i k : Nat) : List ByteArray := ((List.range k).filter (onP g i)).map eventK
theorem parsTo_yes {g : Gp} {i k : Nat} (h : onP g i k = true) : parsTo g i (k + 1) = parsTo g i k ++ [eventK k] := by
 unfold parsTo
 rw [List.range_succ, List.filter_append, List.map_append]
 simp [h]
theorem parsTo_no {g : Gp} {i k : Nat} (h : onP g i k = false) : parsTo g i (k + 1) = parsTo g i k := by
 unfold parsTo
 rw [List.range_succ, List.filter_append, List.map_append]
 simp [h]
theorem parsTo_all (g : Gp) (i : Nat) : parsTo g i i = (fromP g i).map eventK := rfl
end Go.Proofs.YtnnapkakbdpkaaaGreat
