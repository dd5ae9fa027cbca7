/-
  Package view, its rooms.
-/
import Derived.Test.YtjiecjpepiknmaaGreatA2
import Derived.Test.YtjiecjpepiknmaaGreatM9B
import Derived.Test.YtjiecjpepiknmaaGreatSrt
namespace Go.Proofs.YtjiecjpepiknmaaGreat
set_option maxRecDepth 20000
open Go.RowKit Go.Maps Go.ChangeMaps
set_option linter.unusedVariables false
set_option linter.unusedSimpArgs false
/-- A row with room alone. -/
theorem make_texts (n : Nat) (hn : n ≤ 1000) : ∃ cs : Array Value, cs.size = n * 1 ∧ ∀ w, (Instr.makeSlice 31 (.int .i64 0) (.int .i64 (n : Int))).run Tryz.prog w = .ok (.slice (some ⟨w.heap.size, 0, none⟩) 0 n) (w.alloc (.cells cs 9)) := by
  obtain ⟨i0, hi0, hz0, hz1, hz2⟩ := info_parts knT.info
  have hb : (i0.bytes : Int) * (n : Int) ≤ 281474976710656 := by rw [hz2]; omega
  refine ⟨madeCells (Value.string ⟨#[]⟩).cells (n * 1), size_madeCells _ _, fun w => ?_⟩
  have hr := run_make (P := Tryz.prog) w 31 9 i0 _ Tryz.underlying31 hi0 hz0 .i64 .i64 0 (n : Int) (Int.le_refl _) (by omega) hb (by omega)
  rw [hz1, Int.toNat_natCast] at hr
  exact hr
theorem mine_texts (w : World) (n : Nat) (hn : n ≤ 1000) (cs : Array Value) (hc : cs.size = n * 1) : LT.Mine (w.alloc (.cells cs 9)) w.heap.size (.slice (some ⟨w.heap.size, 0, none⟩) 0 n) [] :=
  .inr ⟨w.heap.size, 0, n, cs, rfl, Nat.le_refl _, heap_alloc_new w _, Nat.zero_le _, by unfold maxLen; omega, by rw [show LT.c = 1 from rfl]; omega, by simp [Lies.vs]⟩
section
open Go.Sort
/-- Texts as the library's sort has them. -/
theorem vs_texts : ∀ ss : List (List UInt8), LT.vs (ss.map (fun s => (⟨s.toArray⟩ : ByteArray))) = ss.map encStr
  | [] => rfl
  | s :: r => by
    rw [List.map_cons, Lies.vs_cons, vs_texts r]
    rfl
theorem text_bytes : ∀ us : List ByteArray, (us.map (fun u => u.data.toList)).map (fun s => (⟨s.toArray⟩ : ByteArray)) = us
  | [] => rfl
  | u :: r => by
    rw [List.map_cons, List.map_cons, text_bytes r]
theorem holds_texts {w : World} {B b off n cap : Nat} {us : List ByteArray} (h : LT.Mine w B (.slice (some ⟨b, off, none⟩) n cap) us) : Holds encStr w b off (us.map (fun u => u.data.toList)).toArray := by
  intro j hj
  rw [List.size_toArray, List.length_map] at hj
  rcases h with ⟨hv', _⟩ | ⟨g', off', cap', cur, hv', hg, hh, h1, h2, h3, h4⟩
  · cases hv'
  · injection hv' with e1 e2 e3
    injection e1 with e1
    injection e1 with e4 e5 _
    subst e4 e5 e3
    refine ⟨?_, by simp [World.frozen?, hh]⟩
    have h5 : (LT.vs us)[j]? = some (.string us[j]) := by
      have := LT.vs_get (xs := us) (i := j) (j := 0) (List.getElem?_eq_getElem hj) (u := .string us[j]) rfl
      simpa [show LT.c = 1 from rfl] using this
    rw [cell_of_row w b (off + j) cur _ _ hh, ← Array.getElem?_toList]
    rw [← h4, List.getElem?_take, if_pos (by rw [show LT.c = 1 from rfl]; omega), List.getElem?_drop] at h5
    rw [h5, getElem!_pos _ j (by rw [List.size_toArray, List.length_map]; exact hj)]
    simp [encStr]
theorem texts_put {w : World} {B b off n cap q : Nat} {us : List ByteArray} (h : LT.Mine w B (.slice (some ⟨b, off, none⟩) n cap) us) (ss : List (List UInt8)) (hd : ss.length = us.length) (os : Array Obj) : LT.Mine (grow (putRow encStr (Sort.ahead w q) b off ss.toArray) os) B (.slice (some ⟨b, off, none⟩) n cap) (ss.map (fun s => (⟨s.toArray⟩ : ByteArray))) ∧ w.grownBy (grow (putRow encStr (Sort.ahead w q) b off ss.toArray) os) (some b) := by
  rcases h with ⟨hv', _⟩ | ⟨g', off', cap', cur, hv', hg, hh, h1, h2, h3, h4⟩
  · cases hv'
  · injection hv' with e1 e2 e3
    injection e1 with e1
    injection e1 with e4 e5 _
    subst e4 e5 e3
    have hb := smem_lt hh
    have hp : ∀ k, (putRow encStr (Sort.ahead w q) b off ss.toArray).heap[k]? = if k = b then some (.cells (putCells encStr off ss.toArray cur) LT.e (0, 0)) else w.heap[k]? := by
      intro k
      show (w.heap.modify b _)[k]? = _
      rw [Array.getElem?_modify]
      by_cases e : b = k
      · subst e
        rw [if_pos rfl, if_pos rfl, hh]
        rfl
      · rw [if_neg e, if_neg (fun e' => e e'.symm)]
    have hsz : (putRow encStr (Sort.ahead w q) b off ss.toArray).heap.size = w.heap.size := by
      show (w.heap.modify b _).size = _
      simp
    have hall : ∀ k, k < w.heap.size → (grow (putRow encStr (Sort.ahead w q) b off ss.toArray) os).heap[k]? = if k = b then some (.cells (putCells encStr off ss.toArray cur) LT.e (0, 0)) else w.heap[k]? := fun k hk => by
      rw [← hp k]
      exact heap_grow_old _ _ (by rw [hsz]; exact hk)
    constructor
    · refine .inr ⟨b, off, cap, _, by rw [List.length_map, hd, e2], hg, by rw [hall b hb, if_pos rfl], by rw [List.length_map, hd]; exact h1, h2, by simpa [putCells] using h3, ?_⟩
      have hc : LT.c = 1 := rfl
      rw [vs_texts, List.length_map, hc, Nat.mul_one]
      rw [hc, Nat.mul_one] at h3
      apply List.ext_getElem?
      intro j
      rw [List.getElem?_take]
      by_cases hj : j < ss.length
      · have hlt : off + j < cur.size := by omega
        rw [if_pos hj, List.getElem?_drop, Array.getElem?_toList, List.getElem?_map, List.getElem?_eq_getElem hj]
        simp only [putCells, Array.getElem?_mapIdx, Array.getElem?_eq_getElem hlt, Option.map_some, List.size_toArray]
        rw [if_pos ⟨by omega, by omega⟩, show off + j - off = j by omega, getElem!_pos _ j (by rw [List.size_toArray]; exact hj)]
        rfl
      · rw [if_neg hj, List.getElem?_eq_none (by rw [List.length_map]; omega)]
    · refine ⟨rfl, rfl, rfl, ?_, fun k hk hne => ?_⟩
      · show w.heap.size ≤ (grow _ _).heap.size
        rw [size_grow, hsz]
        exact Nat.le_add_right _ _
      · rw [hall k hk, if_neg (fun e => hne (by rw [e]))]
theorem sortT_any {w : World} {B : Nat} {v : Value} {us : List ByteArray} (h : LT.Mine w B v us) (hl : us.length ≤ 1000) :
    Calls Tryz.prog 60 #[v] w fun e w' => e = .returned (.tuple #[]) ∧ ∃ us', us'.Perm us ∧ us'.Pairwise (fun a b => ¬ b.toList < a.toList) ∧ LT.Mine w' B v us' ∧ w.grownBy w' v.ownBlock := by
  obtain ⟨A, cap, rfl, h1, h2, h3⟩ := h.shape
  cases A with
  | none =>
    have hc := h3 rfl
    have hu : us = [] := List.eq_nil_of_length_eq_zero (by omega)
    subst hu
    refine (Tryz.slices_Sort_string_none none cap w).mono ?_
    rintro e w' ⟨rfl, rfl⟩
    exact ⟨rfl, [], List.Perm.refl _, List.Pairwise.nil, h, World.grownBy.refl _ _⟩
  | some a =>
    obtain ⟨b, off, rfl⟩ : ∃ b off, a = ⟨b, off, none⟩ := by
      rcases id h with ⟨hv', _⟩ | ⟨g', off', cap', cur, hv', -⟩
      · cases hv'
      · injection hv' with e1 e2 e3
        injection e1 with e1
        exact ⟨g', off', e1⟩
    have hb : b < w.heap.size := (h.lt b rfl).2
    have hcon := Tryz.slices_Sort_string b off cap (us.map (fun u => u.data.toList)) w (holds_texts h) hb (by rw [List.length_map]; omega)
    rw [List.length_map] at hcon
    refine hcon.mono ?_
    rintro e w' ⟨rfl, n, os, rfl⟩
    have hp := List.mergeSort_perm (us.map (fun u => u.data.toList)) (fun x y => decide (x ≤ y))
    have tr : ∀ a b c : List UInt8, decide (a ≤ b) = true → decide (b ≤ c) = true → decide (a ≤ c) = true := fun a b c h1 h2 => by simp only [decide_eq_true_eq] at *; exact List.le_trans h1 h2
    have tot : ∀ a b : List UInt8, (decide (a ≤ b) || decide (b ≤ a)) = true := fun a b => by simp only [Bool.or_eq_true, decide_eq_true_eq]; exact List.le_total a b
    have hs := List.pairwise_mergeSort tr tot (us.map (fun u => u.data.toList))
    have hlen : ((us.map (fun u => u.data.toList)).mergeSort (fun x y => decide (x ≤ y))).length = us.length := by rw [List.length_mergeSort, List.length_map]
    generalize (us.map (fun u => u.data.toList)).mergeSort (fun x y => decide (x ≤ y)) = ss at hp hs hlen ⊢
    obtain ⟨k1, k2⟩ := texts_put (q := n) h ss hlen os
    refine ⟨rfl, _, ?_, ?_, k1, k2⟩
    · have := hp.map (fun s => (⟨s.toArray⟩ : ByteArray))
      rw [text_bytes] at this
      exact this
    · rw [List.pairwise_map]
      refine hs.imp (fun {a b} hab => ?_)
      rw [ByteArray.toList_eq, ByteArray.toList_eq]
      exact List.not_lt.2 (of_decide_eq_true hab)
end
theorem up_sorted {us : List ByteArray} (h : us.Pairwise (fun a b => ¬ b.toList < a.toList)) (hn : us.Nodup) : Up us := by
  refine (h.and hn).imp (fun {a b} hab => ?_)
  by_cases hlt : a.toList < b.toList
  · exact hlt
  · exact absurd (key_ext (List.le_antisymm (List.not_lt.1 hab.1) (List.not_lt.1 hlt))) hab.2
theorem ranges_keep {w w' : World} {mb r n cnt : Nat} {D : Dv} {left : Lit → Bool} (h : w.ranges Tryz.prog 9 heldR mb r n D left cnt) (hb : w'.heap[mb]? = w.heap[mb]?) (hr : w'.heap[r]? = w.heap[r]?) : w'.ranges Tryz.prog 9 heldR mb r n D left cnt := by
  obtain ⟨es, clock, since, seen, c0, h1, F, hs, hD, h2, rest⟩ := h
  exact ⟨es, clock, since, seen, c0, hb.trans h1, F, hs, hD, hr.trans h2, rest⟩
section
variable {C : Dags} {w wr w' : World} {vs : List VI} {ts : List Th} {v : VI} {i : Nat}
/-- A thing is told otherwise. -/
theorem Kv.as {t t' : Th} (h : Kv C w wr vs (t :: ts)) (hI : t'.I wr) (hP : ∀ k, t'.P k → t.P k) : Kv C w wr vs (t' :: ts) :=
  ⟨h.below, h.vw, h.off, fun u hu => by
    rcases List.mem_cons.1 hu with rfl | hu
    · exact ⟨hI, fun j x hx k hk => (h.th t List.mem_cons_self).2 j x hx k (hP k hk)⟩
    · exact h.th u (List.mem_cons_of_mem _ hu)⟩
/-- While rooms are gathered. -/
structure RmS (C : Dags) (w wb wr : World) (vs : List VI) (ts : List Th) (v : VI) (r : Nat) (u : Value) (us : List ByteArray) (left : Lit → Bool) (cnt : Nat) : Prop where
  kv : Kv C w wr vs (Th.mine LT wb.heap.size u us :: Th.mark r :: ts)
  far : ∀ k, u.ownBlock = some k → k ≠ r
  rg : wr.ranges Tryz.prog 9 heldR v.mb r v.ds.length v.D left cnt
  mem : ∀ z, z ∈ us ↔ (∃ d ∈ v.ds, d.room = z) ∧ left (kl z) = false
  nodup : us.Nodup
  sum : us.length + cnt ≤ 100

set_option maxHeartbeats 3200000 in
theorem viewRooms_any (CR : DagRms C) (h : Kv C w wr vs ts) (hi : vs[i]? = some v) : Calls Tryz.prog 20 #[.pointer (some ⟨v.g, 0, none⟩)] wr fun e w' => ∃ v', e = .returned v' ∧ LT.Mine w' wr.heap.size v' (v.V.map Prod.fst) ∧ KvT C w wr w' vs ts (Th.mine LT wr.heap.size v' (v.V.map Prod.fst)) := by
  obtain ⟨wb, hwb⟩ : ∃ wb, wb = wr := ⟨_, rfl⟩
  subst hwb
  have hcv := h.cv hi
  have hl100 := hcv.len
  have c1 : wb.cell? ⟨v.g, 0, none⟩ = some (.map (some v.mb)) := cell_at hcv.hd 0
  have hlen : ∀ ty, (Builtin.len_ #[78] ty #[.map (some v.mb)]).run Tryz.prog wb = .ok (.int .i64 (v.ds.length : Int)) wb := fun ty => by
    rw [← hcv.is.size]
    exact World.ownsMap.len hcv.map Tryz.underlying78 ty
  obtain ⟨cs, hcs, hmk⟩ := make_texts v.ds.length (by omega)
  have HTS : Hid (∀ t ∈ ts, ∀ k, t.P k → k < wb.heap.size) := Lib.hid (fun t ht k hk => t.lt wb k (h.is ht) hk)
  have HWB : Hid (w.heap.size ≤ wb.heap.size) := Lib.hid h.below.size
  have HK0 : Hid (Kv C w (wb.alloc (.cells cs 9)) vs (Th.mine LT wb.heap.size (.slice (some ⟨wb.heap.size, 0, none⟩) 0 v.ds.length) [] :: ts)) := Lib.hid (h.add (below_new wb _) (mine_texts wb v.ds.length (by omega) cs hcs) (fun k hk => .inl (by injection hk with hk; exact Nat.le_of_eq hk)))
  have HI := Lib.hid hi
  have hgl := hcv.old (.inl rfl)
  clear h hcs
  go_enter Tryz.func20, Tryz.ntmps20
  go_upto_region 2 with (fail)
  clear hlen hmk c1
  have HSZ1 : Hid (wb.heap.size ≤ (wb.alloc (.cells cs 9)).heap.size) := Lib.hid (below_new wb _).size
  generalize wb.alloc _ = w1 at HK0 HSZ1 ⊢
  have hcv1 := HK0.out.cv HI.out
  have c1 : w1.cell? ⟨v.g, 0, none⟩ = some (.map (some v.mb)) := cell_at hcv1.hd 0
  have hown := hcv1.map
  generalize hu0 : Value.slice (some ⟨wb.heap.size, 0, none⟩) 0 v.ds.length = u0 at HK0 ⊢
  have HU0 : Hid (∀ k, u0.ownBlock = some k → k < w1.heap.size) := Lib.hid (fun k hk => (Th.mine LT wb.heap.size u0 []).lt w1 k (HK0.out.is List.mem_cons_self) hk)
  clear hu0 hcv
  go_wp2_with (first
    | (at_range; refine wpList_range_own _ rfl _ 78 rfl 9 76 keyed Tryz.underlying78 heldR v.mb v.ds.length v.D rfl hown ?_; intro w2 hrg2 hg2 hs2)
    | go_in)
  go_frame
  have HW0 : Hid (RmS C w wb w2 vs ts v w1.heap.size u0 [] (Maps.has v.D) (Maps.size v.D)) := Lib.hid (by
    have hb2 : Below w1.heap.size w1 w2 := ⟨hg2.os, hg2.tape, hg2.output, hg2.size, fun k hk => hg2.block k hk (fun e => by cases e)⟩
    refine ⟨(HK0.out.add (t := Th.mark w1.heap.size) hb2 (show w1.heap.size < w2.heap.size by omega) (fun k hk => .inl (Nat.le_of_eq hk.symm))).less (fun t ht => ?_), fun k hk e => by have := HU0.out k hk; omega, hrg2, fun z => ?_, List.nodup_nil, by rw [hcv1.is.size]; simpa using hl100⟩
    · rcases List.mem_cons.1 ht with rfl | ht
      · exact List.mem_cons_of_mem _ List.mem_cons_self
      · rcases List.mem_cons.1 ht with rfl | ht
        · exact List.mem_cons_self
        · exact List.mem_cons_of_mem _ (List.mem_cons_of_mem _ ht)
    · constructor
      · intro hz; cases hz
      · rintro ⟨hz, hh⟩
        have := (hcv1.is.has_iff z).2 hz
        rw [this] at hh
        cases hh)
  have HDI : Hid (VdM v.D v.ds ∧ Up (v.ds.map DgI.room)) := Lib.hid ⟨hcv1.is, hcv1.up⟩
  have hrb : wb.heap.size ≤ w1.heap.size := by
    exact HSZ1.out
  generalize w1.heap.size = r at HW0 hrb ⊢
  clear hrg2 hg2 hs2 hown hcv1 c1 HU0 HK0
  obtain ⟨A0, c0, hu0, -⟩ := id (show LT.Mine w2 wb.heap.size u0 [] from HW0.out.kv.is List.mem_cons_self).shape
  have hu1 : u0 = .slice A0 0 c0 := hu0
  clear hu0
  subst hu1
  go_loopw [3, 5] (fun u _ wb' => ∃ (us : List ByteArray) (Ao : Option Addr) (co : Nat) (left : Lit → Bool) (cnt : Nat), u = .slice Ao us.length co ∧ Hid (RmS C w wb wb' vs ts v r u us left cnt)) (fun _ _ wb' => wb'.rangeLeft v.mb r)
  case atStart => exact ⟨[], _, _, _, _, rfl, HW0⟩
  case round =>
    obtain ⟨us, Ao, co, left, cnt, rfl, HA⟩ := hrel
    clear HW0
    have hrg := HA.out.rg
    have hle0 := hrg.left_eq
    go_wp2_with (first
      | (at_next; refine wpList_next_ranges (α := ByteArray) (β := Value) _ rfl _ rfl 9 keyed heldR Value.string id (fun key kk hk => by obtain ⟨s, hs, -⟩ := key_inv hk; exact ⟨s, hs⟩) (fun v y _ => ⟨v, rfl⟩) v.mb r v.ds.length v.D left cnt rfl hrg ?_ ?_)
      | go_in)
    · intro hc0 hl0
      have HM := Lib.hid (show LT.Mine wr wb.heap.size (.slice Ao us.length co) us from HA.out.kv.is List.mem_cons_self)
      have hul : us.length ≤ 100 := by have := HA.out.sum; omega
      have HSO := Lib.hid (sortT_any HM.out (by omega))
      clear hrg hle0
      go_wp2_with fail
      go_at_call 60
      refine HSO.out.mono ?_
      rintro e w5 ⟨rfl, us', hp, hpw, hm5, hg5⟩
      have hU : us' = v.V.map Prod.fst := by
        rw [VI.V_room]
        refine up_unique (up_sorted hpw (hp.nodup_iff.2 HA.out.nodup)) HDI.out.2 (fun z => ?_)
        rw [hp.mem_iff, HA.out.mem z, List.mem_map]
        exact ⟨fun h => h.1, fun h => ⟨h, hl0 _⟩⟩
      subst hU
      have HK5 := Lib.hid ((HA.out.kv.put (t' := Th.mine LT wb.heap.size (.slice Ao us.length co) (v.V.map Prod.fst)) hg5 (fun k hk => ?_) hm5 (fun k hk => .inl hk)).less (ts' := Th.mine LT wb.heap.size (.slice Ao us.length co) (v.V.map Prod.fst) :: ts) (fun t ht => ?_))
      · have HM5 := Lib.hid hm5
        clear hm5 hg5 hp hpw HSO HM HA
        go_wp2_with fail
        go_ret
        exact ⟨_, rfl, HM5.out, HK5.out, fun k hk => (HM5.out.lt k hk).1⟩
      · have h1 := (HM.out.lt k hk).1
        refine ⟨hk, Nat.le_trans HWB.out h1, fun u hu hk' => ?_⟩
        rcases List.mem_cons.1 hu with rfl | hu
        · exact HA.out.far k hk hk'
        · have := HTS.out u hu k hk'
          omega
      · rcases List.mem_cons.1 ht with rfl | ht
        · exact List.mem_cons_self
        · exact List.mem_cons_of_mem _ (List.mem_cons_of_mem _ ht)
    · intro x c kk ya yb w3 cnt1 hkey hlk hR hat hrg1 hlt hg1 hs1 hen
      obtain ⟨s, hxs, rfl, hsz⟩ := key_inv hkey
      injection hxs with hxs
      subst hxs
      obtain ⟨d, hd, hdr⟩ := (HDI.out.1.has_iff x).1 (Maps.has_true_of_atKey hat)
      subst hdr
      have hcv : c = d.ptr := by
        have h1 := hat (.held (.pointer none))
        rw [HDI.out.1.at_ HDI.out.2 hd] at h1
        unfold heldR at hR
        injection hR with hR
        injection hR with hR _
        rw [← hR] at h1
        injection h1 with h1
        exact h1.symm
      subst hcv
      have hrw : r < wr.heap.size := hrg.lt
      have HK3 : Hid (Kv C w w3 vs (Th.mine LT wb.heap.size (.slice Ao us.length co) us :: Th.mark r :: ts)) := Lib.hid ((HA.out.kv.swap.put (t' := Th.mark r) hg1 (fun k hk => by
        injection hk with hk
        subst hk
        refine ⟨rfl, Nat.le_trans HWB.out hrb, fun u hu hk' => ?_⟩
        rcases List.mem_cons.1 hu with rfl | hu
        · exact HA.out.far r hk' rfl
        · have := HTS.out u hu r hk'
          omega) (show r < w3.heap.size by omega) (fun k hk => .inl hk)).swap)
      have HRG3 := Lib.hid hrg1
      have HLK := Lib.hid hlk
      have HD := Lib.hid hd
      have hcv3 := HK3.out.cv HI.out
      have HRM := Lib.hid (CR.room (hcv3.dag d hd).1 (hcv3.each hd).2.1)
      clear hkey hlk hR hat hrg hg1 hrg1 hd hcv3
      try simp only [id] at hen
      unfold DgI.ptr at hen ⊢
      go_wp2_with fail
      go_at_call 54
      refine HRM.out.mono ?_
      rintro e w4 ⟨rfl, hc4, ht4⟩
      have HK4 := Lib.hid (HK3.out.dag HI.out HD.out hc4 ht4)
      have HRG4 := Lib.hid (ranges_keep HRG3.out (HK4.out.2.1 i v HI.out) (ht4.block r (by omega) (fun ho => (HK3.out.th (Th.mark r) (List.mem_cons_of_mem _ List.mem_cons_self)).2 i v HI.out r rfl (.inr (.inr ⟨d, HD.out, ho⟩)))))
      have hsz4 := ht4.size
      clear hc4 ht4 HRM HRG3 HK3 hen
      have hlit := Lib.hid (lit_text w4 d.room)
      have HK5 := Lib.hid (HK4.out.1.later (below_new w4 (.cells #[.string d.room] 9)))
      have HRG5 := Lib.hid (HRG4.out.alloc (.cells #[.string d.room] 9))
      have HM5 := Lib.hid (show LT.Mine (w4.alloc (.cells #[.string d.room] 9)) wb.heap.size (.slice Ao us.length co) us from HK5.out.is List.mem_cons_self)
      have hs5 : wb.heap.size ≤ (w4.alloc (.cells #[.string d.room] 9)).heap.size := by
        have := (below_new w4 (.cells #[.string d.room] 9)).size
        omega
      have hrw5 : r < (w4.alloc (.cells #[.string d.room] 9)).heap.size := by
        have := (below_new w4 (.cells #[.string d.room] 9)).size
        omega
      have hul : us.length ≤ 100 := by have := HA.out.sum; omega
      have hct : us.length + 1 + cnt1 ≤ 100 := by have := HA.out.sum; omega
      have HFA := Lib.hid HA.out.far
      have HME := Lib.hid HA.out.mem
      have HND := Lib.hid HA.out.nodup
      clear HRG4 HK4 HA
      go_wp2_with (at_builtin; refine wpList_puts rfl knT (.tmp 21) (.tmp 24) 31 rfl (v := .slice Ao us.length co) rfl HM5.out hs5 (.slice (some ⟨w4.heap.size, 0, none⟩) 1 1) [d.room] 1 rfl rfl (hlit.out.srcN knT rfl) (by omega) ?_; intro A7 c7 w7 m7 g7 o7; have HN7 : Hid (RmS C w wb w7 vs ts v r (.slice A7 (us.length + 1) c7) (us ++ [d.room]) (fun z => left z && !z.sameKey (kl d.room)) cnt1) := (by
        have hown : ∀ k, (Value.slice Ao us.length co).ownBlock = some k → wb.heap.size ≤ k ∧ k ≠ r ∧ k ≠ v.mb := fun k hk => ⟨(HM5.out.lt k hk).1, HFA.out k hk, fun e => (HK5.out.th _ List.mem_cons_self).2 i v HI.out k hk (.inr (.inl e))⟩
        refine Lib.hid ⟨HK5.out.put g7 (fun k hk => ⟨hk, Nat.le_trans HWB.out (hown k hk).1, fun u hu hk' => ?_⟩) m7 (fun k hk => o7 k hk), fun k hk => ?_, HRG5.out.kept g7 (fun e => (hown _ e.symm).2.2 rfl) (fun e => (hown _ e.symm).2.1 rfl), fun z => ?_, ?_, by rw [List.length_append]; exact hct⟩
        · rcases List.mem_cons.1 hu with rfl | hu
          · exact (hown k hk).2.1 hk'
          · have := HTS.out u hu k hk'
            have := (hown k hk).1
            omega
        · rcases o7 k hk with hh | hh
          · exact (hown k hh).2.1
          · omega
        · rw [List.mem_append, HME.out, List.mem_singleton]
          by_cases hz : z = d.room
          · subst hz
            rw [left_same]
            exact ⟨fun _ => ⟨⟨d, HD.out, rfl⟩, rfl⟩, fun _ => .inr rfl⟩
          · rw [left_other hz]
            exact ⟨fun h => h.resolve_right hz, .inl⟩
        · rw [List.nodup_append]
          refine ⟨HND.out, List.nodup_cons.2 ⟨List.not_mem_nil, List.nodup_nil⟩, fun a ha b hb hab => ?_⟩
          rw [List.mem_singleton] at hb
          subst hb
          subst hab
          have := ((HME.out _).1 ha).2
          rw [HLK.out] at this
          cases this); clear m7 g7 o7)
      refine ⟨⟨us ++ [d.room], A7, c7, _, cnt1, by rw [List.length_append]; rfl, HN7⟩, ?_⟩
      rw [HN7.out.rg.left_eq, hle0]
      exact hlt
end
end Go.Proofs.YtjiecjpepiknmaaGreat
