/-
  Package view's questions and Same.
-/
import Derived.Test.YtjiecjpepiknmaaGreatV1
import Derived.Test.YtjiecjpepiknmaaGreatM9B
import Derived.Test.YtjiecjpepiknmaaGreatC5
import Derived.Test.YtjiecjpepiknmaaGreatSrt
import Derived.Deep.QuietTactic
import Derived.BigQuiet
namespace Go.Proofs.YtjiecjpepiknmaaGreat
set_option maxRecDepth 20000
open Go.RowKit Go.Maps Go.ChangeMaps
set_option linter.unusedVariables false
set_option linter.unusedSimpArgs false
section
variable {C : Dags} {w wr w' : World} {vs : List VI} {ts : List Th} {v : VI} {i : Nat}
theorem CVs.of100 (h : CVs C w v) (r : ByteArray) : (ofL v.V r).length ≤ 100 := (h.ok.of_ r).2
/-- A told thing: kept beside, and new. -/
def KvT (C : Dags) (w wr w' : World) (vs : List VI) (ts : List Th) (t : Th) : Prop := Kv C w w' vs (t :: ts) ∧ ∀ k, t.P k → wr.heap.size ≤ k
theorem Kd.told {gd : Nat} {room : ByteArray} {l : List Ev} {t : Th} {wb : World} (h : Kd C w wr vs ts gd room l) (hc : C.CD w' gd room l) (ht : TurnD C.own wr w' gd) (hI : t.I w') (hP : ∀ k, t.P k → wr.heap.size ≤ k ∧ ¬ C.own w' gd k) (hb : wb.heap.size ≤ wr.heap.size) : KvT C w wb w' vs ts t := by
  obtain ⟨h1, h2⟩ := h.step hc ht
  exact ⟨h1.kv.with hI (fun k hk => h2 k (hP k hk).1 (hP k hk).2), fun k hk => Nat.le_trans hb (hP k hk).1⟩
theorem DagOf.size {gd : Nat} {room : ByteArray} (hd : DagOf C wr w' v gd room) : wr.heap.size ≤ w'.heap.size := by
  rcases hd with ⟨d, -, -, -, rfl⟩ | ⟨-, -, hb, -⟩
  · exact Nat.le_refl _
  · exact hb.size

set_option maxHeartbeats 800000 in
theorem viewUsers_any (CA : DagAlls C) (h : Kv C w wr vs ts) (hi : vs[i]? = some v) (room : ByteArray) (hr : room.size ≤ 40) : Calls Tryz.prog 27 #[.pointer (some ⟨v.g, 0, none⟩), .string room] wr fun e w' => ∃ v', e = .returned v' ∧ KvT C w wr w' vs ts (Th.row LT v' (usersL (ofL v.V room))) := by
  have hl := (h.cv hi).of100 room
  have HQ := Lib.hid (dagOf_any h hi room hr)
  have HK := Lib.hid h
  have HI := Lib.hid hi
  clear h hi
  go_enter Tryz.func27, Tryz.ntmps27
  go_wp2_with fail
  go_at_call 52
  refine HQ.out.mono ?_
  rintro e w1 ⟨gd, rfl, hd⟩
  have HKD := Lib.hid (hd.kd HK.out HI.out)
  have HSZ : Hid (wr.heap.size ≤ w1.heap.size) := Lib.hid hd.size
  have HC := Lib.hid (memUsers_any C CA HKD.out.code hl)
  clear hd HQ
  go_wp2_with fail
  go_at_call 65
  refine HC.out.mono ?_
  rintro e w2 ⟨v', rfl, hm, hto, hc, ht⟩
  have HT : Hid (KvT C w wr w2 vs ts (Th.row LT v' (usersL (ofL v.V room)))) := Lib.hid (HKD.out.told (wb := wr) hc ht hm.slice (fun k hk => ⟨(hm.lt k hk.2).1, hto k hk.2⟩) HSZ.out)
  obtain ⟨A', c', rfl, -⟩ := id hm.shape
  clear hm hto hc ht HC
  go_wp2_with fail
  go_ret
  exact ⟨_, rfl, HT.out⟩

set_option maxHeartbeats 800000 in
theorem viewServers_any (CA : DagAlls C) (h : Kv C w wr vs ts) (hi : vs[i]? = some v) (room : ByteArray) (hr : room.size ≤ 40) : Calls Tryz.prog 29 #[.pointer (some ⟨v.g, 0, none⟩), .string room] wr fun e w' => ∃ v', e = .returned v' ∧ KvT C w wr w' vs ts (Th.row LT v' (serversL (ofL v.V room))) := by
  have hl := (h.cv hi).of100 room
  have HQ := Lib.hid (dagOf_any h hi room hr)
  have HK := Lib.hid h
  have HI := Lib.hid hi
  clear h hi
  go_enter Tryz.func29, Tryz.ntmps29
  go_wp2_with fail
  go_at_call 52
  refine HQ.out.mono ?_
  rintro e w1 ⟨gd, rfl, hd⟩
  have HKD := Lib.hid (hd.kd HK.out HI.out)
  have HSZ : Hid (wr.heap.size ≤ w1.heap.size) := Lib.hid hd.size
  have HC := Lib.hid (memServers_any C CA HKD.out.code hl)
  clear hd HQ
  go_wp2_with fail
  go_at_call 68
  refine HC.out.mono ?_
  rintro e w2 ⟨v', rfl, hm, hto, hc, ht⟩
  have HT : Hid (KvT C w wr w2 vs ts (Th.row LT v' (serversL (ofL v.V room)))) := Lib.hid (HKD.out.told (wb := wr) hc ht hm.slice (fun k hk => ⟨(hm.lt k hk.2).1, hto k hk.2⟩) HSZ.out)
  obtain ⟨A', c', rfl, -⟩ := id hm.shape
  clear hm hto hc ht HC
  go_wp2_with fail
  go_ret
  exact ⟨_, rfl, HT.out⟩

set_option maxHeartbeats 800000 in
theorem viewHeads_any (CH : DagHds C) (h : Kv C w wr vs ts) (hi : vs[i]? = some v) (room : ByteArray) (hr : room.size ≤ 40) : Calls Tryz.prog 18 #[.pointer (some ⟨v.g, 0, none⟩), .string room] wr fun e w' => ∃ v', e = .returned v' ∧ KvT C w wr w' vs ts (Th.row LT v' (headsL (ofL v.V room))) := by
  have hl := (h.cv hi).of100 room
  have HQ := Lib.hid (dagOf_any h hi room hr)
  have HK := Lib.hid h
  have HI := Lib.hid hi
  clear h hi
  go_enter Tryz.func18, Tryz.ntmps18
  go_wp2_with fail
  go_at_call 52
  refine HQ.out.mono ?_
  rintro e w1 ⟨gd, rfl, hd⟩
  have HKD := Lib.hid (hd.kd HK.out HI.out)
  have HSZ : Hid (wr.heap.size ≤ w1.heap.size) := Lib.hid hd.size
  have HC := Lib.hid (CH.heads HKD.out.code hl)
  clear hd HQ
  go_wp2_with fail
  go_at_call 59
  refine HC.out.mono ?_
  rintro e w2 ⟨v', rfl, hm, hto, hc, ht⟩
  have HT : Hid (KvT C w wr w2 vs ts (Th.row LT v' (headsL (ofL v.V room)))) := Lib.hid (HKD.out.told (wb := wr) hc ht hm.slice (fun k hk => ⟨(hm.lt k hk.2).1, hto k hk.2⟩) HSZ.out)
  obtain ⟨A', c', rfl, -⟩ := id hm.shape
  clear hm hto hc ht HC
  go_wp2_with fail
  go_ret
  exact ⟨_, rfl, HT.out⟩

set_option maxHeartbeats 800000 in
theorem viewJoined_any (CA : DagAlls C) (h : Kv C w wr vs ts) (hi : vs[i]? = some v) (room : ByteArray) (hr : room.size ≤ 40) (u : ByteArray) (hu : u.size ≤ maxLen) : Calls Tryz.prog 31 #[.pointer (some ⟨v.g, 0, none⟩), .string room, .string u] wr fun e w' => e = .returned (.bool (joinL (ofL v.V room) u)) ∧ Kv C w w' vs ts := by
  have hl := (h.cv hi).of100 room
  have HQ := Lib.hid (dagOf_any h hi room hr)
  have HK := Lib.hid h
  have HI := Lib.hid hi
  clear h hi
  go_enter Tryz.func31, Tryz.ntmps31
  go_wp2_with fail
  go_at_call 52
  refine HQ.out.mono ?_
  rintro e w1 ⟨gd, rfl, hd⟩
  have HKD := Lib.hid (hd.kd HK.out HI.out)
  have HSZ : Hid (wr.heap.size ≤ w1.heap.size) := Lib.hid hd.size
  have HC := Lib.hid (memJoined_any C CA u HKD.out.code hl hu)
  clear hd HQ
  go_wp2_with fail
  go_at_call 70
  refine HC.out.mono ?_
  rintro e w2 ⟨rfl, hc, ht⟩
  have HT := Lib.hid (HKD.out.step hc ht).1.kv
  clear hc ht HC
  go_wp2_with fail
  go_ret
  exact ⟨rfl, HT.out⟩

set_option maxHeartbeats 800000 in
theorem viewIn_any (CA : DagAlls C) (h : Kv C w wr vs ts) (hi : vs[i]? = some v) (room : ByteArray) (hr : room.size ≤ 40) (u : ByteArray) : Calls Tryz.prog 34 #[.pointer (some ⟨v.g, 0, none⟩), .string room, .string u] wr fun e w' => e = .returned (.bool (hasL (serversL (ofL v.V room)) u)) ∧ Kv C w w' vs ts := by
  have hl := (h.cv hi).of100 room
  have HQ := Lib.hid (dagOf_any h hi room hr)
  have HK := Lib.hid h
  have HI := Lib.hid hi
  clear h hi
  go_enter Tryz.func34, Tryz.ntmps34
  go_wp2_with fail
  go_at_call 52
  refine HQ.out.mono ?_
  rintro e w1 ⟨gd, rfl, hd⟩
  have HKD := Lib.hid (hd.kd HK.out HI.out)
  have HSZ : Hid (wr.heap.size ≤ w1.heap.size) := Lib.hid hd.size
  have HC := Lib.hid (memIn_any C CA u HKD.out.code hl)
  clear hd HQ
  go_wp2_with fail
  go_at_call 71
  refine HC.out.mono ?_
  rintro e w2 ⟨rfl, hc, ht⟩
  have HT := Lib.hid (HKD.out.step hc ht).1.kv
  clear hc ht HC
  go_wp2_with fail
  go_ret
  exact ⟨rfl, HT.out⟩

set_option maxHeartbeats 800000 in
theorem viewEvents_any (CA : DagAlls C) (h : Kv C w wr vs ts) (hi : vs[i]? = some v) (room : ByteArray) (hr : room.size ≤ 40) : Calls Tryz.prog 15 #[.pointer (some ⟨v.g, 0, none⟩), .string room] wr fun e w' => ∃ v', e = .returned v' ∧ ∃ ys, evs ys = allL (ofL v.V room) ∧ KvT C w wr w' vs ts (Th.evs v' ys) := by
  have hl := (h.cv hi).of100 room
  have HQ := Lib.hid (dagOf_any h hi room hr)
  have HK := Lib.hid h
  have HI := Lib.hid hi
  clear h hi
  go_enter Tryz.func15, Tryz.ntmps15
  go_wp2_with fail
  go_at_call 52
  refine HQ.out.mono ?_
  rintro e w1 ⟨gd, rfl, hd⟩
  have HKD := Lib.hid (hd.kd HK.out HI.out)
  have HSZ : Hid (wr.heap.size ≤ w1.heap.size) := Lib.hid hd.size
  have HC := Lib.hid (CA.all HKD.out.code hl)
  clear hd HQ
  go_wp2_with fail
  go_at_call 56
  refine HC.out.mono ?_
  rintro e w2 ⟨v', rfl, ys, hm, hto, hy, hev, hc, ht⟩
  have HT : Hid (KvT C w wr w2 vs ts (Th.evs v' ys)) := Lib.hid (HKD.out.told (wb := wr) hc ht ⟨hm.slice, fun y hyy => (hy y hyy).1⟩ (fun k hk => by
    rcases hk with ⟨h0, hk⟩ | ⟨y, hyy, hk⟩
    · exact ⟨(hm.lt k hk).1, hto k hk⟩
    · exact ⟨((hy y hyy).2.1.lt k hk.2).1, (hy y hyy).2.2 k hk.2⟩) HSZ.out)
  have HEV := Lib.hid hev
  obtain ⟨A', c', rfl, -⟩ := id hm.shape
  clear hm hto hc ht HC hy hev
  go_wp2_with fail
  go_ret
  exact ⟨_, rfl, ys, HEV.out, HT.out⟩

theorem po_at {W : World} {B : Nat} {cs : Array Value} {t : TypeId} (hr : W.heap[B]? = some (.cells cs t (0, 0))) (a0 a1 : Value) (hs : cs.size = 2) :
    ∀ W', W' = W.setCells B 0 [a0, a1] → W'.heap[B]? = some (.cells #[a0, a1] t (0, 0)) ∧ W.grownBy W' (some B) := by
  rintro W' rfl
  obtain ⟨cur, z1, z2, z3⟩ := sm_at B t [a0, a1] 0 W _ hr (by rw [hs]; exact Nat.le_refl 2)
  have hl : cs.toList.length = 2 := hs
  have z4 : cur.toList = [a0, a1] := by
    rw [z3, List.take_zero, List.nil_append, List.drop_of_length_le (by rw [hl]; exact Nat.le_refl _), List.append_nil]
  have z5 : cur = #[a0, a1] := Array.toList_inj.1 z4
  rw [z1, z5]
  exact ⟨rfl, sm_grown W B 0 _⟩

set_option maxHeartbeats 800000 in
theorem viewPosition_any (h : Kv C w wr vs ts) (hi : vs[i]? = some v) (room id : ByteArray) (hr : room.size ≤ 40) (hu : id.size ≤ maxLen) : Calls Tryz.prog 24 #[.pointer (some ⟨v.g, 0, none⟩), .string room, .string id] wr fun e w' => ∃ p : Po, e = .returned (.tuple #[p.val, .bool (hasE (ofL v.V room) id)]) ∧ p = (bif hasE (ofL v.V room) id then posL (ofL v.V room) id else ⟨0, ⟨#[]⟩⟩) ∧ Kv C w w' vs ts := by
  have hl := (h.cv hi).of100 room
  have HTS : Hid (∀ t ∈ ts, ∀ k, t.P k → k ≠ wr.heap.size) := Lib.hid (fun t ht k hk => by have := t.lt wr k (h.is ht) hk; omega)
  have hlow := h.below.size
  have HK := Lib.hid (show Kv C w (wr.alloc (.cells #[.int .i64 0, .string ⟨#[]⟩] 55)) vs (Th.box wr.heap.size (.cells #[.int .i64 0, .string ⟨#[]⟩] 55 (0, 0)) :: ts) from h.add (below_new wr _) (heap_alloc_new wr _) (fun k hk => .inl (Nat.le_of_eq hk.symm)))
  have HI := Lib.hid hi
  clear h
  go_enter Tryz.func24, Tryz.ntmps24
  go_upto_region 1 with (fail)
  generalize wr.alloc _ = w0 at HK ⊢
  generalize wr.heap.size = B at HK HTS hlow ⊢
  have HQ := Lib.hid (dagOf_any HK.out hi room hr)
  clear hi
  go_wp2_with fail
  go_at_call 52
  refine HQ.out.mono ?_
  rintro e w1 ⟨gd, rfl, hd⟩
  have HKD := Lib.hid (hd.kd HK.out HI.out)
  have HC := Lib.hid (C.position id HKD.out.code hl hu)
  clear hd HQ HK
  go_wp2_with fail
  go_at_call 62
  refine HC.out.mono ?_
  rintro e w2 ⟨p, rfl, hp1, hp0, hc, ht⟩
  have HT := Lib.hid (HKD.out.step hc ht).1.kv
  have HP : Hid (p = (bif hasE (ofL v.V room) id then posL (ofL v.V room) id else ⟨0, ⟨#[]⟩⟩)) := Lib.hid (by
    cases hh : hasE (ofL v.V room) id
    · exact hp0 hh
    · exact hp1 hh)
  generalize hhb : hasE (ofL v.V room) id = hb at HP ⊢
  have HHB := Lib.hid hhb
  clear hhb
  clear hc ht HC HKD hp1 hp0
  have HB2 := Lib.hid (HT.out.is List.mem_cons_self)
  have r0 : w2.cell? ⟨B, 0, none⟩ = some (.int .i64 0) := cell_at HB2.out 0
  have r1 : w2.cell? ⟨B, 1, none⟩ = some (.string ⟨#[]⟩) := cell_at HB2.out 1
  have z0 : w2.frozen? ⟨B, 0, none⟩ = false := free_at HB2.out 0
  have z1 : w2.frozen? ⟨B, 1, none⟩ = false := free_at HB2.out 1
  have HAN := Lib.hid (po_at HB2.out (.int .i64 p.depth) (.string p.id) rfl _ rfl)
  simp only [World.setCells] at HAN
  unfold Po.val
  go_wp2_with fail
  clear r0 r1 z0 z1
  generalize World.setCell _ _ _ = w9 at HAN ⊢
  have HK9 := Lib.hid (HT.out.put (t' := Th.box B (.cells #[.int .i64 p.depth, .string p.id] 55 (0, 0))) HAN.out.2 (fun k hk => by
    injection hk with hk
    subst hk
    exact ⟨rfl, hlow, fun u hu e => HTS.out u hu _ e rfl⟩) HAN.out.1 (fun k hk => .inl hk))
  have s0 : w9.cell? ⟨B, 0, none⟩ = some (.int .i64 p.depth) := cell_at HAN.out.1 0
  have s1 : w9.cell? ⟨B, 1, none⟩ = some (.string p.id) := cell_at HAN.out.1 1
  refine bodyPost_ret (v := .tuple #[.agg #[.int .i64 p.depth, .string p.id], .bool hb]) ?_ rfl ?_
  · simp [results, Tryz.results24, go_sem, s0, s1]
  · exact ⟨p, by rw [HHB.out]; rfl, by rw [HHB.out]; exact HP.out, HK9.out.less (fun t ht => List.mem_cons_of_mem _ ht)⟩
end
end Go.Proofs.YtjiecjpepiknmaaGreat

namespace Go.Proofs.YtjiecjpepiknmaaGreat
set_option maxRecDepth 20000
open Go.RowKit Go.Maps Go.ChangeMaps
set_option linter.unusedVariables false
set_option linter.unusedSimpArgs false
/-- A row with room alone. -/
theorem make_texts (n : Nat) (hn : n ≤ 1000) : ∃ cs : Array Value, cs.size = n * 1 ∧ ∀ w, (Instr.makeSlice 31 (.int .i64 0) (.int .i64 (n : Int))).run Tryz.prog w = .ok (.slice (some ⟨w.heap.size, 0, none⟩) 0 n) (w.alloc (.cells cs 9)) := by
  obtain ⟨i0, hi0, hz0, hz1, hz2⟩ := info_parts knT.info
  have hb : (i0.bytes : Int) * (n : Int) ≤ 281474976710656 := by rw [hz2]; omega
  refine ⟨madeCells (Value.string ⟨#[]⟩).cells (n * 1), size_madeCells _ _, fun w => ?_⟩
  have hr := run_make (P := Tryz.prog) w 31 9 i0 _ Tryz.underlying31 hi0 hz0 .i64 .i64 0 (n : Int) (Int.le_refl _) (by omega) hb (by omega)
  rw [hz1, Int.toNat_natCast] at hr
  exact hr
theorem mine_texts (w : World) (n : Nat) (hn : n ≤ 1000) (cs : Array Value) (hc : cs.size = n * 1) : LT.Mine (w.alloc (.cells cs 9)) w.heap.size (.slice (some ⟨w.heap.size, 0, none⟩) 0 n) [] :=
  .inr ⟨w.heap.size, 0, n, cs, rfl, Nat.le_refl _, heap_alloc_new w _, Nat.zero_le _, by unfold maxLen; omega, by rw [show LT.c = 1 from rfl]; omega, by simp [Lies.vs]⟩
section
open Go.Sort
/-- Texts as the library's sort has them. -/
theorem vs_texts : ∀ ss : List (List UInt8), LT.vs (ss.map (fun s => (⟨s.toArray⟩ : ByteArray))) = ss.map encStr
  | [] => rfl
  | s :: r => by
    rw [List.map_cons, Lies.vs_cons, vs_texts r]
    rfl
theorem text_bytes : ∀ us : List ByteArray, (us.map (fun u => u.data.toList)).map (fun s => (⟨s.toArray⟩ : ByteArray)) = us
  | [] => rfl
  | u :: r => by
    rw [List.map_cons, List.map_cons, text_bytes r]
theorem holds_texts {w : World} {B b off n cap : Nat} {us : List ByteArray} (h : LT.Mine w B (.slice (some ⟨b, off, none⟩) n cap) us) : Holds encStr w b off (us.map (fun u => u.data.toList)).toArray := by
  intro j hj
  rw [List.size_toArray, List.length_map] at hj
  rcases h with ⟨hv', _⟩ | ⟨g', off', cap', cur, hv', hg, hh, h1, h2, h3, h4⟩
  · cases hv'
  · injection hv' with e1 e2 e3
    injection e1 with e1
    injection e1 with e4 e5 _
    subst e4 e5 e3
    refine ⟨?_, by simp [World.frozen?, hh]⟩
    have h5 : (LT.vs us)[j]? = some (.string us[j]) := by
      have := LT.vs_get (xs := us) (i := j) (j := 0) (List.getElem?_eq_getElem hj) (u := .string us[j]) rfl
      simpa [show LT.c = 1 from rfl] using this
    rw [cell_of_row w b (off + j) cur _ _ hh, ← Array.getElem?_toList]
    rw [← h4, List.getElem?_take, if_pos (by rw [show LT.c = 1 from rfl]; omega), List.getElem?_drop] at h5
    rw [h5, getElem!_pos _ j (by rw [List.size_toArray, List.length_map]; exact hj)]
    simp [encStr]
theorem texts_put {w : World} {B b off n cap q : Nat} {us : List ByteArray} (h : LT.Mine w B (.slice (some ⟨b, off, none⟩) n cap) us) (ss : List (List UInt8)) (hd : ss.length = us.length) (os : Array Obj) : LT.Mine (grow (putRow encStr (Sort.ahead w q) b off ss.toArray) os) B (.slice (some ⟨b, off, none⟩) n cap) (ss.map (fun s => (⟨s.toArray⟩ : ByteArray))) ∧ w.grownBy (grow (putRow encStr (Sort.ahead w q) b off ss.toArray) os) (some b) := by
  rcases h with ⟨hv', _⟩ | ⟨g', off', cap', cur, hv', hg, hh, h1, h2, h3, h4⟩
  · cases hv'
  · injection hv' with e1 e2 e3
    injection e1 with e1
    injection e1 with e4 e5 _
    subst e4 e5 e3
    have hb := smem_lt hh
    have hp : ∀ k, (putRow encStr (Sort.ahead w q) b off ss.toArray).heap[k]? = if k = b then some (.cells (putCells encStr off ss.toArray cur) LT.e (0, 0)) else w.heap[k]? := by
      intro k
      show (w.heap.modify b _)[k]? = _
      rw [Array.getElem?_modify]
      by_cases e : b = k
      · subst e
        rw [if_pos rfl, if_pos rfl, hh]
        rfl
      · rw [if_neg e, if_neg (fun e' => e e'.symm)]
    have hsz : (putRow encStr (Sort.ahead w q) b off ss.toArray).heap.size = w.heap.size := by
      show (w.heap.modify b _).size = _
      simp
    have hall : ∀ k, k < w.heap.size → (grow (putRow encStr (Sort.ahead w q) b off ss.toArray) os).heap[k]? = if k = b then some (.cells (putCells encStr off ss.toArray cur) LT.e (0, 0)) else w.heap[k]? := fun k hk => by
      rw [← hp k]
      exact heap_grow_old _ _ (by rw [hsz]; exact hk)
    constructor
    · refine .inr ⟨b, off, cap, _, by rw [List.length_map, hd, e2], hg, by rw [hall b hb, if_pos rfl], by rw [List.length_map, hd]; exact h1, h2, by simpa [putCells] using h3, ?_⟩
      have hc : LT.c = 1 := rfl
      rw [vs_texts, List.length_map, hc, Nat.mul_one]
      rw [hc, Nat.mul_one] at h3
      apply List.ext_getElem?
      intro j
      rw [List.getElem?_take]
      by_cases hj : j < ss.length
      · have hlt : off + j < cur.size := by omega
        rw [if_pos hj, List.getElem?_drop, Array.getElem?_toList, List.getElem?_map, List.getElem?_eq_getElem hj]
        simp only [putCells, Array.getElem?_mapIdx, Array.getElem?_eq_getElem hlt, Option.map_some, List.size_toArray]
        rw [if_pos ⟨by omega, by omega⟩, show off + j - off = j by omega, getElem!_pos _ j (by rw [List.size_toArray]; exact hj)]
        rfl
      · rw [if_neg hj, List.getElem?_eq_none (by rw [List.length_map]; omega)]
    · refine ⟨rfl, rfl, rfl, ?_, fun k hk hne => ?_⟩
      · show w.heap.size ≤ (grow _ _).heap.size
        rw [size_grow, hsz]
        exact Nat.le_add_right _ _
      · rw [hall k hk, if_neg (fun e => hne (by rw [e]))]
theorem sortT_any {w : World} {B : Nat} {v : Value} {us : List ByteArray} (h : LT.Mine w B v us) (hl : us.length ≤ 1000) :
    Calls Tryz.prog 60 #[v] w fun e w' => e = .returned (.tuple #[]) ∧ ∃ us', us'.Perm us ∧ us'.Pairwise (fun a b => ¬ b.toList < a.toList) ∧ LT.Mine w' B v us' ∧ w.grownBy w' v.ownBlock := by
  obtain ⟨A, cap, rfl, h1, h2, h3⟩ := h.shape
  cases A with
  | none =>
    have hc := h3 rfl
    have hu : us = [] := List.eq_nil_of_length_eq_zero (by omega)
    subst hu
    refine (Tryz.slices_Sort_string_none none cap w).mono ?_
    rintro e w' ⟨rfl, rfl⟩
    exact ⟨rfl, [], List.Perm.refl _, List.Pairwise.nil, h, World.grownBy.refl _ _⟩
  | some a =>
    obtain ⟨b, off, rfl⟩ : ∃ b off, a = ⟨b, off, none⟩ := by
      rcases id h with ⟨hv', _⟩ | ⟨g', off', cap', cur, hv', -⟩
      · cases hv'
      · injection hv' with e1 e2 e3
        injection e1 with e1
        exact ⟨g', off', e1⟩
    have hb : b < w.heap.size := (h.lt b rfl).2
    have hcon := Tryz.slices_Sort_string b off cap (us.map (fun u => u.data.toList)) w (holds_texts h) hb (by rw [List.length_map]; omega)
    rw [List.length_map] at hcon
    refine hcon.mono ?_
    rintro e w' ⟨rfl, n, os, rfl⟩
    have hp := List.mergeSort_perm (us.map (fun u => u.data.toList)) (fun x y => decide (x ≤ y))
    have tr : ∀ a b c : List UInt8, decide (a ≤ b) = true → decide (b ≤ c) = true → decide (a ≤ c) = true := fun a b c h1 h2 => by simp only [decide_eq_true_eq] at *; exact List.le_trans h1 h2
    have tot : ∀ a b : List UInt8, (decide (a ≤ b) || decide (b ≤ a)) = true := fun a b => by simp only [Bool.or_eq_true, decide_eq_true_eq]; exact List.le_total a b
    have hs := List.pairwise_mergeSort tr tot (us.map (fun u => u.data.toList))
    have hlen : ((us.map (fun u => u.data.toList)).mergeSort (fun x y => decide (x ≤ y))).length = us.length := by rw [List.length_mergeSort, List.length_map]
    generalize (us.map (fun u => u.data.toList)).mergeSort (fun x y => decide (x ≤ y)) = ss at hp hs hlen ⊢
    obtain ⟨k1, k2⟩ := texts_put (q := n) h ss hlen os
    refine ⟨rfl, _, ?_, ?_, k1, k2⟩
    · have := hp.map (fun s => (⟨s.toArray⟩ : ByteArray))
      rw [text_bytes] at this
      exact this
    · rw [List.pairwise_map]
      refine hs.imp (fun {a b} hab => ?_)
      rw [ByteArray.toList_eq, ByteArray.toList_eq]
      exact List.not_lt.2 (of_decide_eq_true hab)
end
theorem up_sorted {us : List ByteArray} (h : us.Pairwise (fun a b => ¬ b.toList < a.toList)) (hn : us.Nodup) : Up us := by
  refine (h.and hn).imp (fun {a b} hab => ?_)
  by_cases hlt : a.toList < b.toList
  · exact hlt
  · exact absurd (key_ext (List.le_antisymm (List.not_lt.1 hab.1) (List.not_lt.1 hlt))) hab.2
theorem ranges_keep {w w' : World} {mb r n cnt : Nat} {D : Dv} {left : Lit → Bool} (h : w.ranges Tryz.prog 9 heldR mb r n D left cnt) (hb : w'.heap[mb]? = w.heap[mb]?) (hr : w'.heap[r]? = w.heap[r]?) : w'.ranges Tryz.prog 9 heldR mb r n D left cnt := by
  obtain ⟨es, clock, since, seen, c0, h1, F, hs, hD, h2, rest⟩ := h
  exact ⟨es, clock, since, seen, c0, hb.trans h1, F, hs, hD, hr.trans h2, rest⟩
section
variable {C : Dags} {w wr w' : World} {vs : List VI} {ts : List Th} {v : VI} {i : Nat}
/-- A thing is told otherwise. -/
theorem Kv.as {t t' : Th} (h : Kv C w wr vs (t :: ts)) (hI : t'.I wr) (hP : ∀ k, t'.P k → t.P k) : Kv C w wr vs (t' :: ts) :=
  ⟨h.below, h.vw, h.off, fun u hu => by
    rcases List.mem_cons.1 hu with rfl | hu
    · exact ⟨hI, fun j x hx k hk => (h.th t List.mem_cons_self).2 j x hx k (hP k hk)⟩
    · exact h.th u (List.mem_cons_of_mem _ hu)⟩
/-- While rooms are gathered. -/
structure RmS (C : Dags) (w wb wr : World) (vs : List VI) (ts : List Th) (v : VI) (r : Nat) (u : Value) (us : List ByteArray) (left : Lit → Bool) (cnt : Nat) : Prop where
  kv : Kv C w wr vs (Th.mine LT wb.heap.size u us :: Th.mark r :: ts)
  far : ∀ k, u.ownBlock = some k → k ≠ r
  rg : wr.ranges Tryz.prog 9 heldR v.mb r v.ds.length v.D left cnt
  mem : ∀ z, z ∈ us ↔ (∃ d ∈ v.ds, d.room = z) ∧ left (kl z) = false
  nodup : us.Nodup
  sum : us.length + cnt ≤ 100

set_option maxHeartbeats 3200000 in
theorem viewRooms_any (CR : DagRms C) (h : Kv C w wr vs ts) (hi : vs[i]? = some v) : Calls Tryz.prog 20 #[.pointer (some ⟨v.g, 0, none⟩)] wr fun e w' => ∃ v', e = .returned v' ∧ LT.Mine w' wr.heap.size v' (v.V.map Prod.fst) ∧ KvT C w wr w' vs ts (Th.mine LT wr.heap.size v' (v.V.map Prod.fst)) := by
  obtain ⟨wb, hwb⟩ : ∃ wb, wb = wr := ⟨_, rfl⟩
  subst hwb
  have hcv := h.cv hi
  have hl100 := hcv.len
  have c1 : wb.cell? ⟨v.g, 0, none⟩ = some (.map (some v.mb)) := cell_at hcv.hd 0
  have hlen : ∀ ty, (Builtin.len_ #[78] ty #[.map (some v.mb)]).run Tryz.prog wb = .ok (.int .i64 (v.ds.length : Int)) wb := fun ty => by
    rw [← hcv.is.size]
    exact World.ownsMap.len hcv.map Tryz.underlying78 ty
  obtain ⟨cs, hcs, hmk⟩ := make_texts v.ds.length (by omega)
  have HTS : Hid (∀ t ∈ ts, ∀ k, t.P k → k < wb.heap.size) := Lib.hid (fun t ht k hk => t.lt wb k (h.is ht) hk)
  have HWB : Hid (w.heap.size ≤ wb.heap.size) := Lib.hid h.below.size
  have HK0 : Hid (Kv C w (wb.alloc (.cells cs 9)) vs (Th.mine LT wb.heap.size (.slice (some ⟨wb.heap.size, 0, none⟩) 0 v.ds.length) [] :: ts)) := Lib.hid (h.add (below_new wb _) (mine_texts wb v.ds.length (by omega) cs hcs) (fun k hk => .inl (by injection hk with hk; exact Nat.le_of_eq hk)))
  have HI := Lib.hid hi
  have hgl := hcv.old (.inl rfl)
  clear h hcs
  go_enter Tryz.func20, Tryz.ntmps20
  go_upto_region 2 with (fail)
  clear hlen hmk c1
  have HSZ1 : Hid (wb.heap.size ≤ (wb.alloc (.cells cs 9)).heap.size) := Lib.hid (below_new wb _).size
  generalize wb.alloc _ = w1 at HK0 HSZ1 ⊢
  have hcv1 := HK0.out.cv HI.out
  have c1 : w1.cell? ⟨v.g, 0, none⟩ = some (.map (some v.mb)) := cell_at hcv1.hd 0
  have hown := hcv1.map
  generalize hu0 : Value.slice (some ⟨wb.heap.size, 0, none⟩) 0 v.ds.length = u0 at HK0 ⊢
  have HU0 : Hid (∀ k, u0.ownBlock = some k → k < w1.heap.size) := Lib.hid (fun k hk => (Th.mine LT wb.heap.size u0 []).lt w1 k (HK0.out.is List.mem_cons_self) hk)
  clear hu0 hcv
  go_wp2_with (first
    | (at_range; refine wpList_range_own _ rfl _ 78 rfl 9 76 keyed Tryz.underlying78 heldR v.mb v.ds.length v.D rfl hown ?_; intro w2 hrg2 hg2 hs2)
    | go_in)
  go_frame
  have HW0 : Hid (RmS C w wb w2 vs ts v w1.heap.size u0 [] (Maps.has v.D) (Maps.size v.D)) := Lib.hid (by
    have hb2 : Below w1.heap.size w1 w2 := ⟨hg2.os, hg2.tape, hg2.output, hg2.size, fun k hk => hg2.block k hk (fun e => by cases e)⟩
    refine ⟨(HK0.out.add (t := Th.mark w1.heap.size) hb2 (show w1.heap.size < w2.heap.size by omega) (fun k hk => .inl (Nat.le_of_eq hk.symm))).less (fun t ht => ?_), fun k hk e => by have := HU0.out k hk; omega, hrg2, fun z => ?_, List.nodup_nil, by rw [hcv1.is.size]; simpa using hl100⟩
    · rcases List.mem_cons.1 ht with rfl | ht
      · exact List.mem_cons_of_mem _ List.mem_cons_self
      · rcases List.mem_cons.1 ht with rfl | ht
        · exact List.mem_cons_self
        · exact List.mem_cons_of_mem _ (List.mem_cons_of_mem _ ht)
    · constructor
      · intro hz; cases hz
      · rintro ⟨hz, hh⟩
        have := (hcv1.is.has_iff z).2 hz
        rw [this] at hh
        cases hh)
  have HDI : Hid (VdM v.D v.ds ∧ Up (v.ds.map DgI.room)) := Lib.hid ⟨hcv1.is, hcv1.up⟩
  have hrb : wb.heap.size ≤ w1.heap.size := by
    exact HSZ1.out
  generalize w1.heap.size = r at HW0 hrb ⊢
  clear hrg2 hg2 hs2 hown hcv1 c1 HU0 HK0
  obtain ⟨A0, c0, hu0, -⟩ := id (show LT.Mine w2 wb.heap.size u0 [] from HW0.out.kv.is List.mem_cons_self).shape
  have hu1 : u0 = .slice A0 0 c0 := hu0
  clear hu0
  subst hu1
  go_loopw [3, 5] (fun u _ wb' => ∃ (us : List ByteArray) (Ao : Option Addr) (co : Nat) (left : Lit → Bool) (cnt : Nat), u = .slice Ao us.length co ∧ Hid (RmS C w wb wb' vs ts v r u us left cnt)) (fun _ _ wb' => wb'.rangeLeft v.mb r)
  case atStart => exact ⟨[], _, _, _, _, rfl, HW0⟩
  case round =>
    obtain ⟨us, Ao, co, left, cnt, rfl, HA⟩ := hrel
    clear HW0
    have hrg := HA.out.rg
    have hle0 := hrg.left_eq
    go_wp2_with (first
      | (at_next; refine wpList_next_ranges (α := ByteArray) (β := Value) _ rfl _ rfl 9 keyed heldR Value.string id (fun key kk hk => by obtain ⟨s, hs, -⟩ := key_inv hk; exact ⟨s, hs⟩) (fun v y _ => ⟨v, rfl⟩) v.mb r v.ds.length v.D left cnt rfl hrg ?_ ?_)
      | go_in)
    · intro hc0 hl0
      have HM := Lib.hid (show LT.Mine wr wb.heap.size (.slice Ao us.length co) us from HA.out.kv.is List.mem_cons_self)
      have hul : us.length ≤ 100 := by have := HA.out.sum; omega
      have HSO := Lib.hid (sortT_any HM.out (by omega))
      clear hrg hle0
      go_wp2_with fail
      go_at_call 60
      refine HSO.out.mono ?_
      rintro e w5 ⟨rfl, us', hp, hpw, hm5, hg5⟩
      have hU : us' = v.V.map Prod.fst := by
        rw [VI.V_room]
        refine up_unique (up_sorted hpw (hp.nodup_iff.2 HA.out.nodup)) HDI.out.2 (fun z => ?_)
        rw [hp.mem_iff, HA.out.mem z, List.mem_map]
        exact ⟨fun h => h.1, fun h => ⟨h, hl0 _⟩⟩
      subst hU
      have HK5 := Lib.hid ((HA.out.kv.put (t' := Th.mine LT wb.heap.size (.slice Ao us.length co) (v.V.map Prod.fst)) hg5 (fun k hk => ?_) hm5 (fun k hk => .inl hk)).less (ts' := Th.mine LT wb.heap.size (.slice Ao us.length co) (v.V.map Prod.fst) :: ts) (fun t ht => ?_))
      · have HM5 := Lib.hid hm5
        clear hm5 hg5 hp hpw HSO HM HA
        go_wp2_with fail
        go_ret
        exact ⟨_, rfl, HM5.out, HK5.out, fun k hk => (HM5.out.lt k hk).1⟩
      · have h1 := (HM.out.lt k hk).1
        refine ⟨hk, Nat.le_trans HWB.out h1, fun u hu hk' => ?_⟩
        rcases List.mem_cons.1 hu with rfl | hu
        · exact HA.out.far k hk hk'
        · have := HTS.out u hu k hk'
          omega
      · rcases List.mem_cons.1 ht with rfl | ht
        · exact List.mem_cons_self
        · exact List.mem_cons_of_mem _ (List.mem_cons_of_mem _ ht)
    · intro x c kk ya yb w3 cnt1 hkey hlk hR hat hrg1 hlt hg1 hs1 hen
      obtain ⟨s, hxs, rfl, hsz⟩ := key_inv hkey
      injection hxs with hxs
      subst hxs
      obtain ⟨d, hd, hdr⟩ := (HDI.out.1.has_iff x).1 (Maps.has_true_of_atKey hat)
      subst hdr
      have hcv : c = d.ptr := by
        have h1 := hat (.held (.pointer none))
        rw [HDI.out.1.at_ HDI.out.2 hd] at h1
        unfold heldR at hR
        injection hR with hR
        injection hR with hR _
        rw [← hR] at h1
        injection h1 with h1
        exact h1.symm
      subst hcv
      have hrw : r < wr.heap.size := hrg.lt
      have HK3 : Hid (Kv C w w3 vs (Th.mine LT wb.heap.size (.slice Ao us.length co) us :: Th.mark r :: ts)) := Lib.hid ((HA.out.kv.swap.put (t' := Th.mark r) hg1 (fun k hk => by
        injection hk with hk
        subst hk
        refine ⟨rfl, Nat.le_trans HWB.out hrb, fun u hu hk' => ?_⟩
        rcases List.mem_cons.1 hu with rfl | hu
        · exact HA.out.far r hk' rfl
        · have := HTS.out u hu r hk'
          omega) (show r < w3.heap.size by omega) (fun k hk => .inl hk)).swap)
      have HRG3 := Lib.hid hrg1
      have HLK := Lib.hid hlk
      have HD := Lib.hid hd
      have hcv3 := HK3.out.cv HI.out
      have HRM := Lib.hid (CR.room (hcv3.dag d hd).1 (hcv3.each hd).2.1)
      clear hkey hlk hR hat hrg hg1 hrg1 hd hcv3
      try simp only [id] at hen
      unfold DgI.ptr at hen ⊢
      go_wp2_with fail
      go_at_call 54
      refine HRM.out.mono ?_
      rintro e w4 ⟨rfl, hc4, ht4⟩
      have HK4 := Lib.hid (HK3.out.dag HI.out HD.out hc4 ht4)
      have HRG4 := Lib.hid (ranges_keep HRG3.out (HK4.out.2.1 i v HI.out) (ht4.block r (by omega) (fun ho => (HK3.out.th (Th.mark r) (List.mem_cons_of_mem _ List.mem_cons_self)).2 i v HI.out r rfl (.inr (.inr ⟨d, HD.out, ho⟩)))))
      have hsz4 := ht4.size
      clear hc4 ht4 HRM HRG3 HK3 hen
      have hlit := Lib.hid (lit_text w4 d.room)
      have HK5 := Lib.hid (HK4.out.1.later (below_new w4 (.cells #[.string d.room] 9)))
      have HRG5 := Lib.hid (HRG4.out.alloc (.cells #[.string d.room] 9))
      have HM5 := Lib.hid (show LT.Mine (w4.alloc (.cells #[.string d.room] 9)) wb.heap.size (.slice Ao us.length co) us from HK5.out.is List.mem_cons_self)
      have hs5 : wb.heap.size ≤ (w4.alloc (.cells #[.string d.room] 9)).heap.size := by
        have := (below_new w4 (.cells #[.string d.room] 9)).size
        omega
      have hrw5 : r < (w4.alloc (.cells #[.string d.room] 9)).heap.size := by
        have := (below_new w4 (.cells #[.string d.room] 9)).size
        omega
      have hul : us.length ≤ 100 := by have := HA.out.sum; omega
      have hct : us.length + 1 + cnt1 ≤ 100 := by have := HA.out.sum; omega
      have HFA := Lib.hid HA.out.far
      have HME := Lib.hid HA.out.mem
      have HND := Lib.hid HA.out.nodup
      clear HRG4 HK4 HA
      go_wp2_with (at_builtin; refine wpList_puts rfl knT (.tmp 21) (.tmp 24) 31 rfl (v := .slice Ao us.length co) rfl HM5.out hs5 (.slice (some ⟨w4.heap.size, 0, none⟩) 1 1) [d.room] 1 rfl rfl (hlit.out.srcN knT rfl) (by omega) ?_; intro A7 c7 w7 m7 g7 o7; have HN7 : Hid (RmS C w wb w7 vs ts v r (.slice A7 (us.length + 1) c7) (us ++ [d.room]) (fun z => left z && !z.sameKey (kl d.room)) cnt1) := (by
        have hown : ∀ k, (Value.slice Ao us.length co).ownBlock = some k → wb.heap.size ≤ k ∧ k ≠ r ∧ k ≠ v.mb := fun k hk => ⟨(HM5.out.lt k hk).1, HFA.out k hk, fun e => (HK5.out.th _ List.mem_cons_self).2 i v HI.out k hk (.inr (.inl e))⟩
        refine Lib.hid ⟨HK5.out.put g7 (fun k hk => ⟨hk, Nat.le_trans HWB.out (hown k hk).1, fun u hu hk' => ?_⟩) m7 (fun k hk => o7 k hk), fun k hk => ?_, HRG5.out.kept g7 (fun e => (hown _ e.symm).2.2 rfl) (fun e => (hown _ e.symm).2.1 rfl), fun z => ?_, ?_, by rw [List.length_append]; exact hct⟩
        · rcases List.mem_cons.1 hu with rfl | hu
          · exact (hown k hk).2.1 hk'
          · have := HTS.out u hu k hk'
            have := (hown k hk).1
            omega
        · rcases o7 k hk with hh | hh
          · exact (hown k hh).2.1
          · omega
        · rw [List.mem_append, HME.out, List.mem_singleton]
          by_cases hz : z = d.room
          · subst hz
            rw [left_same]
            exact ⟨fun _ => ⟨⟨d, HD.out, rfl⟩, rfl⟩, fun _ => .inr rfl⟩
          · rw [left_other hz]
            exact ⟨fun h => h.resolve_right hz, .inl⟩
        · rw [List.nodup_append]
          refine ⟨HND.out, List.nodup_cons.2 ⟨List.not_mem_nil, List.nodup_nil⟩, fun a ha b hb hab => ?_⟩
          rw [List.mem_singleton] at hb
          subst hb
          subst hab
          have := ((HME.out _).1 ha).2
          rw [HLK.out] at this
          cases this); clear m7 g7 o7)
      refine ⟨⟨us ++ [d.room], A7, c7, _, cnt1, by rw [List.length_append]; rfl, HN7⟩, ?_⟩
      rw [HN7.out.rg.left_eq, hle0]
      exact hlt
end
end Go.Proofs.YtjiecjpepiknmaaGreat

namespace Go.Proofs.YtjiecjpepiknmaaGreat
set_option maxRecDepth 20000
open Go.RowKit Go.Maps Go.ChangeMaps
set_option linter.unusedVariables false
set_option linter.unusedSimpArgs false
theorem nodup_len {α : Type} [DecidableEq α] : ∀ {a b : List α}, a.Nodup → (∀ x ∈ a, x ∈ b) → a.length ≤ b.length
  | [], b, _, _ => Nat.zero_le _
  | x :: r, b, hn, hs => by
    have hn1 := List.nodup_cons.1 hn
    have hx := hs x List.mem_cons_self
    have h1 := nodup_len (b := b.erase x) hn1.2 (fun y hy => (List.mem_erase_of_ne (fun e => hn1.1 (by rw [← e]; exact hy))).2 (hs y (List.mem_cons_of_mem _ hy)))
    rw [List.length_erase_of_mem hx] at h1
    have := List.length_pos_of_mem hx
    rw [List.length_cons]
    omega
theorem nodup_all {α : Type} [DecidableEq α] {a b : List α} (hn : a.Nodup) (hs : ∀ x ∈ a, x ∈ b) (hl : b.length ≤ a.length) (hb : b.Nodup) : ∀ x ∈ b, x ∈ a := by
  intro x hx
  by_cases hxa : x ∈ a
  · exact hxa
  · have h1 := nodup_len (b := b.erase x) hn (fun y hy => (List.mem_erase_of_ne (fun e => hxa (by rw [← e]; exact hy))).2 (hs y hy))
    rw [List.length_erase_of_mem hx] at h1
    have := List.length_pos_of_mem hx
    omega
theorem up_nodup {us : List ByteArray} (h : Up us) : us.Nodup := by
  rw [List.nodup_iff_pairwise_ne]
  exact h.imp (fun hab => up_ne hab)
theorem sameV_iff {V W : Vw} (hV : Up (V.map Prod.fst)) (hW : Up (W.map Prod.fst)) : sameV V W = true ↔ V.length = W.length ∧ ∀ p ∈ V, ∃ q ∈ W, q.1 = p.1 ∧ allL p.2 = allL q.2 := by
  unfold sameV
  rw [decide_eq_true_eq]
  constructor
  · intro h
    have hl := congrArg List.length h
    rw [List.length_map, List.length_map] at hl
    refine ⟨hl, fun p hp => ?_⟩
    have h1 : (p.1, allL p.2) ∈ W.map (fun p => (p.1, allL p.2)) := by
      rw [← h]
      exact List.mem_map.2 ⟨p, hp, rfl⟩
    obtain ⟨q, hq, he⟩ := List.mem_map.1 h1
    injection he with h2 h3
    exact ⟨q, hq, h2, h3.symm⟩
  · rintro ⟨hl, h⟩
    have hsub : ∀ x ∈ V.map Prod.fst, x ∈ W.map Prod.fst := by
      intro x hx
      obtain ⟨p, hp, rfl⟩ := List.mem_map.1 hx
      obtain ⟨q, hq, he, -⟩ := h p hp
      exact List.mem_map.2 ⟨q, hq, he⟩
    have hback := nodup_all (up_nodup hV) hsub (by rw [List.length_map, List.length_map, hl]; exact Nat.le_refl _) (up_nodup hW)
    have hr : V.map Prod.fst = W.map Prod.fst := up_unique hV hW (fun x => ⟨hsub x, hback x⟩)
    apply List.ext_getElem?
    intro k
    rw [List.getElem?_map, List.getElem?_map]
    by_cases hk : k < V.length
    · have hk' : k < W.length := by omega
      rw [List.getElem?_eq_getElem hk, List.getElem?_eq_getElem hk']
      simp only [Option.map_some, Option.some.injEq]
      have h1 := congrArg (fun l : List ByteArray => l[k]?) hr
      simp only [List.getElem?_map, List.getElem?_eq_getElem hk, List.getElem?_eq_getElem hk', Option.map_some, Option.some.injEq] at h1
      obtain ⟨q, hq, he, ha⟩ := h _ (List.getElem_mem hk)
      have h2 := up_keys hW hq (List.getElem_mem hk') (he.trans h1)
      rw [h2] at ha
      rw [h1, ha]
    · rw [List.getElem?_eq_none (by omega), List.getElem?_eq_none (by omega)]
theorem ev_there {W : World} {A : Option Addr} {n cap i : Nat} {xs : List EvV} {x : EvV} (h : EvsS W (.slice A n cap) xs) (hi : xs[i]? = some x) : ∃ b off, A = some ⟨b, off, none⟩ ∧ b < W.heap.size ∧ W.rangeAt b (off + i * 6) x.cells := h.1.at hi
section
variable {C : Dags} {w wr w' : World} {vs : List VI} {ts : List Th} {v u : VI} {i j : Nat}

set_option maxHeartbeats 3200000 in
theorem equalEvs_any (CS : DagSms C) (va vb : Value) (xs ys : List EvV) (w : World) (ha : EvsS w va xs) (hb : EvsS w vb ys) (hl : xs.length ≤ 1000) :
    Calls Tryz.prog 78 #[va, vb, .func (.func 79) #[] #[]] w fun e w' => e = .returned (.bool (decide (evs xs = evs ys))) ∧ Below w.heap.size w w' := by
  obtain ⟨A, c, rfl, -, hc, -⟩ := id ha.1
  obtain ⟨A', c', rfl, -, hc', -⟩ := id hb.1
  unfold maxLen at hc hc'
  have HA := Lib.hid ha
  have HB := Lib.hid hb
  have HS := Lib.hid (fun W x y hx hy => CS.same (w := W) x y hx hy)
  clear ha hb
  by_cases hlen : xs.length = ys.length
  · have q0 : ((xs.length : Int) != (ys.length : Int)) = false := by rw [hlen]; exact bne_self_eq_false _
    have HL := Lib.hid hlen
    clear hlen
    go_enter Tryz.func78, Tryz.ntmps78
    go_wp2_with fail
    go_loopw [17] (fun k wr => ∃ a : Nat, k = .int .i64 (a : Int) ∧ a ≤ xs.length ∧ Hid (Below w.heap.size w wr) ∧ Hid (∀ (m : Nat) x y, m < a → xs[m]? = some x → ys[m]? = some y → x.ev = y.ev)) (fun k _ => xs.length - (intOf k).toNat)
    case atStart => exact ⟨0, rfl, Nat.zero_le _, Lib.hid (Below.refl _ _), Lib.hid (fun m x y hm => by omega)⟩
    case round =>
      obtain ⟨a, rfl, hax0, HW, HN⟩ := hrel
      by_cases hax : a < xs.length
      · have q1 : decide ((a : Int) < (xs.length : Int)) = true := decide_eq_true (by omega)
        have hx : xs[a]? = some xs[a] := List.getElem?_eq_getElem hax
        generalize xs[a] = x at hx
        have hay : a < ys.length := by have := HL.out; omega
        have hy : ys[a]? = some ys[a] := List.getElem?_eq_getElem hay
        generalize ys[a] = y at hy
        have HX := Lib.hid hx
        have HY := Lib.hid hy
        have hA' := HA.out.below HW.out
        have hB' := HB.out.below HW.out
        have HXA := Lib.hid (hA'.2 x (List.mem_of_getElem? hx))
        have HYA := Lib.hid (hB'.2 y (List.mem_of_getElem? hy))
        obtain ⟨b1, o1, hb1', hb1, hr1⟩ := ev_there hA' hx
        obtain ⟨b2, o2, hb2', hb2, hr2⟩ := ev_there hB' hy
        have hi1 := index_any (P := Tryz.prog) knV (by decide) (b := b1) (off := o1) (cap := c) hax
        have hi2 := index_any (P := Tryz.prog) knV (by decide) (b := b2) (off := o2) (cap := c') hay
        simp only [LV] at hi1 hi2
        rw [← hb1'] at hi1
        rw [← hb2'] at hi2
        have HR2 := Lib.hid hr2
        obtain ⟨x0, x1, x2, x3, x4, x5⟩ := ev_cells hr1
        unfold EvV.pv at x2
        have HB1 := Lib.hid (below_new wr (.cells #[.string x.ev.id, .string x.ev.room, .slice x.A x.ev.parents.length x.cap, .string x.ev.thread, .string x.ev.user, .int .i64 x.ev.does] 33))
        have HX1 := Lib.hid (heap_alloc_new wr (.cells #[.string x.ev.id, .string x.ev.room, .slice x.A x.ev.parents.length x.cap, .string x.ev.thread, .string x.ev.user, .int .i64 x.ev.does] 33))
        clear hx hy hA' hB' hb1' hb2' hr1 hr2
        go_upto_region 6 with (fail)
        generalize wr.alloc _ = w1 at HB1 HX1 ⊢
        have HW1 := Lib.hid (HW.out.trans (HB1.out.mono HW.out.size))
        have hr2' : w1.rangeAt b2 (o2 + a * 6) y.cells := fun m z hz => (HB1.out.cell (p := ⟨b2, o2 + a * 6 + m, none⟩) hb2).trans (HR2.out m z hz)
        obtain ⟨y0, y1, y2, y3, y4, y5⟩ := ev_cells hr2'
        unfold EvV.pv at y2
        clear x0 x1 x2 x3 x4 x5 hr2'
        have HB2 := Lib.hid (below_new w1 (.cells #[.string y.ev.id, .string y.ev.room, .slice y.A y.ev.parents.length y.cap, .string y.ev.thread, .string y.ev.user, .int .i64 y.ev.does] 33))
        have HX2 := Lib.hid (heap_alloc_new w1 (.cells #[.string y.ev.id, .string y.ev.room, .slice y.A y.ev.parents.length y.cap, .string y.ev.thread, .string y.ev.user, .int .i64 y.ev.does] 33))
        generalize wr.heap.size = B1 at HX1 ⊢
        go_upto_region 7 with (fail)
        generalize w1.alloc _ = w2 at HB2 HX2 ⊢
        replace HX1 := Lib.hid ((HB2.out.block B1 (smem_lt HX1.out)).trans HX1.out)
        have HW2 := Lib.hid (HW1.out.trans (HB2.out.mono HW1.out.size))
        generalize w1.heap.size = B2 at HX2 ⊢
        clear y0 y1 y2 y3 y4 y5
        have s0 : w2.cell? ⟨B1, 0, none⟩ = some (.string x.ev.id) := cell_at HX1.out 0
        have s1 : w2.cell? ⟨B1, 1, none⟩ = some (.string x.ev.room) := cell_at HX1.out 1
        have s2 : w2.cell? ⟨B1, 2, none⟩ = some (.slice x.A x.ev.parents.length x.cap) := cell_at HX1.out 2
        have s3 : w2.cell? ⟨B1, 3, none⟩ = some (.string x.ev.thread) := cell_at HX1.out 3
        have s4 : w2.cell? ⟨B1, 4, none⟩ = some (.string x.ev.user) := cell_at HX1.out 4
        have s5 : w2.cell? ⟨B1, 5, none⟩ = some (.int .i64 x.ev.does) := cell_at HX1.out 5
        have t0 : w2.cell? ⟨B2, 0, none⟩ = some (.string y.ev.id) := cell_at HX2.out 0
        have t1 : w2.cell? ⟨B2, 1, none⟩ = some (.string y.ev.room) := cell_at HX2.out 1
        have t2 : w2.cell? ⟨B2, 2, none⟩ = some (.slice y.A y.ev.parents.length y.cap) := cell_at HX2.out 2
        have t3 : w2.cell? ⟨B2, 3, none⟩ = some (.string y.ev.thread) := cell_at HX2.out 3
        have t4 : w2.cell? ⟨B2, 4, none⟩ = some (.string y.ev.user) := cell_at HX2.out 4
        have t5 : w2.cell? ⟨B2, 5, none⟩ = some (.int .i64 y.ev.does) := cell_at HX2.out 5
        have HQ := Lib.hid (HS.out w2 x y ((HXA.out.below HB1.out).below HB2.out) ((HYA.out.below HB1.out).below HB2.out))
        unfold EvV.val EvV.pv at HQ
        generalize hsm : decide (x.ev = y.ev) = sm at HQ
        have HSM := Lib.hid hsm
        clear hsm
        go_wp2_with fail
        go_at_call 79
        refine HQ.out.mono ?_
        rintro e w4 ⟨rfl, hb4⟩
        have HW4 := Lib.hid (HW2.out.trans (hb4.mono HW2.out.size))
        clear hb4 HQ s0 s1 s2 s3 s4 s5 t0 t1 t2 t3 t4 t5
        cases sm
        · have HF : Hid (decide (evs xs = evs ys) = false) := Lib.hid (decide_eq_false (same_miss (evs_get HX.out) (evs_get HY.out) (of_decide_eq_false HSM.out)))
          go_wp2_with fail
          go_ret
          exact ⟨by rw [HF.out]; rfl, HW4.out⟩
        · have HN2 : Hid (∀ (m : Nat) x y, m < a + 1 → xs[m]? = some x → ys[m]? = some y → x.ev = y.ev) := Lib.hid (fun m x' y' hm hx' hy' => by
            by_cases hma : m = a
            · subst hma
              rw [HX.out] at hx'
              rw [HY.out] at hy'
              injection hx' with hx'
              injection hy' with hy'
              rw [← hx', ← hy']
              exact of_decide_eq_true HSM.out
            · exact HN.out m x' y' (by omega) hx' hy')
          go_wp2_with fail
          refine ⟨⟨a + 1, by go_num, by omega, HW4, HN2⟩, ?_⟩
          simp [intOf]; omega
      · have q1 : decide ((a : Int) < (xs.length : Int)) = false := decide_eq_false (by omega)
        have HF : Hid (decide (evs xs = evs ys) = true) := Lib.hid (decide_eq_true (same_all (by rw [evs_len, evs_len, HL.out]) (fun m x y hx hy => by
          obtain ⟨x', hx', rfl⟩ := evs_of hx
          obtain ⟨y', hy', rfl⟩ := evs_of hy
          exact HN.out m x' y' (by have := (List.getElem?_eq_some_iff.1 hx').1; omega) hx' hy')))
        go_wp2_with fail
        go_ret
        exact ⟨by rw [HF.out]; rfl, HW.out⟩
  · have q0 : ((xs.length : Int) != (ys.length : Int)) = true := by rw [bne_iff_ne]; omega
    have HF : Hid (decide (evs xs = evs ys) = false) := Lib.hid (decide_eq_false (fun e => hlen (by have := congrArg List.length e; rw [evs_len, evs_len] at this; exact this)))
    clear hlen
    go_enter Tryz.func78, Tryz.ntmps78
    go_wp2_with fail
    go_ret
    exact ⟨by rw [HF.out]; rfl, Below.refl _ _⟩

set_option maxHeartbeats 800000 in
theorem same1_any (CA : DagAlls C) (CS : DagSms C) {d d' : DgI} (h : Kv C w wr vs ts) (hi : vs[i]? = some v) (hj : vs[j]? = some u) (hd : d ∈ v.ds) (hd' : d' ∈ u.ds) :
    Calls Tryz.prog 77 #[.pointer (some ⟨d.g, 0, none⟩), .pointer (some ⟨d'.g, 0, none⟩)] wr fun e w' => e = .returned (.bool (decide (allL d.l = allL d'.l))) ∧ Kv C w w' vs ts ∧ ∀ (k : Nat) x, vs[k]? = some x → w'.heap[x.mb]? = wr.heap[x.mb]? := by
  have HQ := Lib.hid (CA.all ((h.cv hi).dag d hd).1 ((h.cv hi).each hd).2.1)
  have HK := Lib.hid h
  have HI := Lib.hid hi
  have HJ := Lib.hid hj
  have HD := Lib.hid hd
  have HD' := Lib.hid hd'
  have hl := (h.cv hi).each hd
  have HLD : Hid (d.l.length ≤ 100) := Lib.hid hl.2.1
  clear h hi hj hd hd' hl
  go_enter Tryz.func77, Tryz.ntmps77
  go_wp2_with fail
  go_at_call 56
  refine HQ.out.mono ?_
  rintro e w1 ⟨va, rfl, xs, hm, hto, hx, hev, hc, ht⟩
  have HK1 : Hid (Kv C w w1 vs (Th.evs va xs :: ts)) := Lib.hid (by
    obtain ⟨h1, -, h3⟩ := HK.out.dag HI.out HD.out hc ht
    refine h1.with (t := Th.evs va xs) ⟨hm.slice, fun y hy => (hx y hy).1⟩ (fun k hk => ?_)
    rcases hk with ⟨h0, hk⟩ | ⟨y, hy, hk⟩
    · exact h3 k (hm.lt k hk).1 (hto k hk)
    · exact h3 k ((hx y hy).2.1.lt k hk.2).1 ((hx y hy).2.2 k hk.2))
  have HMB1 := Lib.hid (HK.out.dag HI.out HD.out hc ht).2.1
  have HE1 := Lib.hid hev
  obtain ⟨Aa, ca, rfl, -⟩ := id hm.shape
  clear hm hto hx hev hc ht HQ
  have HQ := Lib.hid (CA.all ((HK1.out.cv HJ.out).dag d' HD'.out).1 ((HK1.out.cv HJ.out).each HD'.out).2.1)
  go_wp2_with fail
  go_at_call 56
  refine HQ.out.mono ?_
  rintro e w2 ⟨vb, rfl, ys, hm, hto, hx, hev, hc, ht⟩
  have HK2 : Hid (Kv C w w2 vs (Th.evs (.slice Aa xs.length ca) xs :: ts) ∧ EvsS w2 vb ys) := Lib.hid ⟨(HK1.out.dag HJ.out HD'.out hc ht).1, hm.slice, fun y hy => (hx y hy).1⟩
  have HMB2 := Lib.hid (HK1.out.dag HJ.out HD'.out hc ht).2.1
  have HE2 := Lib.hid hev
  obtain ⟨Ab, cb, rfl, -⟩ := id hm.shape
  clear hm hto hx hev hc ht HQ
  have HXL : Hid (xs.length ≤ 1000) := Lib.hid (by
    have h1 := congrArg List.length HE1.out
    rw [evs_len, allL_len] at h1
    have := HLD.out
    omega)
  have HQ := Lib.hid (equalEvs_any CS (.slice Aa xs.length ca) (.slice Ab ys.length cb) xs ys w2 (HK2.out.1.is List.mem_cons_self) HK2.out.2 HXL.out)
  rw [HE1.out, HE2.out] at HQ
  go_wp2_with fail
  go_at_call 78
  refine HQ.out.mono ?_
  rintro e w3 ⟨rfl, hb⟩
  have HK3 := Lib.hid ((HK2.out.1.later hb).less (ts' := ts) (fun t ht => List.mem_cons_of_mem _ ht))
  have HMB3 : Hid (∀ (k : Nat) x, vs[k]? = some x → w3.heap[x.mb]? = wr.heap[x.mb]?) := Lib.hid (fun k x hx => (hb.block x.mb ((HK2.out.1.cv hx).old (.inr (.inl rfl)))).trans ((HMB2.out k x hx).trans (HMB1.out k x hx)))
  clear hb HQ
  go_wp2_with fail
  go_ret
  exact ⟨rfl, HK3.out, HMB3.out⟩

/-- While two maps are held against one another. -/
structure EqS (C : Dags) (w wr : World) (vs : List VI) (ts : List Th) (v u : VI) (r : Nat) (left : Lit → Bool) (cnt : Nat) : Prop where
  kv : Kv C w wr vs (Th.mark r :: ts)
  rg : wr.ranges Tryz.prog 9 heldR v.mb r v.ds.length v.D left cnt
  same : ∀ d ∈ v.ds, left (kl d.room) = false → ∃ d' ∈ u.ds, d'.room = d.room ∧ allL d.l = allL d'.l

set_option maxHeartbeats 3200000 in
theorem mapsEqual_any (CA : DagAlls C) (CS : DagSms C) (h : Kv C w wr vs ts) (hi : vs[i]? = some v) (hj : vs[j]? = some u) :
    Calls Tryz.prog 76 #[.map (some v.mb), .map (some u.mb), .func (.func 77) #[] #[]] wr fun e w' => e = .returned (.bool (sameV v.V u.V)) ∧ Kv C w w' vs ts := by
  obtain ⟨wb, hwb⟩ : ∃ wb, wb = wr := ⟨_, rfl⟩
  subst hwb
  have hcv := h.cv hi
  have hcu := h.cv hj
  have hlen1 : ∀ ty, (Builtin.len_ #[78] ty #[.map (some v.mb)]).run Tryz.prog wb = .ok (.int .i64 (v.ds.length : Int)) wb := fun ty => by
    rw [← hcv.is.size]
    exact World.ownsMap.len hcv.map Tryz.underlying78 ty
  have hlen2 : ∀ ty, (Builtin.len_ #[78] ty #[.map (some u.mb)]).run Tryz.prog wb = .ok (.int .i64 (u.ds.length : Int)) wb := fun ty => by
    rw [← hcu.is.size]
    exact World.ownsMap.len hcu.map Tryz.underlying78 ty
  have HTS : Hid (∀ t ∈ ts, ∀ k, t.P k → k < wb.heap.size) := Lib.hid (fun t ht k hk => t.lt wb k (h.is ht) hk)
  have HWB : Hid (w.heap.size ≤ wb.heap.size) := Lib.hid h.below.size
  have HSV := Lib.hid (sameV_iff hcv.ok.up hcu.ok.up)
  have HVL : Hid (v.V.length = v.ds.length ∧ u.V.length = u.ds.length) := Lib.hid ⟨List.length_map _, List.length_map _⟩
  have HI := Lib.hid hi
  have HJ := Lib.hid hj
  have HK0 := Lib.hid h
  by_cases hlen : v.ds.length = u.ds.length
  · have q0 : ((v.ds.length : Int) != (u.ds.length : Int)) = false := by rw [hlen]; exact bne_self_eq_false _
    have HL := Lib.hid hlen
    have hown := hcv.map
    have HDI : Hid (VdM v.D v.ds ∧ Up (v.ds.map DgI.room)) := Lib.hid ⟨hcv.is, hcv.up⟩
    clear hlen h hcv hcu
    go_enter Tryz.func76, Tryz.ntmps76
    go_wp2_with (first
      | (at_range; refine wpList_range_own _ rfl _ 78 rfl 9 76 keyed Tryz.underlying78 heldR v.mb v.ds.length v.D rfl hown ?_; intro w2 hrg2 hg2 hs2)
      | go_in)
    go_frame
    have HW0 : Hid (EqS C w w2 vs ts v u wb.heap.size (Maps.has v.D) (Maps.size v.D)) := Lib.hid (by
      have hb2 : Below wb.heap.size wb w2 := ⟨hg2.os, hg2.tape, hg2.output, hg2.size, fun k hk => hg2.block k hk (fun e => by cases e)⟩
      refine ⟨HK0.out.add (t := Th.mark wb.heap.size) hb2 (show wb.heap.size < w2.heap.size by omega) (fun k hk => .inl (Nat.le_of_eq hk.symm)), hrg2, fun d hd hh => ?_⟩
      have := (HDI.out.1.has_iff d.room).2 ⟨d, hd, rfl⟩
      rw [this] at hh
      cases hh)
    have hrb : wb.heap.size ≤ wb.heap.size := Nat.le_refl _
    generalize hr : wb.heap.size = r at HW0 hrb HTS HWB ⊢
    clear hrg2 hg2 hs2 hown hlen1 hlen2 HK0 hr
    go_loopw [7, 8, 9, 10] (fun _ _ _ _ wr' => ∃ (left : Lit → Bool) (cnt : Nat), Hid (EqS C w wr' vs ts v u r left cnt)) (fun _ _ _ _ wr' => wr'.rangeLeft v.mb r)
    case atStart => exact ⟨_, _, HW0⟩
    case round =>
      obtain ⟨left, cnt, HA⟩ := hrel
      clear HW0
      have hrg := HA.out.rg
      have hle0 := hrg.left_eq
      go_wp2_with (first
        | (at_next; refine wpList_next_ranges (α := ByteArray) (β := Value) _ rfl _ rfl 9 keyed heldR Value.string id (fun key kk hk => by obtain ⟨s, hs, -⟩ := key_inv hk; exact ⟨s, hs⟩) (fun v y _ => ⟨v, rfl⟩) v.mb r v.ds.length v.D left cnt rfl hrg ?_ ?_)
        | go_in)
      · intro hc0 hl0
        have HF : Hid (sameV v.V u.V = true) := Lib.hid (HSV.out.2 ⟨by rw [HVL.out.1, HVL.out.2, HL.out], fun p hp => by
          obtain ⟨d, hd, rfl⟩ := List.mem_map.1 hp
          obtain ⟨d', hd', h1, h2⟩ := HA.out.same d hd (hl0 _)
          exact ⟨d'.rl, List.mem_map.2 ⟨d', hd', rfl⟩, h1, h2⟩⟩)
        have HKE := Lib.hid (HA.out.kv.less (ts' := ts) (fun t ht => List.mem_cons_of_mem _ ht))
        clear hrg hle0
        go_wp2_with fail
        go_ret
        exact ⟨by rw [HF.out]; rfl, HKE.out⟩
      · intro x c kk ya yb w3 cnt1 hkey hlk hR hat hrg1 hlt hg1 hs1 hen
        obtain ⟨s, hxs, rfl, hsz⟩ := key_inv hkey
        injection hxs with hxs
        subst hxs
        obtain ⟨d, hd, hdr⟩ := (HDI.out.1.has_iff x).1 (Maps.has_true_of_atKey hat)
        subst hdr
        have hcv : c = d.ptr := by
          have h1 := hat (.held (.pointer none))
          rw [HDI.out.1.at_ HDI.out.2 hd] at h1
          unfold heldR at hR
          injection hR with hR
          injection hR with hR _
          rw [← hR] at h1
          injection h1 with h1
          exact h1.symm
        subst hcv
        have hrw : r < wr.heap.size := hrg.lt
        have HK3 : Hid (Kv C w w3 vs (Th.mark r :: ts)) := Lib.hid (HA.out.kv.put (t' := Th.mark r) hg1 (fun k hk => by
          injection hk with hk
          subst hk
          refine ⟨rfl, HWB.out, fun t ht hk' => ?_⟩
          have := HTS.out t ht r hk'
          omega) (show r < w3.heap.size by omega) (fun k hk => .inl hk))
        have HRG3 := Lib.hid hrg1
        have HD := Lib.hid hd
        have HSA := Lib.hid HA.out.same
        have hlook := (HK3.out.cv HJ.out).look d.room hsz
        clear hkey hlk hR hat hrg hg1 hrg1 hd HA
        try simp only [id] at hen
        unfold DgI.ptr at hen ⊢
        rcases hlook with ⟨hno, hlk⟩ | ⟨d', hd', hdr', hlk⟩
        · have HF : Hid (sameV v.V u.V = false) := Lib.hid (by
            rw [Bool.eq_false_iff]
            intro hh
            obtain ⟨q, hq, he, -⟩ := (HSV.out.1 hh).2 d.rl (List.mem_map.2 ⟨d, HD.out, rfl⟩)
            obtain ⟨d', hd', rfl⟩ := List.mem_map.1 hq
            exact hno ⟨d', hd', he⟩)
          have HKE := Lib.hid (HK3.out.less (ts' := ts) (fun t ht => List.mem_cons_of_mem _ ht))
          clear hno
          go_wp2_with fail
          go_ret
          exact ⟨by rw [HF.out]; rfl, HKE.out⟩
        · have hr3 : r < w3.heap.size := by omega
          have hbo : w3.heap[r]? = some w3.heap[r] := Array.getElem?_eq_getElem hr3
          generalize w3.heap[r] = o at hbo
          have HBO := Lib.hid hbo
          have HK3B : Hid (Kv C w w3 vs (Th.box r o :: Th.mark r :: ts)) := Lib.hid (HK3.out.with (t := Th.box r o) hbo (fun k hk jj x hx => (HK3.out.th _ List.mem_cons_self).2 jj x hx k hk))
          have HQ := Lib.hid (same1_any CA CS HK3B.out HI.out HJ.out HD.out hd')
          have HD' := Lib.hid hd'
          have HDR := Lib.hid hdr'
          generalize hsm : decide (allL d.l = allL d'.l) = sm at HQ
          have HSM := Lib.hid hsm
          clear hd' hdr' hsm hbo hr3
          go_wp2_with fail
          go_at_call 77
          refine HQ.out.mono ?_
          rintro e w4 ⟨rfl, hk4, hmb4⟩
          have HK4 := Lib.hid (hk4.less (ts' := Th.mark r :: ts) (fun t ht => List.mem_cons_of_mem _ ht))
          have HRG4 := Lib.hid (ranges_keep HRG3.out (hmb4 i v HI.out) ((show w4.heap[r]? = some o from hk4.is List.mem_cons_self).trans HBO.out.symm))
          clear hk4 hmb4 HQ hen hlk
          cases sm
          · have HF : Hid (sameV v.V u.V = false) := Lib.hid (by
              rw [Bool.eq_false_iff]
              intro hh
              obtain ⟨q, hq, he, ha⟩ := (HSV.out.1 hh).2 d.rl (List.mem_map.2 ⟨d, HD.out, rfl⟩)
              obtain ⟨d2, hd2, rfl⟩ := List.mem_map.1 hq
              have e2 : d2 = d' := up_keys (HK4.out.cv HJ.out).up hd2 HD'.out (show d2.room = d'.room from he.trans HDR.out.symm)
              rw [e2] at ha
              exact (of_decide_eq_false HSM.out) ha)
            have HKE := Lib.hid (HK4.out.less (ts' := ts) (fun t ht => List.mem_cons_of_mem _ ht))
            go_wp2_with fail
            go_ret
            exact ⟨by rw [HF.out]; rfl, HKE.out⟩
          · have HN : Hid (EqS C w w4 vs ts v u r (fun z => left z && !z.sameKey (kl d.room)) cnt1) := Lib.hid ⟨HK4.out, HRG4.out, fun d2 hd2 hh => by
              by_cases he : d2.room = d.room
              · have e2 : d2 = d := up_keys HDI.out.2 hd2 HD.out he
                subst e2
                exact ⟨d', HD'.out, HDR.out, of_decide_eq_true HSM.out⟩
              · rw [left_other he] at hh
                exact HSA.out d2 hd2 hh⟩
            go_wp2_with fail
            refine ⟨⟨_, cnt1, HN⟩, ?_⟩
            rw [HN.out.rg.left_eq, hle0]
            exact hlt
  · have q0 : ((v.ds.length : Int) != (u.ds.length : Int)) = true := by rw [bne_iff_ne]; omega
    have HF : Hid (sameV v.V u.V = false) := Lib.hid (by
      rw [Bool.eq_false_iff]
      intro hh
      have := (HSV.out.1 hh).1
      rw [HVL.out.1, HVL.out.2] at this
      exact hlen this)
    clear hlen h hcv hcu
    go_enter Tryz.func76, Tryz.ntmps76
    go_wp2_with fail
    go_ret
    exact ⟨by rw [HF.out]; rfl, HK0.out⟩

theorem viewSame_any (CA : DagAlls C) (CS : DagSms C) (h : Kv C w wr vs ts) (hi : vs[i]? = some v) (hj : vs[j]? = some u) :
    Calls Tryz.prog 44 #[.pointer (some ⟨v.g, 0, none⟩), .pointer (some ⟨u.g, 0, none⟩)] wr fun e w' => e = .returned (.bool (sameV v.V u.V)) ∧ Kv C w w' vs ts := by
  have c1 : wr.cell? ⟨v.g, 0, none⟩ = some (.map (some v.mb)) := cell_at (h.cv hi).hd 0
  have c2 : wr.cell? ⟨u.g, 0, none⟩ = some (.map (some u.mb)) := cell_at (h.cv hj).hd 0
  have HQ := Lib.hid (mapsEqual_any CA CS (h.later (below_drew wr)) hi hj)
  have HCV : Hid (∀ W, Kv C w W vs ts → W.cell? ⟨v.g, 0, none⟩ = some (.map (some v.mb)) ∧ W.cell? ⟨u.g, 0, none⟩ = some (.map (some u.mb))) := Lib.hid (fun W hk => ⟨cell_at (hk.cv hi).hd 0, cell_at (hk.cv hj).hd 0⟩)
  clear h hi hj
  go_enter Tryz.func44, Tryz.ntmps44
  go_upto_region 1 with (fail)
  refine wp_region_held_drew (S := fun W => W.cell? ⟨v.g, 0, none⟩ = some (.map (some v.mb)) ∧ W.cell? ⟨u.g, 0, none⟩ = some (.map (some u.mb))) (by kernel_rfl) ⟨c1, c2⟩ (fun hHeld => ?_)
  clear c1 c2
  generalize wr.drew = wd at hHeld HQ ⊢
  refine wpAnyH_take (i := 0) (oi := ⟨some 5, _, _, _, _, _⟩) (v := ?vq0) rfl (by kernel_rfl) (by kernel_rfl) (by kernel_rfl) (fun _ _ _ h => h) (Or.inl ⟨by rfl, ?yq0⟩) hHeld ?rq0
  case yq0 =>
    intro wx hSx
    go_simp
    try with_reducible rfl
  try simp only [Act.put, List.setIfInBounds_toArray, List.set_cons_zero, List.set_cons_succ]
  refine wpAnyH_take (i := 1) (oi := ⟨some 6, _, _, _, _, _⟩) (v := ?vq1) rfl (by kernel_rfl) (by kernel_rfl) (by kernel_rfl) (fun _ _ _ h => h) (Or.inl ⟨by rfl, ?yq1⟩) hHeld ?rq1
  case yq1 =>
    intro wx hSx
    go_simp
    try with_reducible rfl
  try simp only [Act.put, List.setIfInBounds_toArray, List.set_cons_zero, List.set_cons_succ]
  refine wpAnyH_take (i := 2) (oi := ⟨some 7, _, _, _, _, _⟩) (v := ?vq2) rfl (by kernel_rfl) (by kernel_rfl) (by kernel_rfl) (fun _ _ _ h => h) (Or.inl ⟨by rfl, ?yq2⟩) hHeld ?rq2
  case yq2 =>
    intro wx hSx
    go_simp
    try with_reducible rfl
  try simp only [Act.put, List.setIfInBounds_toArray, List.set_cons_zero, List.set_cons_succ]
  refine wpAnyH_take (i := 3) (oi := ⟨some 8, _, _, _, _, _⟩) (v := ?vq3) rfl (by kernel_rfl) (by kernel_rfl) (by kernel_rfl) (fun _ _ _ h => h) (Or.inl ⟨by rfl, ?yq3⟩) hHeld ?rq3
  case yq3 =>
    intro wx hSx
    have z : wx.cell? ⟨v.g, 0, none⟩ = some (.map (some v.mb)) := hSx.1
    go_simp
    try with_reducible rfl
  try simp only [Act.put, List.setIfInBounds_toArray, List.set_cons_zero, List.set_cons_succ]
  refine wpAnyH_take (i := 4) (oi := ⟨some 9, _, _, _, _, _⟩) (v := ?vq4) rfl (by kernel_rfl) (by kernel_rfl) (by kernel_rfl) (fun _ _ _ h => h) (Or.inl ⟨by rfl, ?yq4⟩) hHeld ?rq4
  case yq4 =>
    intro wx hSx
    go_simp
    try with_reducible rfl
  try simp only [Act.put, List.setIfInBounds_toArray, List.set_cons_zero, List.set_cons_succ]
  refine wpAnyH_take (i := 5) (oi := ⟨some 10, _, _, _, _, _⟩) (v := ?vq5) rfl (by kernel_rfl) (by kernel_rfl) (by kernel_rfl) (fun _ _ _ h => h) (Or.inl ⟨by rfl, ?yq5⟩) hHeld ?rq5
  case yq5 =>
    intro wx hSx
    go_simp
    try with_reducible rfl
  try simp only [Act.put, List.setIfInBounds_toArray, List.set_cons_zero, List.set_cons_succ]
  refine wpAnyH_take (i := 6) (oi := ⟨some 11, _, _, _, _, _⟩) (v := ?vq6) rfl (by kernel_rfl) (by kernel_rfl) (by kernel_rfl) (fun _ _ _ h => h) (Or.inl ⟨by rfl, ?yq6⟩) hHeld ?rq6
  case yq6 =>
    intro wx hSx
    go_simp
    try with_reducible rfl
  try simp only [Act.put, List.setIfInBounds_toArray, List.set_cons_zero, List.set_cons_succ]
  refine wpAnyH_take (i := 7) (oi := ⟨some 12, _, _, _, _, _⟩) (v := ?vq7) rfl (by kernel_rfl) (by kernel_rfl) (by kernel_rfl) (fun _ _ _ h => h) (Or.inl ⟨by rfl, ?yq7⟩) hHeld ?rq7
  case yq7 =>
    intro wx hSx
    have z : wx.cell? ⟨u.g, 0, none⟩ = some (.map (some u.mb)) := hSx.2
    go_simp
    try with_reducible rfl
  try simp only [Act.put, List.setIfInBounds_toArray, List.set_cons_zero, List.set_cons_succ]
  refine wpAnyH_ready (rs := [8]) (by kernel_rfl) (by simp) ?_
  refine AllReadyH.cons (o := ⟨some 13, _, _, _, _, _⟩) rfl (fun K hK => ?_) AllReadyH.nil
  go_simp
  refine HQ.out.mono ?_
  rintro e wn ⟨rfl, hkn⟩
  have HKN := Lib.hid hkn
  refine hK.out _ _ (HCV.out _ hkn) (fun hHeld => ?_)
  clear hK K hkn
  try simp only [Act.put, List.setIfInBounds_toArray, List.set_cons_zero, List.set_cons_succ]
  refine wpAnyH_take (i := 9) (oi := ⟨some 4, _, _, _, _, _⟩) (v := ?vq9) rfl (by kernel_rfl) (by kernel_rfl) (by kernel_rfl) (fun _ _ _ h => h) (Or.inl ⟨by rfl, ?yq9⟩) hHeld ?rq9
  case yq9 =>
    intro wx hSx
    go_simp
    try with_reducible rfl
  try simp only [Act.put, List.setIfInBounds_toArray, List.set_cons_zero, List.set_cons_succ]
  refine wpAnyH_done (by kernel_rfl) ?_ _
  go_wp2_with fail
  go_ret
  exact ⟨rfl, HKN.out⟩
end
end Go.Proofs.YtjiecjpepiknmaaGreat
