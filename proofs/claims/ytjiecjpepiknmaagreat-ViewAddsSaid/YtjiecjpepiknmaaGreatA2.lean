/-
  Package view, asked.
-/
import Derived.Test.YtjiecjpepiknmaaGreatV1
import Derived.Test.YtjiecjpepiknmaaGreatM9B
import Derived.Test.YtjiecjpepiknmaaGreatC5
namespace Go.Proofs.YtjiecjpepiknmaaGreat
set_option maxRecDepth 20000
open Go.RowKit Go.Maps Go.ChangeMaps
set_option linter.unusedVariables false
set_option linter.unusedSimpArgs false
section
variable {C : Dags} {w wr w' : World} {vs : List VI} {ts : List Th} {v : VI} {i : Nat}
theorem CVs.of100 (h : CVs C w v) (r : ByteArray) : (ofL v.V r).length ≤ 100 := (h.ok.of_ r).2
/-- A told thing: kept beside, and new. -/
def KvT (C : Dags) (w wr w' : World) (vs : List VI) (ts : List Th) (t : Th) : Prop := Kv C w w' vs (t :: ts) ∧ ∀ k, t.P k → wr.heap.size ≤ k
theorem Kd.told {gd : Nat} {room : ByteArray} {l : List Ev} {t : Th} {wb : World} (h : Kd C w wr vs ts gd room l) (hc : C.CD w' gd room l) (ht : TurnD C.own wr w' gd) (hI : t.I w') (hP : ∀ k, t.P k → wr.heap.size ≤ k ∧ ¬ C.own w' gd k) (hb : wb.heap.size ≤ wr.heap.size) : KvT C w wb w' vs ts t := by
  obtain ⟨h1, h2⟩ := h.step hc ht
  exact ⟨h1.kv.with hI (fun k hk => h2 k (hP k hk).1 (hP k hk).2), fun k hk => Nat.le_trans hb (hP k hk).1⟩
theorem DagOf.size {gd : Nat} {room : ByteArray} (hd : DagOf C wr w' v gd room) : wr.heap.size ≤ w'.heap.size := by
  rcases hd with ⟨d, -, -, -, rfl⟩ | ⟨-, -, hb, -⟩
  · exact Nat.le_refl _
  · exact hb.size

set_option maxHeartbeats 800000 in
theorem viewUsers_any (CA : DagAlls C) (h : Kv C w wr vs ts) (hi : vs[i]? = some v) (room : ByteArray) (hr : room.size ≤ 40) : Calls Tryz.prog 27 #[.pointer (some ⟨v.g, 0, none⟩), .string room] wr fun e w' => ∃ v', e = .returned v' ∧ KvT C w wr w' vs ts (Th.row LT v' (usersL (ofL v.V room))) := by
  have hl := (h.cv hi).of100 room
  have HQ := Lib.hid (dagOf_any h hi room hr)
  have HK := Lib.hid h
  have HI := Lib.hid hi
  clear h hi
  go_enter Tryz.func27, Tryz.ntmps27
  go_wp2_with fail
  go_at_call 52
  refine HQ.out.mono ?_
  rintro e w1 ⟨gd, rfl, hd⟩
  have HKD := Lib.hid (hd.kd HK.out HI.out)
  have HSZ : Hid (wr.heap.size ≤ w1.heap.size) := Lib.hid hd.size
  have HC := Lib.hid (memUsers_any C CA HKD.out.code hl)
  clear hd HQ
  go_wp2_with fail
  go_at_call 65
  refine HC.out.mono ?_
  rintro e w2 ⟨v', rfl, hm, hto, hc, ht⟩
  have HT : Hid (KvT C w wr w2 vs ts (Th.row LT v' (usersL (ofL v.V room)))) := Lib.hid (HKD.out.told (wb := wr) hc ht hm.slice (fun k hk => ⟨(hm.lt k hk.2).1, hto k hk.2⟩) HSZ.out)
  obtain ⟨A', c', rfl, -⟩ := id hm.shape
  clear hm hto hc ht HC
  go_wp2_with fail
  go_ret
  exact ⟨_, rfl, HT.out⟩

set_option maxHeartbeats 800000 in
theorem viewServers_any (CA : DagAlls C) (h : Kv C w wr vs ts) (hi : vs[i]? = some v) (room : ByteArray) (hr : room.size ≤ 40) : Calls Tryz.prog 29 #[.pointer (some ⟨v.g, 0, none⟩), .string room] wr fun e w' => ∃ v', e = .returned v' ∧ KvT C w wr w' vs ts (Th.row LT v' (serversL (ofL v.V room))) := by
  have hl := (h.cv hi).of100 room
  have HQ := Lib.hid (dagOf_any h hi room hr)
  have HK := Lib.hid h
  have HI := Lib.hid hi
  clear h hi
  go_enter Tryz.func29, Tryz.ntmps29
  go_wp2_with fail
  go_at_call 52
  refine HQ.out.mono ?_
  rintro e w1 ⟨gd, rfl, hd⟩
  have HKD := Lib.hid (hd.kd HK.out HI.out)
  have HSZ : Hid (wr.heap.size ≤ w1.heap.size) := Lib.hid hd.size
  have HC := Lib.hid (memServers_any C CA HKD.out.code hl)
  clear hd HQ
  go_wp2_with fail
  go_at_call 68
  refine HC.out.mono ?_
  rintro e w2 ⟨v', rfl, hm, hto, hc, ht⟩
  have HT : Hid (KvT C w wr w2 vs ts (Th.row LT v' (serversL (ofL v.V room)))) := Lib.hid (HKD.out.told (wb := wr) hc ht hm.slice (fun k hk => ⟨(hm.lt k hk.2).1, hto k hk.2⟩) HSZ.out)
  obtain ⟨A', c', rfl, -⟩ := id hm.shape
  clear hm hto hc ht HC
  go_wp2_with fail
  go_ret
  exact ⟨_, rfl, HT.out⟩

set_option maxHeartbeats 800000 in
theorem viewHeads_any (CH : DagHds C) (h : Kv C w wr vs ts) (hi : vs[i]? = some v) (room : ByteArray) (hr : room.size ≤ 40) : Calls Tryz.prog 18 #[.pointer (some ⟨v.g, 0, none⟩), .string room] wr fun e w' => ∃ v', e = .returned v' ∧ KvT C w wr w' vs ts (Th.row LT v' (headsL (ofL v.V room))) := by
  have hl := (h.cv hi).of100 room
  have HQ := Lib.hid (dagOf_any h hi room hr)
  have HK := Lib.hid h
  have HI := Lib.hid hi
  clear h hi
  go_enter Tryz.func18, Tryz.ntmps18
  go_wp2_with fail
  go_at_call 52
  refine HQ.out.mono ?_
  rintro e w1 ⟨gd, rfl, hd⟩
  have HKD := Lib.hid (hd.kd HK.out HI.out)
  have HSZ : Hid (wr.heap.size ≤ w1.heap.size) := Lib.hid hd.size
  have HC := Lib.hid (CH.heads HKD.out.code hl)
  clear hd HQ
  go_wp2_with fail
  go_at_call 59
  refine HC.out.mono ?_
  rintro e w2 ⟨v', rfl, hm, hto, hc, ht⟩
  have HT : Hid (KvT C w wr w2 vs ts (Th.row LT v' (headsL (ofL v.V room)))) := Lib.hid (HKD.out.told (wb := wr) hc ht hm.slice (fun k hk => ⟨(hm.lt k hk.2).1, hto k hk.2⟩) HSZ.out)
  obtain ⟨A', c', rfl, -⟩ := id hm.shape
  clear hm hto hc ht HC
  go_wp2_with fail
  go_ret
  exact ⟨_, rfl, HT.out⟩

set_option maxHeartbeats 800000 in
theorem viewJoined_any (CA : DagAlls C) (h : Kv C w wr vs ts) (hi : vs[i]? = some v) (room : ByteArray) (hr : room.size ≤ 40) (u : ByteArray) (hu : u.size ≤ maxLen) : Calls Tryz.prog 31 #[.pointer (some ⟨v.g, 0, none⟩), .string room, .string u] wr fun e w' => e = .returned (.bool (joinL (ofL v.V room) u)) ∧ Kv C w w' vs ts := by
  have hl := (h.cv hi).of100 room
  have HQ := Lib.hid (dagOf_any h hi room hr)
  have HK := Lib.hid h
  have HI := Lib.hid hi
  clear h hi
  go_enter Tryz.func31, Tryz.ntmps31
  go_wp2_with fail
  go_at_call 52
  refine HQ.out.mono ?_
  rintro e w1 ⟨gd, rfl, hd⟩
  have HKD := Lib.hid (hd.kd HK.out HI.out)
  have HSZ : Hid (wr.heap.size ≤ w1.heap.size) := Lib.hid hd.size
  have HC := Lib.hid (memJoined_any C CA u HKD.out.code hl hu)
  clear hd HQ
  go_wp2_with fail
  go_at_call 70
  refine HC.out.mono ?_
  rintro e w2 ⟨rfl, hc, ht⟩
  have HT := Lib.hid (HKD.out.step hc ht).1.kv
  clear hc ht HC
  go_wp2_with fail
  go_ret
  exact ⟨rfl, HT.out⟩

set_option maxHeartbeats 800000 in
theorem viewIn_any (CA : DagAlls C) (h : Kv C w wr vs ts) (hi : vs[i]? = some v) (room : ByteArray) (hr : room.size ≤ 40) (u : ByteArray) : Calls Tryz.prog 34 #[.pointer (some ⟨v.g, 0, none⟩), .string room, .string u] wr fun e w' => e = .returned (.bool (hasL (serversL (ofL v.V room)) u)) ∧ Kv C w w' vs ts := by
  have hl := (h.cv hi).of100 room
  have HQ := Lib.hid (dagOf_any h hi room hr)
  have HK := Lib.hid h
  have HI := Lib.hid hi
  clear h hi
  go_enter Tryz.func34, Tryz.ntmps34
  go_wp2_with fail
  go_at_call 52
  refine HQ.out.mono ?_
  rintro e w1 ⟨gd, rfl, hd⟩
  have HKD := Lib.hid (hd.kd HK.out HI.out)
  have HSZ : Hid (wr.heap.size ≤ w1.heap.size) := Lib.hid hd.size
  have HC := Lib.hid (memIn_any C CA u HKD.out.code hl)
  clear hd HQ
  go_wp2_with fail
  go_at_call 71
  refine HC.out.mono ?_
  rintro e w2 ⟨rfl, hc, ht⟩
  have HT := Lib.hid (HKD.out.step hc ht).1.kv
  clear hc ht HC
  go_wp2_with fail
  go_ret
  exact ⟨rfl, HT.out⟩

set_option maxHeartbeats 800000 in
theorem viewEvents_any (CA : DagAlls C) (h : Kv C w wr vs ts) (hi : vs[i]? = some v) (room : ByteArray) (hr : room.size ≤ 40) : Calls Tryz.prog 15 #[.pointer (some ⟨v.g, 0, none⟩), .string room] wr fun e w' => ∃ v', e = .returned v' ∧ ∃ ys, evs ys = allL (ofL v.V room) ∧ KvT C w wr w' vs ts (Th.evs v' ys) := by
  have hl := (h.cv hi).of100 room
  have HQ := Lib.hid (dagOf_any h hi room hr)
  have HK := Lib.hid h
  have HI := Lib.hid hi
  clear h hi
  go_enter Tryz.func15, Tryz.ntmps15
  go_wp2_with fail
  go_at_call 52
  refine HQ.out.mono ?_
  rintro e w1 ⟨gd, rfl, hd⟩
  have HKD := Lib.hid (hd.kd HK.out HI.out)
  have HSZ : Hid (wr.heap.size ≤ w1.heap.size) := Lib.hid hd.size
  have HC := Lib.hid (CA.all HKD.out.code hl)
  clear hd HQ
  go_wp2_with fail
  go_at_call 56
  refine HC.out.mono ?_
  rintro e w2 ⟨v', rfl, ys, hm, hto, hy, hev, hc, ht⟩
  have HT : Hid (KvT C w wr w2 vs ts (Th.evs v' ys)) := Lib.hid (HKD.out.told (wb := wr) hc ht ⟨hm.slice, fun y hyy => (hy y hyy).1⟩ (fun k hk => by
    rcases hk with ⟨h0, hk⟩ | ⟨y, hyy, hk⟩
    · exact ⟨(hm.lt k hk).1, hto k hk⟩
    · exact ⟨((hy y hyy).2.1.lt k hk.2).1, (hy y hyy).2.2 k hk.2⟩) HSZ.out)
  have HEV := Lib.hid hev
  obtain ⟨A', c', rfl, -⟩ := id hm.shape
  clear hm hto hc ht HC hy hev
  go_wp2_with fail
  go_ret
  exact ⟨_, rfl, ys, HEV.out, HT.out⟩

theorem po_at {W : World} {B : Nat} {cs : Array Value} {t : TypeId} (hr : W.heap[B]? = some (.cells cs t (0, 0))) (a0 a1 : Value) (hs : cs.size = 2) :
    ∀ W', W' = W.setCells B 0 [a0, a1] → W'.heap[B]? = some (.cells #[a0, a1] t (0, 0)) ∧ W.grownBy W' (some B) := by
  rintro W' rfl
  obtain ⟨cur, z1, z2, z3⟩ := sm_at B t [a0, a1] 0 W _ hr (by rw [hs]; exact Nat.le_refl 2)
  have hl : cs.toList.length = 2 := hs
  have z4 : cur.toList = [a0, a1] := by
    rw [z3, List.take_zero, List.nil_append, List.drop_of_length_le (by rw [hl]; exact Nat.le_refl _), List.append_nil]
  have z5 : cur = #[a0, a1] := Array.toList_inj.1 z4
  rw [z1, z5]
  exact ⟨rfl, sm_grown W B 0 _⟩

set_option maxHeartbeats 800000 in
theorem viewPosition_any (h : Kv C w wr vs ts) (hi : vs[i]? = some v) (room id : ByteArray) (hr : room.size ≤ 40) (hu : id.size ≤ maxLen) : Calls Tryz.prog 24 #[.pointer (some ⟨v.g, 0, none⟩), .string room, .string id] wr fun e w' => ∃ p : Po, e = .returned (.tuple #[p.val, .bool (hasE (ofL v.V room) id)]) ∧ p = (bif hasE (ofL v.V room) id then posL (ofL v.V room) id else ⟨0, ⟨#[]⟩⟩) ∧ Kv C w w' vs ts := by
  have hl := (h.cv hi).of100 room
  have HTS : Hid (∀ t ∈ ts, ∀ k, t.P k → k ≠ wr.heap.size) := Lib.hid (fun t ht k hk => by have := t.lt wr k (h.is ht) hk; omega)
  have hlow := h.below.size
  have HK := Lib.hid (show Kv C w (wr.alloc (.cells #[.int .i64 0, .string ⟨#[]⟩] 55)) vs (Th.box wr.heap.size (.cells #[.int .i64 0, .string ⟨#[]⟩] 55 (0, 0)) :: ts) from h.add (below_new wr _) (heap_alloc_new wr _) (fun k hk => .inl (Nat.le_of_eq hk.symm)))
  have HI := Lib.hid hi
  clear h
  go_enter Tryz.func24, Tryz.ntmps24
  go_upto_region 1 with (fail)
  generalize wr.alloc _ = w0 at HK ⊢
  generalize wr.heap.size = B at HK HTS hlow ⊢
  have HQ := Lib.hid (dagOf_any HK.out hi room hr)
  clear hi
  go_wp2_with fail
  go_at_call 52
  refine HQ.out.mono ?_
  rintro e w1 ⟨gd, rfl, hd⟩
  have HKD := Lib.hid (hd.kd HK.out HI.out)
  have HC := Lib.hid (C.position id HKD.out.code hl hu)
  clear hd HQ HK
  go_wp2_with fail
  go_at_call 62
  refine HC.out.mono ?_
  rintro e w2 ⟨p, rfl, hp1, hp0, hc, ht⟩
  have HT := Lib.hid (HKD.out.step hc ht).1.kv
  have HP : Hid (p = (bif hasE (ofL v.V room) id then posL (ofL v.V room) id else ⟨0, ⟨#[]⟩⟩)) := Lib.hid (by
    cases hh : hasE (ofL v.V room) id
    · exact hp0 hh
    · exact hp1 hh)
  generalize hhb : hasE (ofL v.V room) id = hb at HP ⊢
  have HHB := Lib.hid hhb
  clear hhb
  clear hc ht HC HKD hp1 hp0
  have HB2 := Lib.hid (HT.out.is List.mem_cons_self)
  have r0 : w2.cell? ⟨B, 0, none⟩ = some (.int .i64 0) := cell_at HB2.out 0
  have r1 : w2.cell? ⟨B, 1, none⟩ = some (.string ⟨#[]⟩) := cell_at HB2.out 1
  have z0 : w2.frozen? ⟨B, 0, none⟩ = false := free_at HB2.out 0
  have z1 : w2.frozen? ⟨B, 1, none⟩ = false := free_at HB2.out 1
  have HAN := Lib.hid (po_at HB2.out (.int .i64 p.depth) (.string p.id) rfl _ rfl)
  simp only [World.setCells] at HAN
  unfold Po.val
  go_wp2_with fail
  clear r0 r1 z0 z1
  generalize World.setCell _ _ _ = w9 at HAN ⊢
  have HK9 := Lib.hid (HT.out.put (t' := Th.box B (.cells #[.int .i64 p.depth, .string p.id] 55 (0, 0))) HAN.out.2 (fun k hk => by
    injection hk with hk
    subst hk
    exact ⟨rfl, hlow, fun u hu e => HTS.out u hu _ e rfl⟩) HAN.out.1 (fun k hk => .inl hk))
  have s0 : w9.cell? ⟨B, 0, none⟩ = some (.int .i64 p.depth) := cell_at HAN.out.1 0
  have s1 : w9.cell? ⟨B, 1, none⟩ = some (.string p.id) := cell_at HAN.out.1 1
  refine bodyPost_ret (v := .tuple #[.agg #[.int .i64 p.depth, .string p.id], .bool hb]) ?_ rfl ?_
  · simp [results, Tryz.results24, go_sem, s0, s1]
  · exact ⟨p, by rw [HHB.out]; rfl, by rw [HHB.out]; exact HP.out, HK9.out.less (fun t ht => List.mem_cons_of_mem _ ht)⟩
end
end Go.Proofs.YtjiecjpepiknmaaGreat
