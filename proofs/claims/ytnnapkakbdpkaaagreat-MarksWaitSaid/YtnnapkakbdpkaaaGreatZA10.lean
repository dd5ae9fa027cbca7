/-
  What the statements stand on, part ZA10.
-/
import Derived.Test.YtnnapkakbdpkaaaGreatZA9
set_option linter.unusedVariables false
set_option linter.unusedSimpArgs false
namespace Go.Proofs.YtnnapkakbdpkaaaGreat
set_option maxRecDepth 20000
open Go.RowKit
def CDc (w : World) (g : Nat) (room : ByteArray) (l : List Ev) : Prop := ∃ mb ns D, DgS w g room mb ns D ∧ nevs ns = l
theorem new40_any (w : World) (room : ByteArray) (hs : room.size ≤ 40) : Calls Tryz.prog 75 #[.string room] w fun e w' => ∃ g, e = .returned (.pointer (some ⟨g, 0, none⟩)) ∧ CDc w' g room [] ∧ Below w.heap.size w w' ∧ ∀ k, ownC w' g k → w.heap.size ≤ k := by
 have hmm := @run_makeMap Tryz.prog
 have HC := Lib.hid (fun W => clone_any room W (by omega))
 go_enter Tryz.func75, Tryz.ntmps75
 go_wp2_with fail
 go_at_call 81
 refine (HC.out _).mono ?_
 rintro e w1 ⟨rfl, b1⟩
 have hle := b1.size
 go_wp2_with fail
 go_ret
 have h0 := World.ownsMap_made (H := Value) w1 Tryz.prog 9 heldR
 have h1 : DgS ((w1.alloc (.map #[] 0)).alloc (.cells #[.string room, .map (some w1.heap.size)] 157)) (w1.heap.size + 1) room w1.heap.size [] (.map []) := by
  refine ⟨?_, h0.alloc _, NdM.nil, fun n hn => (by cases hn), rfl, valid_nil room, hs⟩
  have := heap_alloc_new (w1.alloc (.map #[] 0)) (.cells #[.string room, .map (some w1.heap.size)] 157)
  rw [show (w1.alloc (.map #[] 0)).heap.size = w1.heap.size + 1 by simp] at this
  exact this
 refine ⟨w1.heap.size + 1, rfl, ⟨_, _, _, h1, rfl⟩, b1.trans ((((Below.refl w1.heap.size w1).alloc (Nat.le_refl _) _).alloc (by simp) _).mono hle), fun k hk => ?_⟩
 rcases (h1.own k).1 hk with e | e | ⟨n, hn, _⟩
 ·omega
 ·omega
 ·cases hn
theorem new_any (w : World) (room : ByteArray) (hr : namedB 33 room = true) : Calls Tryz.prog 75 #[.string room] w fun e w' => ∃ g, e = .returned (.pointer (some ⟨g, 0, none⟩)) ∧ CDc w' g room [] ∧ Below w.heap.size w w' ∧ ∀ k, ownC w' g k → w.heap.size ≤ k := new40_any w room (named_size hr)
section
variable {w w' : World} {g mb : Nat} {room : ByteArray} {ns : List NdV} {D : Dv}
theorem DgS.depth (h : DgS w g room mb ns D) {n : NdV} (hn : n ∈ ns) : n.d = depthL (nevs ns) n.x.ev.id := by
 obtain ⟨i, hi, he⟩ := List.getElem_of_mem hn
 have hl : (nevs ns)[i]? = some n.x.ev := by rw [List.getElem?_map, List.getElem?_eq_getElem hi, he]; rfl
 have hx : idx (nevs ns) n.x.ev.id = some i := by
  cases hh : idx (nevs ns) n.x.ev.id with
  | none =>
   have : hasE (nevs ns) n.x.ev.id = true := has_iff.2 ⟨n.x.ev, List.mem_of_getElem? hl, rfl⟩
   unfold hasE at this
   rw [hh] at this
   cases this
  | some j =>
   obtain ⟨y, hy, hyi, hno⟩ := idx_some hh
   have hnd := h.ids
   rw [List.nodup_iff_pairwise_ne, List.pairwise_map, List.pairwise_iff_getElem] at hnd
   obtain ⟨hj, hj2⟩ := List.getElem?_eq_some_iff.1 hy
   obtain ⟨hi', hi2⟩ := List.getElem?_eq_some_iff.1 hl
   rcases Nat.lt_trichotomy i j with hlt | hlt | hlt
   ·exact absurd (by rw [hi2, hj2, hyi]) (hnd i j hi' hj hlt)
   ·rw [hlt]
   ·exact absurd (by rw [hi2, hj2, hyi]) (hnd j i hj hi' hlt)
 unfold depthL
 rw [hx]
 simp only
 rw [← h.dep, List.getD_eq_getElem?_getD, List.getElem?_map, List.getElem?_eq_getElem hi, he]
 rfl
theorem DgS.look0 (h : DgS w g room mb ns D) (k : ByteArray) (hk : k.size ≤ maxLen) (hh : hasE (nevs ns) k = true) : ∃ n ∈ ns, n.x.ev.id = k ∧ (Instr.lookup 155 (.map (some mb)) (.string k) false).run Tryz.prog w = .ok n.val w := by
 obtain ⟨v, ps, hr, hv⟩ := World.ownsMap.lookup h.map keyed Tryz.underlying155 (zeroIs w) (zd := .held zeroN) (zp := []) rfl (keyIs hk)
 obtain ⟨e, hm, he⟩ := has_iff.1 hh
 obtain ⟨n, hn, rfl⟩ := List.mem_map.1 hm
 refine ⟨n, hn, he, ?_⟩
 rw [← he, h.is.at_ h.ids hn] at hv
 injection hv with hv
 injection hv with hv _
 injection hv with hv
 rw [hr, hv]
theorem field_depth (n : NdV) (W : World) : (Instr.field 161 n.val 1).run Tryz.prog W = .ok (.int .i64 (n.d : Int)) W := by
 unfold NdV.val
 kernel_rfl
theorem DgS.lookN (h : DgS w g room mb ns D) (k : ByteArray) (hk : k.size ≤ maxLen) (hh : hasE (nevs ns) k = false) : (Instr.lookup 155 (.map (some mb)) (.string k) true).run Tryz.prog w = .ok (.tuple #[zeroN, .bool false]) w := by
 rcases h.look k hk true with ⟨_, hr⟩ | ⟨h9, _⟩
 ·exact hr
 ·rw [hh] at h9; cases h9
theorem DgS.lookY (h : DgS w g room mb ns D) {n : NdV} (hn : n ∈ ns) {k : ByteArray} (hk : k.size ≤ maxLen) (he : n.x.ev.id = k) : (Instr.lookup 155 (.map (some mb)) (.string k) true).run Tryz.prog w = .ok (.tuple #[n.val, .bool true]) w := by
 have hh : hasE (nevs ns) k = true := has_iff.2 ⟨n.x.ev, List.mem_map.2 ⟨n, hn, rfl⟩, he⟩
 rcases h.look k hk true with ⟨h9, _⟩ | ⟨_, n', hn', he', hr⟩
 ·rw [hh] at h9; cases h9
 ·have hv := h.is.at_ h.ids hn (.held zeroN)
  have hv' := h.is.at_ h.ids hn' (.held zeroN)
  rw [he] at hv
  rw [he', hv] at hv'
  injection hv' with hv'
  rw [hr, hv']
def dpTo (l : List Ev) (ps : List ByteArray) (a : Nat) : Nat := (ps.take a).foldl (fun m p => max m (depthL l p + 1)) 0
theorem dpTo_succ {l : List Ev} {ps : List ByteArray} {a : Nat} {p : ByteArray} (h : ps[a]? = some p) : dpTo l ps (a + 1) = max (dpTo l ps a) (depthL l p + 1) := by
 unfold dpTo
 rw [List.take_add_one, h, List.foldl_append]
 rfl
theorem dpTo_all {l : List Ev} {e : Ev} (h : ∀ p ∈ e.parents, hasE l p = true) : dpTo l e.parents e.parents.length = depE l (deps l) e := by
 unfold dpTo depE
 rw [List.take_length]
 have : ∀ (ps : List ByteArray) (m : Nat), (∀ p ∈ ps, hasE l p = true) → ps.foldl (fun m p => max m (depthL l p + 1)) m = ps.foldl (fun m p => max m ((deps l).getD ((idx l p).getD 0) 0 + 1)) m := by
  intro ps
  induction ps with
  | nil => intro m _; rfl
  | cons p r ih =>
   intro m hp
   rw [List.foldl_cons, List.foldl_cons, ih _ (fun q hq => hp q (List.mem_cons_of_mem _ hq))]
   have h1 := hp p List.mem_cons_self
   unfold hasE at h1
   obtain ⟨i, hi⟩ := Option.isSome_iff_exists.1 h1
   have : depthL l p = (deps l).getD ((idx l p).getD 0) 0 := by
    unfold depthL
    rw [hi]
    rfl
   rw [this]
 exact this _ _ h
theorem dpTo_le {l : List Ev} {M : Nat} (h : ∀ k, depthL l k ≤ M) (ps : List ByteArray) (a : Nat) : dpTo l ps a ≤ M + 1 := by
 unfold dpTo
 have : ∀ (qs : List ByteArray) (m : Nat), m ≤ M + 1 → qs.foldl (fun m p => max m (depthL l p + 1)) m ≤ M + 1 := by
  intro qs
  induction qs with
  | nil => intro m hm; exact hm
  | cons q r ih =>
   intro m hm
   rw [List.foldl_cons]
   refine ih _ ?_
   have := h q
   omega
 exact this _ _ (Nat.zero_le _)
theorem nd_stored {wr : World} {B : Nat} {cs : Array Value} {t : TypeId} (hr : wr.heap[B]? = some (.cells cs t (0, 0))) (a0 a1 a2 a3 a4 a5 a6 : Value) (hs : cs.size = 7) :
  ∀ W, W = wr.setCells B 0 [a0, a1, a2, a3, a4, a5, a6] → W.heap[B]? = some (.cells #[a0, a1, a2, a3, a4, a5, a6] t (0, 0)) ∧ wr.grownBy W (some B) := by
 rintro W rfl
 obtain ⟨cur, z1, z2, z3⟩ := sm_at B t [a0, a1, a2, a3, a4, a5, a6] 0 wr _ hr (by rw [hs]; exact Nat.le_refl 7)
 have hl : cs.toList.length = 7 := hs
 have z4 : cur.toList = [a0, a1, a2, a3, a4, a5, a6] := by
  rw [z3, List.take_zero, List.nil_append, List.drop_of_length_le (by rw [hl]; exact Nat.le_refl _), List.append_nil]
 have z5 : cur = #[a0, a1, a2, a3, a4, a5, a6] := Array.toList_inj.1 z4
 rw [z1, z5]
 exact ⟨rfl, sm_grown wr B 0 _⟩
theorem depthL_le (l : List Ev) (k : ByteArray) : depthL l k ≤ l.length := by
 unfold depthL
 cases h : idx l k with
 | none => exact Nat.zero_le _
 | some i =>
  simp only
  rw [List.getD_eq_getElem?_getD]
  cases hd : (deps l)[i]? with
  | none => exact Nat.zero_le _
  | some d => exact deps_le l d (List.mem_of_getElem? hd)
set_option maxHeartbeats 1600000 in
theorem depthBehind_any (h : DgS w g room mb ns D) (v : Value) (ps : List ByteArray) (hv : LT.Slice w v ps) (hp : ∀ p ∈ ps, p.size ≤ maxLen ∧ hasE (nevs ns) p = true) (hl : ns.length ≤ 1000000) :
  Calls Tryz.prog 80 #[.pointer (some ⟨g, 0, none⟩), v] w fun e w' => e = .returned (.int .i64 ((dpTo (nevs ns) ps ps.length : Nat) : Int)) ∧ w' = w := by
 have HD := Lib.hid h
 have HV := Lib.hid hv
 have HP := Lib.hid hp
 have c1 := h.c1
 obtain ⟨A, cap, rfl, h5, hm, -⟩ := id hv
 have hm1 : cap ≤ 9223372036854775807 := by unfold maxLen at hm; omega
 have HLE : Hid (∀ k, depthL (nevs ns) k ≤ 1000000) := Lib.hid (fun k => Nat.le_trans (depthL_le _ k) (by rw [List.length_map]; exact hl))
 clear h hv hp hm
 go_enter Tryz.func80, Tryz.ntmps80
 go_wp2_with fail
 go_loopw [5, 10] (fun u i wr => wr = w ∧ ∃ (a : Nat), u = .int .i64 ((dpTo (nevs ns) ps a : Nat) : Int) ∧ i = .int .i64 (a : Int) ∧ a ≤ ps.length) (fun _ i _ => ps.length - (intOf i).toNat)
 case atStart => exact ⟨rfl, 0, rfl, rfl, Nat.zero_le _⟩
 case round =>
  obtain ⟨rfl, a, rfl, rfl, ha⟩ := hrel
  by_cases hlt : a < ps.length
  ·have q1 : decide ((a : Int) < (ps.length : Int)) = true := decide_eq_true (by omega)
   have hp : ps[a]? = some ps[a] := List.getElem?_eq_getElem hlt
   generalize ps[a] = p at hp
   obtain ⟨hp1, hp2⟩ := HP.out p (List.mem_of_getElem? hp)
   obtain ⟨n, hn, he, hr⟩ := HD.out.look0 p hp1 hp2
   have HDP : Hid (depthL (nevs ns) p = n.d) := Lib.hid (by rw [← he]; exact (HD.out.depth hn).symm)
   have hnd : n.d ≤ 1000000 := by rw [← HDP.out]; exact HLE.out p
   have HTS := Lib.hid (dpTo_succ (l := nevs ns) hp)
   have hm2 := dpTo_le HLE.out ps a
   generalize dpTo (nevs ns) ps a = m at HTS hm2 ⊢
   obtain ⟨bp, op, rfl, hbp, hcp⟩ := text_at HV.out hp
   have hip := index_any (P := Tryz.prog) knT (by decide) (b := bp) (off := op) (cap := cap) hlt
   simp only [LT] at hip
   rw [Nat.mul_one] at hip
   unfold NdV.val EvV.pv at hr
   clear hp hp1 hp2 hn he
   have hfl := field_depth n
   unfold NdV.val EvV.pv at hfl
   go_wp2_with fail
   refine ⟨⟨trivial, a + 1, by rw [HTS.out, HDP.out]; congr 1; omega, by go_num, by omega⟩, ?_⟩
   simp [intOf]; omega
  ·have q1 : decide ((a : Int) < (ps.length : Int)) = false := decide_eq_false (by omega)
   obtain rfl : a = ps.length := by omega
   go_wp2_with fail
   go_ret
   exact ⟨rfl, rfl⟩
def standA (l : List Ev) (e : Ev) : Int :=
 if e.parents.all (hasE l) = false then 4
 else if e.thread = ⟨#[]⟩ then 0
 else match idx l e.thread with
  | none => 4
  | some k => match l[k]? with
   | none => 4
   | some t => if t.thread = ⟨#[]⟩ ∧ t.does = 0 then 0 else 7
theorem errA_stand (room : ByteArray) (l : List Ev) (e : Ev) : errA room l e = if (mayE e && decide (e.room = room)) = false then 1 else if hasE l e.id then 9 else standA l e := rfl
theorem stand_miss {l : List Ev} {e : Ev} {p : ByteArray} (hp : p ∈ e.parents) (h : hasE l p = false) : standA l e = 4 := by
 unfold standA
 rw [if_pos]
 rw [List.all_eq_false]
 exact ⟨p, hp, by rw [h]; decide⟩
theorem stand_empty {l : List Ev} {e : Ev} (hp : ∀ p ∈ e.parents, hasE l p = true) (h : e.thread = ⟨#[]⟩) : standA l e = 0 := by
 unfold standA
 rw [if_neg (by rw [List.all_eq_true.2 hp]; decide), if_pos h]
theorem stand_none {l : List Ev} {e : Ev} (hp : ∀ p ∈ e.parents, hasE l p = true) (h : ¬ e.thread = ⟨#[]⟩) (hh : hasE l e.thread = false) : standA l e = 4 := by
 unfold standA
 rw [if_neg (by rw [List.all_eq_true.2 hp]; decide), if_neg h]
 unfold hasE at hh
 cases hi : idx l e.thread with
 | none => rfl
 | some k => rw [hi] at hh; cases hh
theorem stand_hit {room : ByteArray} {l : List Ev} {e t : Ev} (hv : Valid room l) (hp : ∀ p ∈ e.parents, hasE l p = true) (h : ¬ e.thread = ⟨#[]⟩) (ht : t ∈ l) (hi : t.id = e.thread) : standA l e = if t.thread = ⟨#[]⟩ ∧ t.does = 0 then 0 else 7 := by
 unfold standA
 rw [if_neg (by rw [List.all_eq_true.2 hp]; decide), if_neg h]
 cases hk : idx l e.thread with
 | none =>
  have : hasE l e.thread = true := has_iff.2 ⟨t, ht, hi⟩
  unfold hasE at this
  rw [hk] at this
  cases this
 | some k =>
  obtain ⟨y, hy, hyi, _⟩ := idx_some hk
  have e1 : y = t := valid_ids hv (List.mem_of_getElem? hy) ht (by rw [hyi, hi])
  simp only
  rw [hy]
  simp only
  rw [e1]
set_option maxHeartbeats 1600000 in
theorem stands_any7 (h : DgS w g room mb ns D) (x : EvV) (hx : x.at w) :
  Calls Tryz.prog 78 #[.pointer (some ⟨g, 0, none⟩), x.val] w fun e w' => e = .returned (.int .i64 (standA (nevs ns) x.ev)) ∧ Below w.heap.size w w' := by
 have HX := Lib.hid hx
 have HW := Lib.hid (heap_alloc_new w (.cells #[.string x.ev.id, .string x.ev.room, .slice x.A x.ev.parents.length x.cap, .string x.ev.thread, .string x.ev.user, .int .i64 x.ev.does] 52))
 have HB := Lib.hid (below_new w (.cells #[.string x.ev.id, .string x.ev.room, .slice x.A x.ev.parents.length x.cap, .string x.ev.thread, .string x.ev.user, .int .i64 x.ev.does] 52))
 have HD := Lib.hid h
 have hpl : x.ev.parents.length ≤ x.cap ∧ x.cap ≤ 9223372036854775807 := by
  obtain ⟨_, _, he, h5, hm, _⟩ := id hx.1
  injection he with _ he2 he3
  unfold maxLen at hm
  omega
 clear h hx
 unfold EvV.val EvV.pv
 go_enter Tryz.func78, Tryz.ntmps78
 go_upto_region 1 with (fail)
 generalize w.alloc _ = w1 at HW HB ⊢
 generalize hBB : w.heap.size = B at HW ⊢
 have c2 : w1.cell? ⟨B, 2, none⟩ = some (.slice x.A x.ev.parents.length x.cap) := cell_at HW.out 2
 go_wp2_with fail
 go_loopw [12] (fun i wr => ∃ (a : Nat), i = .int .i64 (a : Int) ∧ a ≤ x.ev.parents.length ∧ Hid (Below w.heap.size w wr) ∧ Hid (wr.heap[B]? = some (.cells #[.string x.ev.id, .string x.ev.room, .slice x.A x.ev.parents.length x.cap, .string x.ev.thread, .string x.ev.user, .int .i64 x.ev.does] 52 (0, 0))) ∧ Hid (∀ p ∈ x.ev.parents.take a, hasE (nevs ns) p = true)) (fun i _ => x.ev.parents.length - (intOf i).toNat)
 case atStart => exact ⟨0, rfl, Nat.zero_le _, HB, HW, Lib.hid (fun p hp => by cases hp)⟩
 case round =>
  obtain ⟨a, rfl, ha, HBR, HWR, HT⟩ := hrel
  clear HB HW c2
  have HDR := Lib.hid (HD.out.below HBR.out)
  by_cases hlt : a < x.ev.parents.length
  ·have q1 : decide ((a : Int) < (x.ev.parents.length : Int)) = true := decide_eq_true (by omega)
   have hp : x.ev.parents[a]? = some x.ev.parents[a] := List.getElem?_eq_getElem hlt
   generalize x.ev.parents[a] = p at hp
   have hpm := List.mem_of_getElem? hp
   have HH := Lib.hid (has_code HDR.out p (HX.out.2.2.2.2.2.1 p hpm))
   have HPM := Lib.hid hpm
   have HTS : Hid (hasE (nevs ns) p = true → ∀ q ∈ x.ev.parents.take (a + 1), hasE (nevs ns) q = true) := Lib.hid (fun hh q hq => by
    rw [List.take_add_one, hp] at hq
    rcases List.mem_append.1 hq with hq | hq
    ·exact HT.out q hq
    ·simp only [Option.toList_some, List.mem_cons, List.not_mem_nil, or_false] at hq
     rw [hq]; exact hh)
   have hat := HX.out.1
   unfold EvV.pv at hat
   obtain ⟨bp, op, hA, hbp, hcp⟩ := text_at hat hp
   have hip := index_any (P := Tryz.prog) knT (by decide) (b := bp) (off := op) (cap := x.cap) hlt
   simp only [LT] at hip
   rw [Nat.mul_one] at hip
   have e3 : wr.cell? ⟨bp, op + a, none⟩ = some (.string p) := (HBR.out.cell (p := ⟨bp, op + a, none⟩) hbp).trans hcp
   clear hat hcp hp hpm HDR
   rw [hA]
   rw [hA] at HWR
   go_wp2_with fail
   go_at_call 77
   refine HH.out.mono ?_
   rintro e w2 ⟨rfl, b2⟩
   replace HWR := Lib.hid ((b2.block B (smem_lt HWR.out)).trans HWR.out)
   replace HBR := Lib.hid (HBR.out.trans (b2.mono HBR.out.size))
   clear b2 e3 HH
   generalize hhp : hasE (nevs ns) p = hb at HTS ⊢
   cases hb
   ·have HR := Lib.hid (stand_miss HPM.out hhp)
    go_wp2_with fail
    go_ret
    exact ⟨by rw [HR.out]; rfl, HBR.out⟩
   ·have HT2 := Lib.hid (HTS.out rfl)
    clear HTS hhp
    go_wp2_with fail
    refine ⟨⟨a + 1, by go_num, by omega, HBR, HWR, HT2⟩, ?_⟩
    simp [intOf]; omega
  ·have q1 : decide ((a : Int) < (x.ev.parents.length : Int)) = false := decide_eq_false (by omega)
   have HAL : Hid (∀ p ∈ x.ev.parents, hasE (nevs ns) p = true) := Lib.hid (fun p hp => HT.out p (by rw [List.take_of_length_le (by omega)]; exact hp))
   clear HT
   have c3 : wr.cell? ⟨B, 3, none⟩ = some (.string x.ev.thread) := cell_at HWR.out 3
   by_cases hth : x.ev.thread = ⟨#[]⟩
   ·have HR := Lib.hid (stand_empty HAL.out hth)
    have q2 : (x.ev.thread.toList == []) = true := by rw [hth, ByteArray.toList_eq]; rfl
    clear hth
    go_wp2_with fail
    go_ret
    exact ⟨by rw [HR.out]; rfl, HBR.out⟩
   ·have q2 : (x.ev.thread.toList == []) = false := by
     rw [beq_eq_false_iff_ne]
     exact fun e => hth (key_ext (by rw [e, ByteArray.toList_eq]))
    have HTH := Lib.hid hth
    clear hth
    go_upto_region 9 with (fail)
    refine wp_region_held_drew (S := fun w' => Below w.heap.size w w' ∧ w'.heap[B]? = some (.cells #[.string x.ev.id, .string x.ev.room, .slice x.A x.ev.parents.length x.cap, .string x.ev.thread, .string x.ev.user, .int .i64 x.ev.does] 52 (0, 0))) (by kernel_rfl) ⟨HBR.out.drew, HWR.out⟩ (fun hHeld => ?_)
    clear HBR HWR HDR c3
    generalize wr.drew = wd at hHeld ⊢
    rcases HD.out.look x.ev.thread HX.out.2.2.2.1 true with ⟨hh, -⟩ | ⟨hh, n, hn, he, -⟩
    ·have HR := Lib.hid (stand_none HAL.out HTH.out hh)
     have HHN := Lib.hid hh
     clear hh
     refine wpAnyH_take (i := 0) (oi := ⟨some 25, _, _, _, _, _⟩) (v := ?vs0) rfl (by kernel_rfl) (by kernel_rfl) (by kernel_rfl) (fun _ _ _ h => h) (Or.inl ⟨by rfl, ?ys0⟩) hHeld ?rs0
     case ys0 =>
      intro wx hSx
      go_simp
      try with_reducible rfl
     try simp only [actS]
     refine wpAnyH_take (i := 4) (oi := ⟨some 29, _, _, _, _, _⟩) (v := ?vs4) rfl (by kernel_rfl) (by kernel_rfl) (by kernel_rfl) (fun _ _ _ h => h) (Or.inl ⟨by rfl, ?ys4⟩) hHeld ?rs4
     case ys4 =>
      intro wx hSx
      go_simp
      try with_reducible rfl
     try simp only [actS]
     refine wpAnyH_take (i := 1) (oi := ⟨some 26, _, _, _, _, _⟩) (v := ?vs1) rfl (by kernel_rfl) (by kernel_rfl) (by kernel_rfl) (fun _ _ _ h => h) (Or.inl ⟨by rfl, ?ys1⟩) hHeld ?rs1
     case ys1 =>
      intro wx hSx
      go_simp
      try with_reducible rfl
     try simp only [actS]
     refine wpAnyH_take (i := 2) (oi := ⟨some 27, _, _, _, _, _⟩) (v := ?vs2) rfl (by kernel_rfl) (by kernel_rfl) (by kernel_rfl) (fun _ _ _ h => h) (Or.inl ⟨by rfl, ?ys2⟩) hHeld ?rs2
     case ys2 =>
      intro wx hSx
      go_simp
      try with_reducible rfl
     try simp only [actS]
     refine wpAnyH_take (i := 3) (oi := ⟨some 28, _, _, _, _, _⟩) (v := ?vs3) rfl (by kernel_rfl) (by kernel_rfl) (by kernel_rfl) (fun _ _ _ h => h) (Or.inl ⟨by rfl, ?ys3⟩) hHeld ?rs3
     case ys3 =>
      intro wx hSx
      have zd := HD.out.below hSx.1
      have z := zd.c1
      go_simp
      try with_reducible rfl
     try simp only [actS]
     refine wpAnyH_take (i := 5) (oi := ⟨some 30, _, _, _, _, _⟩) (v := ?vs5) rfl (by kernel_rfl) (by kernel_rfl) (by kernel_rfl) (fun _ _ _ h => h) (Or.inl ⟨by rfl, ?ys5⟩) hHeld ?rs5
     case ys5 =>
      intro wx hSx
      have z := cell_at hSx.2 3
      simp only [List.getElem?_toArray, List.getElem?_cons_succ, List.getElem?_cons_zero] at z
      go_simp
      try with_reducible rfl
     try simp only [actS]
     refine wpAnyH_take (i := 6) (oi := ⟨some 31, _, _, _, _, _⟩) (v := ?vs6) rfl (by kernel_rfl) (by kernel_rfl) (by kernel_rfl) (fun _ _ _ h => h) (Or.inl ⟨by rfl, ?ys6⟩) hHeld ?rs6
     case ys6 =>
      intro wx hSx
      have zd := HD.out.below hSx.1
      have hr := zd.lookN x.ev.thread HX.out.2.2.2.1 HHN.out
      unfold zeroN at hr
      go_simp
      try with_reducible rfl
     try simp only [actS]
     refine wpAnyH_take (i := 7) (oi := ⟨some 24, _, _, _, _, _⟩) (v := ?vs7) rfl (by kernel_rfl) (by kernel_rfl) (by kernel_rfl) (fun _ _ _ h => h) (Or.inl ⟨by rfl, ?ys7⟩) hHeld ?rs7
     case ys7 =>
      intro wx hSx
      go_simp
      try with_reducible rfl
     try simp only [actS]
     refine wpAnyH_take (i := 8) (oi := ⟨some 32, _, _, _, _, _⟩) (v := ?vs8) rfl (by kernel_rfl) (by kernel_rfl) (by kernel_rfl) (fun _ _ _ h => h) (Or.inl ⟨by rfl, ?ys8⟩) hHeld ?rs8
     case ys8 =>
      intro wx hSx
      go_simp
      try with_reducible rfl
     try simp only [actS]
     refine wpAnyH_take (i := 9) (oi := ⟨some 33, _, _, _, _, _⟩) (v := ?vs9) rfl (by kernel_rfl) (by kernel_rfl) (by kernel_rfl) (fun _ _ _ h => h) (Or.inl ⟨by rfl, ?ys9⟩) hHeld ?rs9
     case ys9 =>
      intro wx hSx
      go_simp
      try with_reducible rfl
     try simp only [actS]
     refine wpAnyH_ready (rs := [10]) (by kernel_rfl) (by simp) ?_
     refine AllReadyH.cons (o := ⟨some 7, _, _, _, _, _⟩) rfl (fun K hK => ?_) AllReadyH.nil
     have hbn := below_new wd (.cells #[.string ⟨#[]⟩, .string ⟨#[]⟩, .slice none 0 0, .string ⟨#[]⟩, .string ⟨#[]⟩, .int .i64 0, .int .i64 0] 161)
     have hnw := heap_alloc_new wd (.cells #[.string ⟨#[]⟩, .string ⟨#[]⟩, .slice none 0 0, .string ⟨#[]⟩, .string ⟨#[]⟩, .int .i64 0, .int .i64 0] 161)
     have hbl := smem_lt hHeld.2
     have hsz := hHeld.1.size
     go_simp
     refine hK.out _ _ ⟨hHeld.1.trans (hbn.mono hHeld.1.size), (hbn.block B (smem_lt hHeld.2)).trans hHeld.2⟩ (fun hHeld => ?_)
     clear hK K hbn
     try simp only [actS]
     generalize wd.alloc _ = we at hHeld hnw ⊢
     generalize wd.heap.size = B7 at hnw hbl hsz ⊢
     refine wpAnyH_ready (rs := [11]) (by kernel_rfl) (by simp) ?_
     refine AllReadyH.cons (o := ⟨none, _, _, _, _, _⟩) rfl (fun K hK => ?_) AllReadyH.nil
     have y0 : we.cell? ⟨B7, 0, none⟩ = some (.string ⟨#[]⟩) := cell_at hnw 0
     have z0 : we.frozen? ⟨B7, 0, none⟩ = false := free_at hnw 0
     have y1 : we.cell? ⟨B7, 1, none⟩ = some (.string ⟨#[]⟩) := cell_at hnw 1
     have z1 : we.frozen? ⟨B7, 1, none⟩ = false := free_at hnw 1
     have y2 : we.cell? ⟨B7, 2, none⟩ = some (.slice none 0 0) := cell_at hnw 2
     have z2 : we.frozen? ⟨B7, 2, none⟩ = false := free_at hnw 2
     have y3 : we.cell? ⟨B7, 3, none⟩ = some (.string ⟨#[]⟩) := cell_at hnw 3
     have z3 : we.frozen? ⟨B7, 3, none⟩ = false := free_at hnw 3
     have y4 : we.cell? ⟨B7, 4, none⟩ = some (.string ⟨#[]⟩) := cell_at hnw 4
     have z4 : we.frozen? ⟨B7, 4, none⟩ = false := free_at hnw 4
     have y5 : we.cell? ⟨B7, 5, none⟩ = some (.int .i64 0) := cell_at hnw 5
     have z5 : we.frozen? ⟨B7, 5, none⟩ = false := free_at hnw 5
     have y6 : we.cell? ⟨B7, 6, none⟩ = some (.int .i64 0) := cell_at hnw 6
     have z6 : we.frozen? ⟨B7, 6, none⟩ = false := free_at hnw 6
     have HAN := nd_stored hnw (.string ⟨#[]⟩) (.string ⟨#[]⟩) (.slice none 0 0) (.string ⟨#[]⟩) (.string ⟨#[]⟩) (.int .i64 0) (.int .i64 0) rfl _ rfl
     simp only [World.setCells] at HAN
     go_simp
     generalize World.setCell _ _ _ = w9 at HAN ⊢
     obtain ⟨k0, k6⟩ := HAN
     refine hK.out _ _ ⟨hHeld.1.grown k6 hHeld.1.size (fun j hj => by injection hj with hj; omega), (k6.block B (smem_lt hHeld.2) (fun e => by injection e with e; omega)).trans hHeld.2⟩ (fun hHeld => ?_)
     clear hK K hnw y0 z0 y1 z1 y2 z2 y3 z3 y4 z4 y5 z5 y6 z6
     try simp only [actS]
     refine wpAnyH_take (i := 12) (oi := ⟨some 8, _, _, _, _, _⟩) (v := ?vs12) rfl (by kernel_rfl) (by kernel_rfl) (by kernel_rfl) (fun _ _ _ h => h) (Or.inl ⟨by rfl, ?ys12⟩) hHeld ?rs12
     case ys12 =>
      intro wx hSx
      go_simp
      try with_reducible rfl
     try simp only [actS]
     refine wpAnyH_done (by kernel_rfl) ?_ _
     go_wp2_with fail
     go_ret
     exact ⟨by rw [HR.out]; rfl, hHeld.1⟩
    ·have HR := Lib.hid (stand_hit HD.out.val HAL.out HTH.out (List.mem_map.2 ⟨n, hn, rfl⟩) he)
     have HE := Lib.hid he
     have HNN := Lib.hid hn
     clear he hn hh
     refine wpAnyH_take (i := 0) (oi := ⟨some 25, _, _, _, _, _⟩) (v := ?vt0) rfl (by kernel_rfl) (by kernel_rfl) (by kernel_rfl) (fun _ _ _ h => h) (Or.inl ⟨by rfl, ?yt0⟩) hHeld ?rt0
     case yt0 =>
      intro wx hSx
      go_simp
      try with_reducible rfl
     try simp only [actS]
     refine wpAnyH_take (i := 4) (oi := ⟨some 29, _, _, _, _, _⟩) (v := ?vt4) rfl (by kernel_rfl) (by kernel_rfl) (by kernel_rfl) (fun _ _ _ h => h) (Or.inl ⟨by rfl, ?yt4⟩) hHeld ?rt4
     case yt4 =>
      intro wx hSx
      go_simp
      try with_reducible rfl
     try simp only [actS]
     refine wpAnyH_take (i := 1) (oi := ⟨some 26, _, _, _, _, _⟩) (v := ?vt1) rfl (by kernel_rfl) (by kernel_rfl) (by kernel_rfl) (fun _ _ _ h => h) (Or.inl ⟨by rfl, ?yt1⟩) hHeld ?rt1
     case yt1 =>
      intro wx hSx
      go_simp
      try with_reducible rfl
     try simp only [actS]
     refine wpAnyH_take (i := 2) (oi := ⟨some 27, _, _, _, _, _⟩) (v := ?vt2) rfl (by kernel_rfl) (by kernel_rfl) (by kernel_rfl) (fun _ _ _ h => h) (Or.inl ⟨by rfl, ?yt2⟩) hHeld ?rt2
     case yt2 =>
      intro wx hSx
      go_simp
      try with_reducible rfl
     try simp only [actS]
     refine wpAnyH_take (i := 3) (oi := ⟨some 28, _, _, _, _, _⟩) (v := ?vt3) rfl (by kernel_rfl) (by kernel_rfl) (by kernel_rfl) (fun _ _ _ h => h) (Or.inl ⟨by rfl, ?yt3⟩) hHeld ?rt3
     case yt3 =>
      intro wx hSx
      have zd := HD.out.below hSx.1
      have z := zd.c1
      go_simp
      try with_reducible rfl
     try simp only [actS]
     refine wpAnyH_take (i := 5) (oi := ⟨some 30, _, _, _, _, _⟩) (v := ?vt5) rfl (by kernel_rfl) (by kernel_rfl) (by kernel_rfl) (fun _ _ _ h => h) (Or.inl ⟨by rfl, ?yt5⟩) hHeld ?rt5
     case yt5 =>
      intro wx hSx
      have z := cell_at hSx.2 3
      simp only [List.getElem?_toArray, List.getElem?_cons_succ, List.getElem?_cons_zero] at z
      go_simp
      try with_reducible rfl
     try simp only [actS]
     refine wpAnyH_take (i := 6) (oi := ⟨some 31, _, _, _, _, _⟩) (v := ?vt6) rfl (by kernel_rfl) (by kernel_rfl) (by kernel_rfl) (fun _ _ _ h => h) (Or.inl ⟨by rfl, ?yt6⟩) hHeld ?rt6
     case yt6 =>
      intro wx hSx
      have zd := HD.out.below hSx.1
      have hr := zd.lookY HNN.out HX.out.2.2.2.1 HE.out
      unfold NdV.val EvV.pv at hr
      go_simp
      try with_reducible rfl
     try simp only [actS]
     refine wpAnyH_take (i := 7) (oi := ⟨some 24, _, _, _, _, _⟩) (v := ?vt7) rfl (by kernel_rfl) (by kernel_rfl) (by kernel_rfl) (fun _ _ _ h => h) (Or.inl ⟨by rfl, ?yt7⟩) hHeld ?rt7
     case yt7 =>
      intro wx hSx
      go_simp
      try with_reducible rfl
     try simp only [actS]
     refine wpAnyH_take (i := 8) (oi := ⟨some 32, _, _, _, _, _⟩) (v := ?vt8) rfl (by kernel_rfl) (by kernel_rfl) (by kernel_rfl) (fun _ _ _ h => h) (Or.inl ⟨by rfl, ?yt8⟩) hHeld ?rt8
     case yt8 =>
      intro wx hSx
      go_simp
      try with_reducible rfl
     try simp only [actS]
     refine wpAnyH_take (i := 9) (oi := ⟨some 33, _, _, _, _, _⟩) (v := ?vt9) rfl (by kernel_rfl) (by kernel_rfl) (by kernel_rfl) (fun _ _ _ h => h) (Or.inl ⟨by rfl, ?yt9⟩) hHeld ?rt9
     case yt9 =>
      intro wx hSx
      go_simp
      try with_reducible rfl
     try simp only [actS]
     refine wpAnyH_ready (rs := [10]) (by kernel_rfl) (by simp) ?_
     refine AllReadyH.cons (o := ⟨some 7, _, _, _, _, _⟩) rfl (fun K hK => ?_) AllReadyH.nil
     have hbn := below_new wd (.cells #[.string ⟨#[]⟩, .string ⟨#[]⟩, .slice none 0 0, .string ⟨#[]⟩, .string ⟨#[]⟩, .int .i64 0, .int .i64 0] 161)
     have hnw := heap_alloc_new wd (.cells #[.string ⟨#[]⟩, .string ⟨#[]⟩, .slice none 0 0, .string ⟨#[]⟩, .string ⟨#[]⟩, .int .i64 0, .int .i64 0] 161)
     have hbl := smem_lt hHeld.2
     have hsz := hHeld.1.size
     go_simp
     refine hK.out _ _ ⟨hHeld.1.trans (hbn.mono hHeld.1.size), (hbn.block B (smem_lt hHeld.2)).trans hHeld.2⟩ (fun hHeld => ?_)
     clear hK K hbn
     try simp only [actS]
     generalize wd.alloc _ = we at hHeld hnw ⊢
     generalize wd.heap.size = B7 at hnw hbl hsz ⊢
     refine wpAnyH_ready (rs := [11]) (by kernel_rfl) (by simp) ?_
     refine AllReadyH.cons (o := ⟨none, _, _, _, _, _⟩) rfl (fun K hK => ?_) AllReadyH.nil
     have y0 : we.cell? ⟨B7, 0, none⟩ = some (.string ⟨#[]⟩) := cell_at hnw 0
     have z0 : we.frozen? ⟨B7, 0, none⟩ = false := free_at hnw 0
     have y1 : we.cell? ⟨B7, 1, none⟩ = some (.string ⟨#[]⟩) := cell_at hnw 1
     have z1 : we.frozen? ⟨B7, 1, none⟩ = false := free_at hnw 1
     have y2 : we.cell? ⟨B7, 2, none⟩ = some (.slice none 0 0) := cell_at hnw 2
     have z2 : we.frozen? ⟨B7, 2, none⟩ = false := free_at hnw 2
     have y3 : we.cell? ⟨B7, 3, none⟩ = some (.string ⟨#[]⟩) := cell_at hnw 3
     have z3 : we.frozen? ⟨B7, 3, none⟩ = false := free_at hnw 3
     have y4 : we.cell? ⟨B7, 4, none⟩ = some (.string ⟨#[]⟩) := cell_at hnw 4
     have z4 : we.frozen? ⟨B7, 4, none⟩ = false := free_at hnw 4
     have y5 : we.cell? ⟨B7, 5, none⟩ = some (.int .i64 0) := cell_at hnw 5
     have z5 : we.frozen? ⟨B7, 5, none⟩ = false := free_at hnw 5
     have y6 : we.cell? ⟨B7, 6, none⟩ = some (.int .i64 0) := cell_at hnw 6
     have z6 : we.frozen? ⟨B7, 6, none⟩ = false := free_at hnw 6
     have HAN := nd_stored hnw (.string n.x.ev.id) (.string n.x.ev.room) (.slice n.x.A n.x.ev.parents.length n.x.cap) (.string n.x.ev.thread) (.string n.x.ev.user) (.int .i64 n.x.ev.does) (.int .i64 (n.d : Int)) rfl _ rfl
     simp only [World.setCells] at HAN
     go_simp
     generalize World.setCell _ _ _ = w9 at HAN ⊢
     obtain ⟨k0, k6⟩ := HAN
     refine hK.out _ _ ⟨hHeld.1.grown k6 hHeld.1.size (fun j hj => by injection hj with hj; omega), (k6.block B (smem_lt hHeld.2) (fun e => by injection e with e; omega)).trans hHeld.2⟩ (fun hHeld => ?_)
     clear hK K hnw y0 z0 y1 z1 y2 z2 y3 z3 y4 z4 y5 z5 y6 z6
     try simp only [actS]
     refine wpAnyH_take (i := 12) (oi := ⟨some 8, _, _, _, _, _⟩) (v := ?vt12) rfl (by kernel_rfl) (by kernel_rfl) (by kernel_rfl) (fun _ _ _ h => h) (Or.inl ⟨by rfl, ?yt12⟩) hHeld ?rt12
     case yt12 =>
      intro wx hSx
      go_simp
      try with_reducible rfl
     try simp only [actS]
     refine wpAnyH_done (by kernel_rfl) ?_ _
     have s3 : w9.cell? ⟨B7, 3, none⟩ = some (.string n.x.ev.thread) := cell_at k0 3
     have s5 : w9.cell? ⟨B7, 5, none⟩ = some (.int .i64 n.x.ev.does) := cell_at k0 5
     by_cases ht : n.x.ev.thread = ⟨#[]⟩
     ·have q5 : (n.x.ev.thread.toList == []) = true := by rw [ht, ByteArray.toList_eq]; rfl
      by_cases hd : n.x.ev.does = 0
      ·have q6 : (n.x.ev.does == 0) = true := by rw [hd]; rfl
       rw [if_pos ⟨ht, hd⟩] at HR
       clear ht hd
       go_wp2_with fail
       go_ret
       exact ⟨by rw [HR.out]; rfl, hHeld.1⟩
      ·have q6 : (n.x.ev.does != 0) = true := by rw [bne_iff_ne]; exact hd
       rw [if_neg (fun h => hd h.2)] at HR
       clear ht hd
       go_wp2_with fail
       go_ret
       exact ⟨by rw [HR.out]; rfl, hHeld.1⟩
     ·have q5 : (n.x.ev.thread.toList == []) = false := by
       rw [beq_eq_false_iff_ne]
       exact fun e => ht (key_ext (by rw [e, ByteArray.toList_eq]))
      rw [if_neg (fun h => ht h.1)] at HR
      clear ht
      go_wp2_with fail
      go_ret
      exact ⟨by rw [HR.out]; rfl, hHeld.1⟩
end
end Go.Proofs.YtnnapkakbdpkaaaGreat
