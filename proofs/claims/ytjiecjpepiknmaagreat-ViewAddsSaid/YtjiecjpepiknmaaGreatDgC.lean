/-
  Package dag: New, Has, Len, Position, Event.
-/
import Derived.Test.YtjiecjpepiknmaaGreatDgO
namespace Go.Proofs.YtjiecjpepiknmaaGreat
set_option maxRecDepth 20000
open Go.RowKit
set_option linter.unusedVariables false
set_option linter.unusedSimpArgs false
section
variable {w w' : World} {g mb : Nat} {room : ByteArray} {ns : List NdV} {D : Dv}

set_option maxHeartbeats 800000 in
theorem has_code (h : DgS w g room mb ns D) (k : ByteArray) (hk : k.size ≤ maxLen) : Calls Tryz.prog 84 #[.pointer (some ⟨g, 0, none⟩), .string k] w fun e w' => e = .returned (.bool (hasE (nevs ns) k)) ∧ Below w.heap.size w w' := by
  have c1 := h.c1
  rcases h.look k hk true with ⟨hh, hr⟩ | ⟨hh, n, hn, he, hr⟩
  · rw [hh]
    unfold zeroN at hr
    clear h hk hh
    go_enter Tryz.func84, Tryz.ntmps84
    go_wp2_with fail
    go_ret
    exact ⟨rfl, below_new _ _⟩
  · rw [hh]
    unfold NdV.val EvV.pv at hr
    clear h hk hh
    go_enter Tryz.func84, Tryz.ntmps84
    go_wp2_with fail
    go_ret
    exact ⟨rfl, below_new _ _⟩

theorem ev_stored {wr : World} {B : Nat} {cs : Array Value} {t : TypeId} (hr : wr.heap[B]? = some (.cells cs t (0, 0))) (a0 a1 a2 a3 a4 a5 : Value) (hs : cs.size = 6) :
    ∀ W, W = wr.setCells B 0 [a0, a1, a2, a3, a4, a5] → W.cell? ⟨B, 0, none⟩ = some a0 ∧ W.cell? ⟨B, 1, none⟩ = some a1 ∧ W.cell? ⟨B, 2, none⟩ = some a2 ∧ W.cell? ⟨B, 3, none⟩ = some a3 ∧ W.cell? ⟨B, 4, none⟩ = some a4 ∧ W.cell? ⟨B, 5, none⟩ = some a5 ∧ wr.grownBy W (some B) := by
  rintro W rfl
  obtain ⟨cur, z1, z2, z3⟩ := sm_at B t [a0, a1, a2, a3, a4, a5] 0 wr _ hr (by rw [hs]; exact Nat.le_refl 6)
  have hl : cs.toList.length = 6 := hs
  have z4 : cur.toList = [a0, a1, a2, a3, a4, a5] := by
    rw [z3, List.take_zero, List.nil_append, List.drop_of_length_le (by rw [hl]; exact Nat.le_refl _), List.append_nil]
  refine ⟨?_, ?_, ?_, ?_, ?_, ?_, sm_grown wr B 0 _⟩
  · rw [cell_at z1 0, ← Array.getElem?_toList, z4]; rfl
  · rw [cell_at z1 1, ← Array.getElem?_toList, z4]; rfl
  · rw [cell_at z1 2, ← Array.getElem?_toList, z4]; rfl
  · rw [cell_at z1 3, ← Array.getElem?_toList, z4]; rfl
  · rw [cell_at z1 4, ← Array.getElem?_toList, z4]; rfl
  · rw [cell_at z1 5, ← Array.getElem?_toList, z4]; rfl

theorem po_stored {wr : World} {B : Nat} {cs : Array Value} {t : TypeId} (hr : wr.heap[B]? = some (.cells cs t (0, 0))) (a0 a1 : Value) (hs : cs.size = 2) :
    ∀ W, W = wr.setCells B 0 [a0, a1] → W.cell? ⟨B, 0, none⟩ = some a0 ∧ W.cell? ⟨B, 1, none⟩ = some a1 ∧ wr.grownBy W (some B) := by
  rintro W rfl
  obtain ⟨cur, z1, z2, z3⟩ := sm_at B t [a0, a1] 0 wr _ hr (by rw [hs]; exact Nat.le_refl 2)
  have hl : cs.toList.length = 2 := hs
  have z4 : cur.toList = [a0, a1] := by
    rw [z3, List.take_zero, List.nil_append, List.drop_of_length_le (by rw [hl]; exact Nat.le_refl _), List.append_nil]
  refine ⟨?_, ?_, sm_grown wr B 0 _⟩
  · rw [cell_at z1 0, ← Array.getElem?_toList, z4]; rfl
  · rw [cell_at z1 1, ← Array.getElem?_toList, z4]; rfl

set_option maxHeartbeats 800000 in
theorem event_code7 (h : DgS w g room mb ns D) (k : ByteArray) (hk : k.size ≤ maxLen) : Calls Tryz.prog 93 #[.pointer (some ⟨g, 0, none⟩), .string k] w fun e w' => ∃ y : EvV, e = .returned (.tuple #[y.val, .bool (hasE (nevs ns) k)]) ∧ LT.Mine w' w.heap.size y.pv y.ev.parents ∧ (hasE (nevs ns) k = false → y.ev.ok) ∧ (hasE (nevs ns) k = true → y.ev ∈ nevs ns ∧ y.ev.id = k) ∧ Below w.heap.size w w' := by
  have HW := Lib.hid (heap_alloc_new w (.cells #[.string ⟨#[]⟩, .string ⟨#[]⟩, .slice none 0 0, .string ⟨#[]⟩, .string ⟨#[]⟩, .int .i64 0] 33))
  have HB := Lib.hid (below_new w (.cells #[.string ⟨#[]⟩, .string ⟨#[]⟩, .slice none 0 0, .string ⟨#[]⟩, .string ⟨#[]⟩, .int .i64 0] 33))
  have HD := Lib.hid (h.below HB.out)
  clear h
  go_enter Tryz.func93, Tryz.ntmps93
  go_upto_region 1 with (fail)
  generalize w.alloc _ = w1 at HW HB HD ⊢
  generalize hB : w.heap.size = B at HW ⊢
  have c1 := HD.out.c1
  have r0 : w1.cell? ⟨B, 0, none⟩ = some (.string ⟨#[]⟩) := cell_at HW.out 0
  have r1 : w1.cell? ⟨B, 1, none⟩ = some (.string ⟨#[]⟩) := cell_at HW.out 1
  have r2 : w1.cell? ⟨B, 2, none⟩ = some (.slice none 0 0) := cell_at HW.out 2
  have r3 : w1.cell? ⟨B, 3, none⟩ = some (.string ⟨#[]⟩) := cell_at HW.out 3
  have r4 : w1.cell? ⟨B, 4, none⟩ = some (.string ⟨#[]⟩) := cell_at HW.out 4
  have r5 : w1.cell? ⟨B, 5, none⟩ = some (.int .i64 0) := cell_at HW.out 5
  rcases HD.out.look k hk true with ⟨hh, hr⟩ | ⟨hh, n, hn, he, hr⟩
  · have HH := Lib.hid hh
    have HB2 := Lib.hid (below_new w1 (.cells #[.string ⟨#[]⟩, .string ⟨#[]⟩, .slice none 0 0, .string ⟨#[]⟩, .string ⟨#[]⟩, .int .i64 0, .int .i64 0] 109))
    unfold zeroN at hr
    clear hk hh HD
    go_upto_region 2 with (fail)
    clear c1 hr r0 r1 r2 r3 r4 r5
    generalize w1.alloc _ = w2 at HB2 ⊢
    replace HW := Lib.hid ((HB2.out.block B (smem_lt HW.out)).trans HW.out)
    replace HB := Lib.hid (HB.out.trans (HB2.out.mono HB.out.size))
    have r0 : w2.cell? ⟨B, 0, none⟩ = some (.string ⟨#[]⟩) := cell_at HW.out 0
    have r1 : w2.cell? ⟨B, 1, none⟩ = some (.string ⟨#[]⟩) := cell_at HW.out 1
    have r2 : w2.cell? ⟨B, 2, none⟩ = some (.slice none 0 0) := cell_at HW.out 2
    have r3 : w2.cell? ⟨B, 3, none⟩ = some (.string ⟨#[]⟩) := cell_at HW.out 3
    have r4 : w2.cell? ⟨B, 4, none⟩ = some (.string ⟨#[]⟩) := cell_at HW.out 4
    have r5 : w2.cell? ⟨B, 5, none⟩ = some (.int .i64 0) := cell_at HW.out 5
    have z0 : w2.frozen? ⟨B, 0, none⟩ = false := free_at HW.out 0
    have z1 : w2.frozen? ⟨B, 1, none⟩ = false := free_at HW.out 1
    have z2 : w2.frozen? ⟨B, 2, none⟩ = false := free_at HW.out 2
    have z3 : w2.frozen? ⟨B, 3, none⟩ = false := free_at HW.out 3
    have z4 : w2.frozen? ⟨B, 4, none⟩ = false := free_at HW.out 4
    have z5 : w2.frozen? ⟨B, 5, none⟩ = false := free_at HW.out 5
    have HAN := Lib.hid (ev_stored HW.out (.string ⟨#[]⟩) (.string ⟨#[]⟩) (.slice none 0 0) (.string ⟨#[]⟩) (.string ⟨#[]⟩) (.int .i64 0) rfl _ rfl)
    simp only [World.setCells] at HAN
    go_wp2_with fail
    clear r0 r1 r2 r3 r4 r5 z0 z1 z2 z3 z4 z5
    generalize World.setCell _ _ _ = w9 at HAN ⊢
    obtain ⟨k0, k1, k2, k3, k4, k5, k6⟩ := HAN.out
    refine bodyPost_ret (v := .tuple #[.agg #[.string ⟨#[]⟩, .string ⟨#[]⟩, .slice none 0 0, .string ⟨#[]⟩, .string ⟨#[]⟩, .int .i64 0], .bool false]) ?_ rfl ?_
    · simp [results, Tryz.results93, go_sem, k0, k1, k2, k3, k4, k5]
    · refine ⟨⟨⟨⟨#[]⟩, ⟨#[]⟩, [], ⟨#[]⟩, ⟨#[]⟩, 0⟩, none, 0⟩, ?_, .inl ⟨rfl, rfl⟩, fun _ => ?_, ?_, ?_⟩
      · rw [HH.out]; rfl
      · refine ⟨by decide, by decide, by decide, by decide, fun p hp => (by cases hp), by decide, by decide⟩
      · rw [HH.out]; intro e; cases e
      · exact HB.out.grown k6 HB.out.size (fun j hj => by injection hj with hj; omega)
  · have HH := Lib.hid hh
    have HE := Lib.hid he
    have HN := Lib.hid hn
    have HP := Lib.hid (HD.out.par n hn)
    have HM := Lib.hid (HD.out.node hn).1
    have HB2 := Lib.hid (below_new w1 (.cells #[.string n.x.ev.id, .string n.x.ev.room, .slice n.x.A n.x.ev.parents.length n.x.cap, .string n.x.ev.thread, .string n.x.ev.user, .int .i64 n.x.ev.does, .int .i64 (n.d : Int)] 109))
    have HW2 := Lib.hid (heap_alloc_new w1 (.cells #[.string n.x.ev.id, .string n.x.ev.room, .slice n.x.A n.x.ev.parents.length n.x.cap, .string n.x.ev.thread, .string n.x.ev.user, .int .i64 n.x.ev.does, .int .i64 (n.d : Int)] 109))
    unfold NdV.val EvV.pv at hr
    clear hk hh hn he HD
    go_upto_region 2 with (fail)
    clear c1 hr r0 r1 r2 r3 r4 r5
    generalize w1.alloc _ = w2 at HB2 HW2 ⊢
    replace HW := Lib.hid ((HB2.out.block B (smem_lt HW.out)).trans HW.out)
    replace HB := Lib.hid (HB.out.trans (HB2.out.mono HB.out.size))
    replace HP := Lib.hid (HP.out.below HB2.out)
    have HO := Lib.hid (own_any n.x w2 HP.out.slice HM.out)
    clear HB2
    generalize w1.heap.size = B6 at HW2 ⊢
    have s0 : w2.cell? ⟨B6, 0, none⟩ = some (.string n.x.ev.id) := cell_at HW2.out 0
    have s1 : w2.cell? ⟨B6, 1, none⟩ = some (.string n.x.ev.room) := cell_at HW2.out 1
    have s2 : w2.cell? ⟨B6, 2, none⟩ = some (.slice n.x.A n.x.ev.parents.length n.x.cap) := cell_at HW2.out 2
    have s3 : w2.cell? ⟨B6, 3, none⟩ = some (.string n.x.ev.thread) := cell_at HW2.out 3
    have s4 : w2.cell? ⟨B6, 4, none⟩ = some (.string n.x.ev.user) := cell_at HW2.out 4
    have s5 : w2.cell? ⟨B6, 5, none⟩ = some (.int .i64 n.x.ev.does) := cell_at HW2.out 5
    have s6 : w2.cell? ⟨B6, 6, none⟩ = some (.int .i64 (n.d : Int)) := cell_at HW2.out 6
    unfold EvV.val EvV.pv at HO
    go_wp2_with fail
    go_at_call 86
    refine HO.out.mono ?_
    rintro e w3 ⟨y, rfl, hy, hm, b3⟩
    have HY := Lib.hid hy
    clear hy
    replace HW := Lib.hid ((b3.block B (smem_lt HW.out)).trans HW.out)
    have hw2 : w.heap.size ≤ w2.heap.size := HB.out.size
    replace HB := Lib.hid (HB.out.trans (b3.mono HB.out.size))
    have HMY := Lib.hid (show LT.Mine w3 w.heap.size y.pv y.ev.parents from hm.mono hw2)
    clear hm b3 HO s0 s1 s2 s3 s4 s5 s6 HP
    have r0 : w3.cell? ⟨B, 0, none⟩ = some (.string ⟨#[]⟩) := cell_at HW.out 0
    have r1 : w3.cell? ⟨B, 1, none⟩ = some (.string ⟨#[]⟩) := cell_at HW.out 1
    have r2 : w3.cell? ⟨B, 2, none⟩ = some (.slice none 0 0) := cell_at HW.out 2
    have r3 : w3.cell? ⟨B, 3, none⟩ = some (.string ⟨#[]⟩) := cell_at HW.out 3
    have r4 : w3.cell? ⟨B, 4, none⟩ = some (.string ⟨#[]⟩) := cell_at HW.out 4
    have r5 : w3.cell? ⟨B, 5, none⟩ = some (.int .i64 0) := cell_at HW.out 5
    have z0 : w3.frozen? ⟨B, 0, none⟩ = false := free_at HW.out 0
    have z1 : w3.frozen? ⟨B, 1, none⟩ = false := free_at HW.out 1
    have z2 : w3.frozen? ⟨B, 2, none⟩ = false := free_at HW.out 2
    have z3 : w3.frozen? ⟨B, 3, none⟩ = false := free_at HW.out 3
    have z4 : w3.frozen? ⟨B, 4, none⟩ = false := free_at HW.out 4
    have z5 : w3.frozen? ⟨B, 5, none⟩ = false := free_at HW.out 5
    have HAN := Lib.hid (ev_stored HW.out (.string y.ev.id) (.string y.ev.room) (.slice y.A y.ev.parents.length y.cap) (.string y.ev.thread) (.string y.ev.user) (.int .i64 y.ev.does) rfl _ rfl)
    simp only [World.setCells] at HAN
    have HNE := Lib.hid (mine_ne HMY.out HW.out (by decide))
    go_wp2_with fail
    clear r0 r1 r2 r3 r4 r5 z0 z1 z2 z3 z4 z5
    generalize World.setCell _ _ _ = w9 at HAN ⊢
    obtain ⟨k0, k1, k2, k3, k4, k5, k6⟩ := HAN.out
    refine bodyPost_ret (v := .tuple #[.agg #[.string y.ev.id, .string y.ev.room, .slice y.A y.ev.parents.length y.cap, .string y.ev.thread, .string y.ev.user, .int .i64 y.ev.does], .bool true]) ?_ rfl ?_
    · simp [results, Tryz.results93, go_sem, k0, k1, k2, k3, k4, k5]
    · refine ⟨y, ?_, HMY.out.grown k6 (fun j hj e => by injection e with e; exact HNE.out j hj e), ?_, fun _ => ⟨?_, ?_⟩, ?_⟩
      · rw [HH.out]; rfl
      · rw [HH.out]; intro e; cases e
      · rw [HY.out]; exact List.mem_map.2 ⟨n, HN.out, rfl⟩
      · rw [HY.out]; exact HE.out
      · exact HB.out.grown k6 HB.out.size (fun j hj => by injection hj with hj; omega)

set_option maxHeartbeats 1600000 in
theorem position_code (h : DgS w g room mb ns D) (k : ByteArray) (hk : k.size ≤ maxLen) : Calls Tryz.prog 62 #[.pointer (some ⟨g, 0, none⟩), .string k] w fun e w' => ∃ q : Po, e = .returned (.tuple #[.agg #[.int .i64 q.depth, .string q.id], .bool (hasE (nevs ns) k)]) ∧ (hasE (nevs ns) k = true → ∃ n ∈ ns, n.x.ev.id = k ∧ q = ⟨(n.d : Int), k⟩) ∧ (hasE (nevs ns) k = false → q = ⟨0, ⟨#[]⟩⟩) ∧ Below w.heap.size w w' := by
  have HW := Lib.hid (heap_alloc_new w (.cells #[.int .i64 0, .string ⟨#[]⟩] 55))
  have HB := Lib.hid (below_new w (.cells #[.int .i64 0, .string ⟨#[]⟩] 55))
  have HD := Lib.hid (h.below HB.out)
  clear h
  go_enter Tryz.func62, Tryz.ntmps62
  go_upto_region 1 with (fail)
  generalize w.alloc _ = w1 at HW HB HD ⊢
  generalize hB : w.heap.size = B at HW ⊢
  have c1 := HD.out.c1
  rcases HD.out.look k hk true with ⟨hh, hr⟩ | ⟨hh, n, hn, he, hr⟩
  · have HH := Lib.hid hh
    have HB2 := Lib.hid (below_new w1 (.cells #[.string ⟨#[]⟩, .string ⟨#[]⟩, .slice none 0 0, .string ⟨#[]⟩, .string ⟨#[]⟩, .int .i64 0, .int .i64 0] 109))
    unfold zeroN at hr
    clear hk hh HD
    go_upto_region 2 with (fail)
    clear c1 hr
    generalize w1.alloc _ = w2 at HB2 ⊢
    replace HW := Lib.hid ((HB2.out.block B (smem_lt HW.out)).trans HW.out)
    replace HB := Lib.hid (HB.out.trans (HB2.out.mono HB.out.size))
    have r0 : w2.cell? ⟨B, 0, none⟩ = some (.int .i64 0) := cell_at HW.out 0
    have r1 : w2.cell? ⟨B, 1, none⟩ = some (.string ⟨#[]⟩) := cell_at HW.out 1
    have z0 : w2.frozen? ⟨B, 0, none⟩ = false := free_at HW.out 0
    have z1 : w2.frozen? ⟨B, 1, none⟩ = false := free_at HW.out 1
    have HAN := Lib.hid (po_stored HW.out (.int .i64 0) (.string ⟨#[]⟩) rfl _ rfl)
    simp only [World.setCells] at HAN
    go_wp2_with fail
    clear r0 r1 z0 z1
    generalize World.setCell _ _ _ = w9 at HAN ⊢
    obtain ⟨k0, k1, k6⟩ := HAN.out
    refine bodyPost_ret (v := .tuple #[.agg #[.int .i64 0, .string ⟨#[]⟩], .bool false]) ?_ rfl ?_
    · simp [results, Tryz.results62, go_sem, k0, k1]
    · refine ⟨⟨0, ⟨#[]⟩⟩, ?_, ?_, fun _ => rfl, ?_⟩
      · rw [HH.out]
      · rw [HH.out]; intro e; cases e
      · exact HB.out.grown k6 HB.out.size (fun j hj => by injection hj with hj; omega)
  · have HH := Lib.hid hh
    have HE := Lib.hid he
    have HN := Lib.hid hn
    have HC := Lib.hid (fun W => clone_any n.x.ev.id W (by have := (may_short (HD.out.node hn).1).1; omega))
    have HB2 := Lib.hid (below_new w1 (.cells #[.string n.x.ev.id, .string n.x.ev.room, .slice n.x.A n.x.ev.parents.length n.x.cap, .string n.x.ev.thread, .string n.x.ev.user, .int .i64 n.x.ev.does, .int .i64 (n.d : Int)] 109))
    have HW2 := Lib.hid (heap_alloc_new w1 (.cells #[.string n.x.ev.id, .string n.x.ev.room, .slice n.x.A n.x.ev.parents.length n.x.cap, .string n.x.ev.thread, .string n.x.ev.user, .int .i64 n.x.ev.does, .int .i64 (n.d : Int)] 109))
    unfold NdV.val EvV.pv at hr
    clear hk hh hn he HD
    go_upto_region 2 with (fail)
    clear c1 hr
    generalize w1.alloc _ = w2 at HB2 HW2 ⊢
    replace HW := Lib.hid ((HB2.out.block B (smem_lt HW.out)).trans HW.out)
    replace HB := Lib.hid (HB.out.trans (HB2.out.mono HB.out.size))
    clear HB2
    generalize w1.heap.size = B6 at HW2 ⊢
    go_upto_region 4 with (fail)
    refine wp_region_held_drew (S := fun w' => Below w.heap.size w w' ∧ w'.heap[B6]? = some (.cells #[.string n.x.ev.id, .string n.x.ev.room, .slice n.x.A n.x.ev.parents.length n.x.cap, .string n.x.ev.thread, .string n.x.ev.user, .int .i64 n.x.ev.does, .int .i64 (n.d : Int)] 109 (0, 0))) (by kernel_rfl) ⟨HB.out.drew, HW2.out⟩ (fun hHeld => ?_)
    have hres : w2.drew.heap[B]? = _ := HW.out
    have hne : B ≠ B6 := fun e => by
      have h1 := HW.out
      rw [e, HW2.out] at h1
      injection h1 with h1
      injection h1 with _ h1
      exact absurd h1 (by decide)
    clear HB HW HW2
    generalize w2.drew = wd at hHeld hres ⊢
    refine wpAnyH_take (i := 0) (oi := ⟨some 20, _, _, _, _, _⟩) (v := ?vq0) rfl (by kernel_rfl) (by kernel_rfl) (by kernel_rfl) (fun _ _ _ h => h) (Or.inl ⟨by rfl, ?yq0⟩) hHeld ?rq0
    case yq0 =>
      intro wx hSx
      go_simp
      try with_reducible rfl
    try simp only [Act.put, List.setIfInBounds_toArray, List.set_cons_zero, List.set_cons_succ]
    refine wpAnyH_take (i := 2) (oi := ⟨some 22, _, _, _, _, _⟩) (v := ?vq2) rfl (by kernel_rfl) (by kernel_rfl) (by kernel_rfl) (fun _ _ _ h => h) (Or.inl ⟨by rfl, ?yq2⟩) hHeld ?rq2
    case yq2 =>
      intro wx hSx
      go_simp
      try with_reducible rfl
    try simp only [Act.put, List.setIfInBounds_toArray, List.set_cons_zero, List.set_cons_succ]
    refine wpAnyH_take (i := 3) (oi := ⟨some 23, _, _, _, _, _⟩) (v := ?vq3) rfl (by kernel_rfl) (by kernel_rfl) (by kernel_rfl) (fun _ _ _ h => h) (Or.inl ⟨by rfl, ?yq3⟩) hHeld ?rq3
    case yq3 =>
      intro wx hSx
      go_simp
      try with_reducible rfl
    try simp only [Act.put, List.setIfInBounds_toArray, List.set_cons_zero, List.set_cons_succ]
    refine wpAnyH_take (i := 1) (oi := ⟨some 21, _, _, _, _, _⟩) (v := ?vq1) rfl (by kernel_rfl) (by kernel_rfl) (by kernel_rfl) (fun _ _ _ h => h) (Or.inl ⟨by rfl, ?yq1⟩) hHeld ?rq1
    case yq1 =>
      intro wx hSx
      have z := cell_at hSx.2 6
      simp only [List.getElem?_toArray, List.getElem?_cons_succ, List.getElem?_cons_zero] at z
      go_simp
      try with_reducible rfl
    try simp only [Act.put, List.setIfInBounds_toArray, List.set_cons_zero, List.set_cons_succ]
    refine wpAnyH_take (i := 4) (oi := ⟨some 24, _, _, _, _, _⟩) (v := ?vq4) rfl (by kernel_rfl) (by kernel_rfl) (by kernel_rfl) (fun _ _ _ h => h) (Or.inl ⟨by rfl, ?yq4⟩) hHeld ?rq4
    case yq4 =>
      intro wx hSx
      have z := cell_at hSx.2 0
      simp only [List.getElem?_toArray, List.getElem?_cons_succ, List.getElem?_cons_zero] at z
      go_simp
      try with_reducible rfl
    try simp only [Act.put, List.setIfInBounds_toArray, List.set_cons_zero, List.set_cons_succ]
    refine wpAnyH_ready (rs := [5]) (by kernel_rfl) (by simp) ?_
    refine AllReadyH.cons (o := ⟨some 25, _, _, _, _, _⟩) rfl (fun K hK => ?_) AllReadyH.nil
    go_simp
    refine (HC.out _).mono ?_
    rintro e wn ⟨rfl, hbn⟩
    replace hres := (hbn.block B (smem_lt hres)).trans hres
    refine hK.out _ _ ⟨hHeld.1.trans (hbn.mono hHeld.1.size), (hbn.block B6 (smem_lt hHeld.2)).trans hHeld.2⟩ (fun hHeld => ?_)
    clear hK K hbn
    try simp only [Act.put, List.setIfInBounds_toArray, List.set_cons_zero, List.set_cons_succ]
    refine wpAnyH_take (i := 6) (oi := ⟨some 26, _, _, _, _, _⟩) (v := ?vq6) rfl (by kernel_rfl) (by kernel_rfl) (by kernel_rfl) (fun _ _ _ h => h) (Or.inl ⟨by rfl, ?yq6⟩) hHeld ?rq6
    case yq6 =>
      intro wx hSx
      go_simp
      try with_reducible rfl
    try simp only [Act.put, List.setIfInBounds_toArray, List.set_cons_zero, List.set_cons_succ]
    refine wpAnyH_ready (rs := [7]) (by kernel_rfl) (by simp) ?_
    refine AllReadyH.cons (o := ⟨none, _, _, _, _, _⟩) rfl (fun K hK => ?_) AllReadyH.nil
    have r0 : wn.cell? ⟨B, 0, none⟩ = some (.int .i64 0) := cell_at hres 0
    have r1 : wn.cell? ⟨B, 1, none⟩ = some (.string ⟨#[]⟩) := cell_at hres 1
    have z0 : wn.frozen? ⟨B, 0, none⟩ = false := free_at hres 0
    have z1 : wn.frozen? ⟨B, 1, none⟩ = false := free_at hres 1
    have HAN := po_stored hres (.int .i64 (n.d : Int)) (.string n.x.ev.id) rfl _ rfl
    simp only [World.setCells] at HAN
    go_simp
    generalize World.setCell _ _ _ = w9 at HAN ⊢
    obtain ⟨k0, k1, k6⟩ := HAN
    have hN9 : Below w.heap.size w w9 ∧ w9.heap[B6]? = some (.cells #[.string n.x.ev.id, .string n.x.ev.room, .slice n.x.A n.x.ev.parents.length n.x.cap, .string n.x.ev.thread, .string n.x.ev.user, .int .i64 n.x.ev.does, .int .i64 (n.d : Int)] 109 (0, 0)) := ⟨hHeld.1.grown k6 hHeld.1.size (fun j hj => by injection hj with hj; omega), (k6.block B6 (smem_lt hHeld.2) (fun e => hne (by injection e with e; exact e.symm))).trans hHeld.2⟩
    refine hK.out _ _ hN9 (fun hHeld => ?_)
    clear hK K r0 r1 z0 z1 hres
    try simp only [Act.put, List.setIfInBounds_toArray, List.set_cons_zero, List.set_cons_succ]
    refine wpAnyH_take (i := 8) (oi := ⟨some 5, _, _, _, _, _⟩) (v := ?vq8) rfl (by kernel_rfl) (by kernel_rfl) (by kernel_rfl) (fun _ _ _ h => h) (Or.inl ⟨by rfl, ?yq8⟩) hHeld ?rq8
    case yq8 =>
      intro wx hSx
      go_simp
      try with_reducible rfl
    try simp only [Act.put, List.setIfInBounds_toArray, List.set_cons_zero, List.set_cons_succ]
    refine wpAnyH_done (by kernel_rfl) ?_ _
    go_wp2_with fail
    refine bodyPost_ret (v := .tuple #[.agg #[.int .i64 (n.d : Int), .string n.x.ev.id], .bool true]) ?_ rfl ?_
    · simp [results, Tryz.results62, go_sem, k0, k1]
    · refine ⟨⟨(n.d : Int), n.x.ev.id⟩, ?_, fun _ => ⟨n, HN.out, HE.out, by rw [HE.out]⟩, (by rw [HH.out]; intro e; cases e), hHeld.1⟩
      rw [HH.out]
end
end Go.Proofs.YtjiecjpepiknmaaGreat
