/-
  The document's Few: an event's texts cut to 30 bytes, its first six parents.
-/
import Derived.Test.YtjiecjpepiknmaaGreatDagHeads
namespace Go.Proofs.YtjiecjpepiknmaaGreat
set_option maxRecDepth 20000
open Go.RowKit
set_option linter.unusedVariables false
set_option linter.unusedSimpArgs false

def fewE (e : Ev) : Ev := ⟨fewS e.id 30, fewS e.room 30, (e.parents.take 6).map (fun p => fewS p 30), fewS e.thread 30, fewS e.user 30, e.does⟩
theorem fewE_ok {e : Ev} (h : e.ok) : (fewE e).ok := by
  have k : ∀ s : ByteArray, (fewS s 30).size ≤ maxLen := fun s => Nat.le_trans (fewS_size s 30) (by unfold maxLen; omega)
  refine ⟨k _, k _, k _, k _, fun p hp => ?_, h.2.2.2.2.2⟩
  obtain ⟨q, _, rfl⟩ := List.mem_map.1 hp
  exact k _
theorem few_succ {ps : List ByteArray} {p : ByteArray} {a : Nat} (h : ps[a]? = some p) : (ps.take (a + 1)).map (fun p => fewS p 30) = (ps.take a).map (fun p => fewS p 30) ++ [fewS p 30] := by
  rw [List.take_add_one, h, List.map_append]
  rfl
/-- Two blocks for events: one in hand, one for the answer. -/
structure BxS (w wr : World) (B1 B2 : Nat) (cs : Array Value) : Prop where
  ne : B1 ≠ B2
  lo1 : w.heap.size ≤ B1
  lo2 : w.heap.size ≤ B2
  box : wr.heap[B1]? = some (.cells cs 33 (0, 0))
  res : wr.heap[B2]? = some (.cells #[.string ⟨#[]⟩, .string ⟨#[]⟩, .slice none 0 0, .string ⟨#[]⟩, .string ⟨#[]⟩, .int .i64 0] 33 (0, 0))
  below : Below w.heap.size w wr
theorem BxS.on {w wr w2 : World} {B1 B2 : Nat} {cs : Array Value} (h : BxS w wr B1 B2 cs) (hb : Below wr.heap.size wr w2) : BxS w w2 B1 B2 cs :=
  ⟨h.ne, h.lo1, h.lo2, (hb.block B1 (smem_lt h.box)).trans h.box, (hb.block B2 (smem_lt h.res)).trans h.res, h.below.trans (hb.mono h.below.size)⟩
theorem BxS.set {w wr : World} {B1 B2 : Nat} {cs : Array Value} (h : BxS w wr B1 B2 cs) (i : Nat) (u : Value) : BxS w (wr.setCell ⟨B1, i, none⟩ u) B1 B2 (cs.setIfInBounds i u) :=
  ⟨h.ne, h.lo1, h.lo2, heap_set h.box i u, (Below.heap_setCell wr _ u B2 h.ne.symm).trans h.res, h.below.grown (sm_grown wr B1 i [u]) h.below.size (fun k hk => by injection hk with hk; have := h.lo1; omega)⟩
theorem BxS.start (w : World) (cs : Array Value) : BxS w ((w.alloc (.cells cs 33)).alloc (.cells #[.string ⟨#[]⟩, .string ⟨#[]⟩, .slice none 0 0, .string ⟨#[]⟩, .string ⟨#[]⟩, .int .i64 0] 33)) w.heap.size (w.heap.size + 1) cs := by
  have s1 : ∀ (u : World) (o : Obj), (u.alloc o).heap.size = u.heap.size + 1 := fun u o => by simp
  have h2 := heap_alloc_new w (.cells cs 33)
  have h3 := heap_alloc_new (w.alloc (.cells cs 33)) (.cells #[.string ⟨#[]⟩, .string ⟨#[]⟩, .slice none 0 0, .string ⟨#[]⟩, .string ⟨#[]⟩, .int .i64 0] 33)
  rw [s1] at h3
  refine ⟨by omega, Nat.le_refl _, by omega, ?_, h3, ((Gr.refl w).alloc _ |>.alloc _).below⟩
  rw [heap_alloc_old _ _ (by rw [s1]; omega)]
  exact h2
/-- The answer is laid. -/
theorem BxS.answer {w wr : World} {B1 B2 : Nat} {cs : Array Value} (h : BxS w wr B1 B2 cs) (a0 a1 a2 a3 a4 a5 : Value) : ∀ W, W = wr.setCells B2 0 [a0, a1, a2, a3, a4, a5] → W.cell? ⟨B2, 0, none⟩ = some a0 ∧ W.cell? ⟨B2, 1, none⟩ = some a1 ∧ W.cell? ⟨B2, 2, none⟩ = some a2 ∧ W.cell? ⟨B2, 3, none⟩ = some a3 ∧ W.cell? ⟨B2, 4, none⟩ = some a4 ∧ W.cell? ⟨B2, 5, none⟩ = some a5 ∧ Below w.heap.size w W ∧ wr.grownBy W (some B2) := by
  rintro W rfl
  obtain ⟨cur, z1, z2, z3⟩ := sm_at B2 33 [a0, a1, a2, a3, a4, a5] 0 wr _ h.res (Nat.le_refl 6)
  refine ⟨?_, ?_, ?_, ?_, ?_, ?_, h.below.grown (sm_grown wr B2 0 _) h.below.size (fun k hk => by injection hk with hk; have := h.lo2; omega), sm_grown wr B2 0 _⟩
  · rw [cell_at z1 0, ← Array.getElem?_toList, z3]; rfl
  · rw [cell_at z1 1, ← Array.getElem?_toList, z3]; rfl
  · rw [cell_at z1 2, ← Array.getElem?_toList, z3]; rfl
  · rw [cell_at z1 3, ← Array.getElem?_toList, z3]; rfl
  · rw [cell_at z1 4, ← Array.getElem?_toList, z3]; rfl
  · rw [cell_at z1 5, ← Array.getElem?_toList, z3]; rfl

set_option maxHeartbeats 1600000 in
theorem refFewE_any (x : EvV) (w : World) (hx : x.at w) :
    Calls Tryz.prog 50 #[x.val] w fun e w' => ∃ y : EvV, e = .returned y.val ∧ y.at w' ∧ y.ev = fewE x.ev ∧ LT.Mine w' w.heap.size y.pv y.ev.parents ∧ Below w.heap.size w w' := by
  have HX := Lib.hid hx
  have HB := Lib.hid (BxS.start w #[.string x.ev.id, .string x.ev.room, x.pv, .string x.ev.thread, .string x.ev.user, .int .i64 x.ev.does])
  obtain ⟨hi, hr, ht, hu, hp, hd1, hd2⟩ := hx.2
  have HF1 := Lib.hid (fun W => few_any x.ev.id 30 (by decide) W hi)
  have HF2 := Lib.hid (fun W => few_any x.ev.room 30 (by decide) W hr)
  have HF3 := Lib.hid (fun W => few_any x.ev.user 30 (by decide) W hu)
  have HF4 := Lib.hid (fun W => few_any x.ev.thread 30 (by decide) W ht)
  have HFP := Lib.hid (fun p (hq : p ∈ x.ev.parents) W => few_any p 30 (by decide) W (hp p hq))
  have hpl : x.ev.parents.length ≤ x.cap ∧ x.cap ≤ 9223372036854775807 := by
    obtain ⟨_, _, he, h5, hm, _⟩ := id hx.1
    injection he with _ he2 he3
    unfold maxLen at hm
    omega
  clear hx hi hr ht hu hp
  unfold EvV.val EvV.pv at *
  go_enter Tryz.func50, Tryz.ntmps50
  go_upto_region 1 with (fail)
  generalize World.alloc _ _ = w1 at HB ⊢
  generalize w.heap.size + 1 = B2 at HB ⊢
  generalize hB1 : w.heap.size = B1 at HB ⊢
  have c1 : w1.cell? ⟨B1, 0, none⟩ = some (.string x.ev.id) := cell_at HB.out.box 0
  have f1 : w1.frozen? ⟨B1, 0, none⟩ = false := free_at HB.out.box 0
  replace HB := Lib.hid (HB.out.set 0 (.string (fewS x.ev.id 30)))
  simp only [List.setIfInBounds_toArray, List.set_cons_succ, List.set_cons_zero] at HB
  go_upto_region 2 with (go_at_call 23; refine (HF1.out _).mono ?_; rintro e w' ⟨rfl, rfl⟩)
  clear c1 f1
  generalize w1.setCell _ _ = w2 at HB ⊢
  have c2 : w2.cell? ⟨B1, 1, none⟩ = some (.string x.ev.room) := cell_at HB.out.box 1
  have f2 : w2.frozen? ⟨B1, 1, none⟩ = false := free_at HB.out.box 1
  replace HB := Lib.hid (HB.out.set 1 (.string (fewS x.ev.room 30)))
  simp only [List.setIfInBounds_toArray, List.set_cons_succ, List.set_cons_zero] at HB
  go_upto_region 3 with (go_at_call 23; refine (HF2.out _).mono ?_; rintro e w' ⟨rfl, rfl⟩)
  clear c2 f2
  generalize w2.setCell _ _ = w3 at HB ⊢
  have c3 : w3.cell? ⟨B1, 4, none⟩ = some (.string x.ev.user) := cell_at HB.out.box 4
  have f3 : w3.frozen? ⟨B1, 4, none⟩ = false := free_at HB.out.box 4
  replace HB := Lib.hid (HB.out.set 4 (.string (fewS x.ev.user 30)))
  simp only [List.setIfInBounds_toArray, List.set_cons_succ, List.set_cons_zero] at HB
  go_upto_region 4 with (go_at_call 23; refine (HF3.out _).mono ?_; rintro e w' ⟨rfl, rfl⟩)
  clear c3 f3
  generalize w3.setCell _ _ = w4 at HB ⊢
  have c4 : w4.cell? ⟨B1, 3, none⟩ = some (.string x.ev.thread) := cell_at HB.out.box 3
  have f4 : w4.frozen? ⟨B1, 3, none⟩ = false := free_at HB.out.box 3
  replace HB := Lib.hid (HB.out.set 3 (.string (fewS x.ev.thread 30)))
  simp only [List.setIfInBounds_toArray, List.set_cons_succ, List.set_cons_zero] at HB
  go_upto_region 5 with (go_at_call 23; refine (HF4.out _).mono ?_; rintro e w' ⟨rfl, rfl⟩)
  clear c4 f4
  generalize w4.setCell _ _ = w5 at HB ⊢
  go_wp2_with fail
  go_loopw [3, 4] (fun u i wr => ∃ (a : Nat) (ts : List ByteArray) (Ao : Option Addr) (co : Nat), u = .slice Ao ts.length co ∧ i = .int .i64 (a : Int) ∧ a ≤ 6 ∧ a ≤ x.ev.parents.length ∧ ts.length ≤ 6 ∧ Hid (HdS w5 wr u ts) ∧ Hid (ts = (x.ev.parents.take a).map (fun p => fewS p 30))) (fun _ i _ => 6 - (intOf i).toNat)
  case atStart => exact ⟨0, [], none, 0, rfl, rfl, Nat.zero_le _, Nat.zero_le _, Nat.zero_le _, Lib.hid ⟨Below.refl _ _, .inl ⟨rfl, rfl⟩⟩, Lib.hid rfl⟩
  case round =>
    obtain ⟨a, ts, Ao, co, rfl, rfl, ha, hap, htl, HO, HT⟩ := hrel
    have HBR := Lib.hid (HB.out.on HO.out.below)
    have c1 : wr.cell? ⟨B1, 2, none⟩ = some (.slice x.A x.ev.parents.length x.cap) := cell_at HBR.out.box 2
    by_cases hgo : a < x.ev.parents.length ∧ a < 6
    · obtain ⟨hax, ha6⟩ := hgo
      have q1 : decide ((a : Int) < (x.ev.parents.length : Int)) = true := decide_eq_true (by omega)
      have q2 : decide ((a : Int) < 6) = true := decide_eq_true (by omega)
      have hp : x.ev.parents[a]? = some x.ev.parents[a] := List.getElem?_eq_getElem hax
      generalize x.ev.parents[a] = p at hp
      have HP := Lib.hid hp
      have HC := Lib.hid (HFP.out p (List.mem_of_getElem? hp))
      have hat := HX.out.1
      unfold EvV.pv at hat
      obtain ⟨bp, op, hA, hbp, hcp⟩ := text_at hat hp
      have hip := index_any (P := Tryz.prog) knT (by decide) (b := bp) (off := op) (cap := x.cap) hax
      simp only [LT] at hip
      rw [Nat.mul_one] at hip
      rw [hA] at c1
      have e3 : wr.cell? ⟨bp, op + a, none⟩ = some (.string p) := (HBR.out.below.cell (p := ⟨bp, op + a, none⟩) hbp).trans hcp
      have HTS := Lib.hid (few_succ HP.out)
      clear hp hat hA hcp
      go_upto_region 9 with (fail)
      go_wp2_with fail
      go_at_call 23
      refine (HC.out _).mono ?_
      rintro e w' ⟨rfl, rfl⟩
      generalize fewS p 30 = s at HTS ⊢
      have hlit := Lib.hid (lit_slice (L := LT) wr s wr.heap.size rfl #[.string s] rfl)
      have hb6 := below_new wr (.cells #[.string s] 9)
      have HA6 := Lib.hid (HO.out.on hb6)
      replace hlit := Lib.hid (show LT.Slice (wr.alloc (.cells #[.string s] 9)) (.slice (some ⟨wr.heap.size, 0, none⟩) 1 1) [s] from hlit.out)
      have hsz6 : w5.heap.size ≤ (wr.alloc (.cells #[.string s] 9)).heap.size := HA6.out.below.size
      clear hb6 c1 e3
      go_wp2_with (at_builtin; refine wpList_puts rfl knT (.tmp 32) (.tmp 39) 31 rfl (v := .slice Ao ts.length co) rfl HA6.out.row hsz6 (.slice (some ⟨wr.heap.size, 0, none⟩) 1 1) [s] 1 rfl rfl (hlit.out.srcN knT rfl) (by omega) ?_; intro A7 cap7 w7 m7 g7 o7; have H7 : Hid (HdS w5 w7 (.slice A7 (ts.length + 1) cap7) (ts ++ [s])) := Lib.hid ⟨HA6.out.below.grown g7 hsz6 (fun k hk => (HA6.out.row.lt k hk).1), m7⟩; clear m7 g7 o7)
      have hts : (ts ++ [s]).length ≤ 6 := by
        have h9 := HTS.out
        rw [← HT.out] at h9
        rw [← h9, List.length_map, List.length_take]
        omega
      refine ⟨⟨a + 1, ts ++ [s], A7, cap7, by rw [List.length_append]; rfl, by go_num, by omega, by omega, hts, H7, Lib.hid (by rw [HTS.out, ← HT.out])⟩, ?_⟩
      simp [intOf]; omega
    · have HT6 : Hid (ts = (x.ev.parents.take 6).map (fun p => fewS p 30)) := Lib.hid (by
        rw [HT.out]
        by_cases h6 : a = 6
        · rw [h6]
        · obtain rfl : a = x.ev.parents.length := by omega
          rw [List.take_length, List.take_of_length_le (by omega)])
      have HBN := Lib.hid (HBR.out.set 2 (.slice Ao ts.length co))
      simp only [List.setIfInBounds_toArray, List.set_cons_succ, List.set_cons_zero] at HBN
      have f1 : wr.frozen? ⟨B1, 2, none⟩ = false := free_at HBR.out.box 2
      have HMN := Lib.hid (HO.out.row)
      have hB1l : B1 < w5.heap.size := smem_lt HB.out.box
      have hB2l : B2 < w5.heap.size := smem_lt HB.out.res
      have HGR := Lib.hid (sm_grown wr B1 2 [.slice Ao ts.length co])
      simp only [World.setCells] at HGR
      have HM6 := Lib.hid (HMN.out.grown HGR.out (fun k hk he => by injection he with he; have := (HMN.out.lt k hk).1; omega))
      have hw5 : w.heap.size ≤ w5.heap.size := HB.out.below.size
      clear HBR HMN HGR HO
      by_cases hax : a < x.ev.parents.length
      · have q1 : decide ((a : Int) < (x.ev.parents.length : Int)) = true := decide_eq_true (by omega)
        have q2 : decide ((a : Int) < 6) = false := decide_eq_false (by omega)
        go_upto_region 11 with (fail)
        clear c1 f1
        generalize wr.setCell _ _ = w6 at HBN HM6 ⊢
        have g0 : w6.cell? ⟨B1, 0, none⟩ = some (.string (fewS x.ev.id 30)) := cell_at HBN.out.box 0
        have g1 : w6.cell? ⟨B1, 1, none⟩ = some (.string (fewS x.ev.room 30)) := cell_at HBN.out.box 1
        have g2 : w6.cell? ⟨B1, 2, none⟩ = some (.slice Ao ts.length co) := cell_at HBN.out.box 2
        have g3 : w6.cell? ⟨B1, 3, none⟩ = some (.string (fewS x.ev.thread 30)) := cell_at HBN.out.box 3
        have g4 : w6.cell? ⟨B1, 4, none⟩ = some (.string (fewS x.ev.user 30)) := cell_at HBN.out.box 4
        have g5 : w6.cell? ⟨B1, 5, none⟩ = some (.int .i64 x.ev.does) := cell_at HBN.out.box 5
        have r0 : w6.cell? ⟨B2, 0, none⟩ = some (.string ⟨#[]⟩) := cell_at HBN.out.res 0
        have r1 : w6.cell? ⟨B2, 1, none⟩ = some (.string ⟨#[]⟩) := cell_at HBN.out.res 1
        have r2 : w6.cell? ⟨B2, 2, none⟩ = some (.slice none 0 0) := cell_at HBN.out.res 2
        have r3 : w6.cell? ⟨B2, 3, none⟩ = some (.string ⟨#[]⟩) := cell_at HBN.out.res 3
        have r4 : w6.cell? ⟨B2, 4, none⟩ = some (.string ⟨#[]⟩) := cell_at HBN.out.res 4
        have r5 : w6.cell? ⟨B2, 5, none⟩ = some (.int .i64 0) := cell_at HBN.out.res 5
        have z0 : w6.frozen? ⟨B2, 0, none⟩ = false := free_at HBN.out.res 0
        have z1 : w6.frozen? ⟨B2, 1, none⟩ = false := free_at HBN.out.res 1
        have z2 : w6.frozen? ⟨B2, 2, none⟩ = false := free_at HBN.out.res 2
        have z3 : w6.frozen? ⟨B2, 3, none⟩ = false := free_at HBN.out.res 3
        have z4 : w6.frozen? ⟨B2, 4, none⟩ = false := free_at HBN.out.res 4
        have z5 : w6.frozen? ⟨B2, 5, none⟩ = false := free_at HBN.out.res 5
        have HAN := Lib.hid (HBN.out.answer (.string (fewS x.ev.id 30)) (.string (fewS x.ev.room 30)) (.slice Ao ts.length co) (.string (fewS x.ev.thread 30)) (.string (fewS x.ev.user 30)) (.int .i64 x.ev.does) _ rfl)
        simp only [World.setCells] at HAN
        go_wp2_with fail
        clear g0 g1 g2 g3 g4 g5 r0 r1 r2 r3 r4 r5 z0 z1 z2 z3 z4 z5
        generalize World.setCell _ _ _ = w9 at HAN ⊢
        obtain ⟨k0, k1, k2, k3, k4, k5, k6, k7⟩ := HAN.out
        have HM9 := Lib.hid (HM6.out.grown k7 (fun k hk he => by injection he with he; have := (HM6.out.lt k hk).1; omega))
        refine bodyPost_ret (v := .agg #[.string (fewS x.ev.id 30), .string (fewS x.ev.room 30), .slice Ao ts.length co, .string (fewS x.ev.thread 30), .string (fewS x.ev.user 30), .int .i64 x.ev.does]) ?_ rfl ?_
        · simp [results, Tryz.results50, go_sem, k0, k1, k2, k3, k4, k5]
        · have hpt : (fewE x.ev).parents = ts := HT6.out.symm
          refine ⟨⟨fewE x.ev, Ao, co⟩, ?_, ⟨?_, fewE_ok HX.out.2⟩, rfl, ?_, k6⟩
          · simp only [hpt]
            rfl
          · unfold EvV.pv
            simp only [hpt]
            exact HM9.out.slice
          · simp only [hpt]
            exact HM9.out.mono hw5
      · have q1 : decide ((a : Int) < (x.ev.parents.length : Int)) = false := decide_eq_false (by omega)
        go_upto_region 11 with (fail)
        clear c1 f1
        generalize wr.setCell _ _ = w6 at HBN HM6 ⊢
        have g0 : w6.cell? ⟨B1, 0, none⟩ = some (.string (fewS x.ev.id 30)) := cell_at HBN.out.box 0
        have g1 : w6.cell? ⟨B1, 1, none⟩ = some (.string (fewS x.ev.room 30)) := cell_at HBN.out.box 1
        have g2 : w6.cell? ⟨B1, 2, none⟩ = some (.slice Ao ts.length co) := cell_at HBN.out.box 2
        have g3 : w6.cell? ⟨B1, 3, none⟩ = some (.string (fewS x.ev.thread 30)) := cell_at HBN.out.box 3
        have g4 : w6.cell? ⟨B1, 4, none⟩ = some (.string (fewS x.ev.user 30)) := cell_at HBN.out.box 4
        have g5 : w6.cell? ⟨B1, 5, none⟩ = some (.int .i64 x.ev.does) := cell_at HBN.out.box 5
        have r0 : w6.cell? ⟨B2, 0, none⟩ = some (.string ⟨#[]⟩) := cell_at HBN.out.res 0
        have r1 : w6.cell? ⟨B2, 1, none⟩ = some (.string ⟨#[]⟩) := cell_at HBN.out.res 1
        have r2 : w6.cell? ⟨B2, 2, none⟩ = some (.slice none 0 0) := cell_at HBN.out.res 2
        have r3 : w6.cell? ⟨B2, 3, none⟩ = some (.string ⟨#[]⟩) := cell_at HBN.out.res 3
        have r4 : w6.cell? ⟨B2, 4, none⟩ = some (.string ⟨#[]⟩) := cell_at HBN.out.res 4
        have r5 : w6.cell? ⟨B2, 5, none⟩ = some (.int .i64 0) := cell_at HBN.out.res 5
        have z0 : w6.frozen? ⟨B2, 0, none⟩ = false := free_at HBN.out.res 0
        have z1 : w6.frozen? ⟨B2, 1, none⟩ = false := free_at HBN.out.res 1
        have z2 : w6.frozen? ⟨B2, 2, none⟩ = false := free_at HBN.out.res 2
        have z3 : w6.frozen? ⟨B2, 3, none⟩ = false := free_at HBN.out.res 3
        have z4 : w6.frozen? ⟨B2, 4, none⟩ = false := free_at HBN.out.res 4
        have z5 : w6.frozen? ⟨B2, 5, none⟩ = false := free_at HBN.out.res 5
        have HAN := Lib.hid (HBN.out.answer (.string (fewS x.ev.id 30)) (.string (fewS x.ev.room 30)) (.slice Ao ts.length co) (.string (fewS x.ev.thread 30)) (.string (fewS x.ev.user 30)) (.int .i64 x.ev.does) _ rfl)
        simp only [World.setCells] at HAN
        go_wp2_with fail
        clear g0 g1 g2 g3 g4 g5 r0 r1 r2 r3 r4 r5 z0 z1 z2 z3 z4 z5
        generalize World.setCell _ _ _ = w9 at HAN ⊢
        obtain ⟨k0, k1, k2, k3, k4, k5, k6, k7⟩ := HAN.out
        have HM9 := Lib.hid (HM6.out.grown k7 (fun k hk he => by injection he with he; have := (HM6.out.lt k hk).1; omega))
        refine bodyPost_ret (v := .agg #[.string (fewS x.ev.id 30), .string (fewS x.ev.room 30), .slice Ao ts.length co, .string (fewS x.ev.thread 30), .string (fewS x.ev.user 30), .int .i64 x.ev.does]) ?_ rfl ?_
        · simp [results, Tryz.results50, go_sem, k0, k1, k2, k3, k4, k5]
        · have hpt : (fewE x.ev).parents = ts := HT6.out.symm
          refine ⟨⟨fewE x.ev, Ao, co⟩, ?_, ⟨?_, fewE_ok HX.out.2⟩, rfl, ?_, k6⟩
          · simp only [hpt]
            rfl
          · unfold EvV.pv
            simp only [hpt]
            exact HM9.out.slice
          · simp only [hpt]
            exact HM9.out.mono hw5
end Go.Proofs.YtjiecjpepiknmaaGreat
