/-
  Package parcel: Read, walked: what is given up is recovered in the deferred call.
-/
import Derived.Test.YtnabbebkmafakaaPUnpack
import Derived.Defers
import Derived.Recover
namespace Go.Proofs.Ytnabbebkmafakaa
set_option maxRecDepth 20000
open Go.RowKit
set_option linter.unusedVariables false
set_option linter.unusedSimpArgs false

def zeroPV : Value := .agg #[.bool false, .string ⟨#[]⟩, .string ⟨#[]⟩, .int .i64 0, .slice none 0 0]
def ReadPost (w : World) (o : Option Par) (e : Ending) (w' : World) : Prop :=
  Below w.heap.size w w' ∧ ((∃ p S, o = some p ∧ e = .returned (.tuple #[parV p S, .int .i64 0]) ∧ MadeE w' w.heap.size S p.edus) ∨ (o = none ∧ e = .returned (.tuple #[zeroPV, .int .i64 2])))

theorem catch_panicking (p q : Nat) (w : World) (x0 x1 x2 x3 x4 y : Value) (hp : w.heap[p]? = some (.cells #[x0, x1, x2, x3, x4] 33 (0, 0))) (hq : w.heap[q]? = some (.cells #[y] 30 (0, 0))) (hne : p ≠ q) :
    CallsD Try.prog 39 #[.pointer (some ⟨p, 0, none⟩), .pointer (some ⟨q, 0, none⟩)] (.panicking gaveUp) w fun e u' w' =>
      e = .returned (.tuple #[]) ∧ u' = .panicking [{ v := .iface 30 (.int .i64 2), recovered := true }] ∧ w' = (w.setRow p #[.bool false, .string ⟨#[]⟩, .string ⟨#[]⟩, .int .i64 0, .slice none 0 0]).setCell ⟨q, 0, none⟩ (.int .i64 2) := by
  obtain ⟨d0, d1, d2, d3, d4⟩ := cells5p hp
  have f0 := free_at hp 0
  have f1 := free_at hp 1
  have f2 := free_at hp 2
  have f3 := free_at hp 3
  have f4 := free_at hp 4
  have e0 : w.cell? ⟨q, 0, none⟩ = some y := cell_at hq 0
  have g0 := free_at hq 0
  refine callsD_of_wpS Try.func39 rfl fun c₀ cs hu => ?_
  unfold gaveUp at hu
  apply wpS_seq
  apply wpS_region
  simp [wpOpsS, go_sem, recoverD, hu, Try.ntmps39, Exit.thenS]
  refine wpS_cond (t := true) (by simp [Act.eval, Array.replicate]) ?_
  simp only [if_true]
  have HP := Lib.hid hp
  clear d0 d1 d2 d3 d4 f0 f1 f2 f3 f4 hp
  have e1 : (w.setRow p #[.bool false, .string ⟨#[]⟩, .string ⟨#[]⟩, .int .i64 0, .slice none 0 0]).heap[q]? = some (.cells #[y] 30 (0, 0)) := (setRow_other _ _ _ _ (Ne.symm hne)).trans hq
  have e2 := cell_at e1 0
  have e3 := free_at e1 0
  replace e2 : (w.setRow p #[.bool false, .string ⟨#[]⟩, .string ⟨#[]⟩, .int .i64 0, .slice none 0 0]).cell? ⟨q, 0, none⟩ = some y := e2
  clear e0 g0 hq e1
  refine wpS_of_wp ?_
  simp only [Array.replicate_succ, Array.replicate_zero, List.push_toArray, List.append_toArray, List.nil_append, List.cons_append, List.setIfInBounds_toArray, List.set_cons_zero, List.set_cons_succ]
  go_wp2_with (refine wpList_store_row rfl 33 (.tmp 0) (.tmp 4) rfl p #[.bool false, .string ⟨#[]⟩, .string ⟨#[]⟩, .int .i64 0, .slice none 0 0] rfl rfl 33 _ HP.out par_size rfl (one5 _ _ _ _ _ _ _) ?_)
  generalize hW : w.setRow _ _ = W at *
  simp [bodyPostS, results, Try.results39]

theorem catch_idle (p q : Addr) (w : World) :
    CallsD Try.prog 39 #[.pointer (some p), .pointer (some q)] .returning w fun e u' w' => e = .returned (.tuple #[]) ∧ u' = .returning ∧ w' = w := by
  refine callsD_of_wpS Try.func39 rfl fun c₀ cs hu => ?_
  apply wpS_seq
  apply wpS_region
  simp [wpOpsS, go_sem, recoverD, hu, Try.ntmps39, Exit.thenS]
  refine wpS_cond (t := false) (by simp [Act.eval, Array.replicate]) ?_
  simp only [Bool.false_eq_true, if_false]
  refine wpS_of_wp (wp_skip ?_)
  cases c₀
  simp_all [bodyPostS, results, Try.results39]

set_option maxHeartbeats 1600000 in
theorem readPar_any (v : Value) (bs : List UInt8) (lo : Nat) (w : World) (h : ArgQ w lo v bs) (hl : bs.length ≤ 1000000) :
    Calls Try.prog 17 #[v] w (ReadPost w (readP 16 1000000 bs)) := by
  have HU := Lib.hid (fun w' (hb : Below w.heap.size w w') => unpack_any v bs lo w' (h.below hb) hl)
  generalize readP 16 1000000 bs = o at *
  clear h hl
  have hmf : ∀ (fn : Fn) (first cap : Array Value) (w : World), (Instr.makeFunc fn first cap).run Try.prog w = .ok (.func fn first cap) w := fun _ _ _ _ => rfl
  go_enter_defers Try.func17, Try.ntmps17
  go_wp2_with fail
  have hB := later (below_new w (.cells #[.bool false, .string ⟨#[]⟩, .string ⟨#[]⟩, .int .i64 0, .slice none 0 0] 33)) (below_new _ (.cells #[.int .i64 0] 30))
  have hp := heap_alloc2_old w (.cells #[.bool false, .string ⟨#[]⟩, .string ⟨#[]⟩, .int .i64 0, .slice none 0 0] 33) (.cells #[.int .i64 0] 30)
  have hq := heap_alloc2_new w (.cells #[.bool false, .string ⟨#[]⟩, .string ⟨#[]⟩, .int .i64 0, .slice none 0 0] 33) (.cells #[.int .i64 0] 30)
  generalize hW : ((w.alloc (.cells #[.bool false, .string ⟨#[]⟩, .string ⟨#[]⟩, .int .i64 0, .slice none 0 0] 33)).alloc (.cells #[.int .i64 0] 30)) = W at *
  clear hW
  refine (HU.out _ hB).mono ?_
  rintro e w1 ⟨hb1, ⟨p, S, ho, rfl, hm⟩ | ⟨ho, rfl⟩⟩
  · obtain ⟨A, cap, rfl, z1, z2, z3, z4⟩ := hm.slice
    have hp1 := (hb1.block _ (heap_lt hp)).trans hp
    have hq1 := (hb1.block _ (heap_lt hq)).trans hq
    have hB1 := later hB hb1
    have hm1 := hm.mono hB.size
    clear hb1 hp hq hm hB z1 z2 z3 z4 HU
    obtain ⟨ack, frm, dest, id, es⟩ := p
    simp only [parV] at *
    have hp2 := setRow_heap _ _ _ #[.bool ack, .string frm, .string dest, .int .i64 id, .slice A es.length cap] _ _ hp1
    have hq2 := (setRow_other w1 w.heap.size (w.heap.size + 1) #[.bool ack, .string frm, .string dest, .int .i64 id, .slice A es.length cap] (by omega)).trans hq1
    have hB2 := below_setRow hB1 (Nat.le_refl w.heap.size) #[.bool ack, .string frm, .string dest, .int .i64 id, .slice A es.length cap]
    have hm2 := made_keep hm1 hp1 (by decide) (grown_setRow w1 w.heap.size #[.bool ack, .string frm, .string dest, .int .i64 id, .slice A es.length cap])
    replace hp1 := Lib.hid hp1
    have e2 : (w1.setRow w.heap.size #[.bool ack, .string frm, .string dest, .int .i64 id, .slice A es.length cap]).cell? ⟨w.heap.size + 1, 0, none⟩ = some (.int .i64 0) := cell_at hq2 0
    have e3 := free_at hq2 0
    have HP2 := Lib.hid hp2
    have HQ2 := Lib.hid hq2
    have HB2 := Lib.hid hB2
    have HM2 := Lib.hid hm2
    clear hp2 hq2 hq1 hB1 hB2 hm1 hm2
    go_wp2_with (refine wpList_store_row rfl 33 (.tmp 2) (.tmp 6) rfl w.heap.size #[.bool ack, .string frm, .string dest, .int .i64 id, .slice A es.length cap] rfl rfl 33 _ hp1.out par_size rfl (one5 _ _ _ _ _ _ _) ?_)
    clear hp1
    generalize hW2 : World.setRow _ _ _ = W2 at *
    clear hW2 e2 e3 W w1
    have HP3 := Lib.hid ((Below.heap_setCell W2 ⟨w.heap.size + 1, 0, none⟩ (.int .i64 0) w.heap.size (by simp)).trans HP2.out)
    have HQ3 := Lib.hid (heap_set HQ2.out 0 (.int .i64 0))
    have HB3 : Hid (Below w.heap.size w (W2.setCell ⟨w.heap.size + 1, 0, none⟩ (.int .i64 0))) := Lib.hid (HB2.out.setCell (by simp) _)
    have HM3 := Lib.hid (made_keep HM2.out HQ2.out (by decide) (grown_set W2 (w.heap.size + 1) 0 (.int .i64 0)))
    generalize hW3 : World.setCell _ _ _ = W3 at *
    clear hW3 HP2 HQ2 HB2 HM2
    refine leaves_cons (f := 39) (args := #[.pointer (some ⟨w.heap.size, 0, none⟩), .pointer (some ⟨w.heap.size + 1, 0, none⟩)]) (by simp) (by simp [go_sem]) ?_
    refine (catch_idle ⟨w.heap.size, 0, none⟩ ⟨w.heap.size + 1, 0, none⟩ _).mono ?_
    rintro e u' w'' ⟨rfl, rfl, rfl⟩
    obtain ⟨d0, d1, d2, d3, d4⟩ := cells5p HP3.out
    have d5 : w''.cell? ⟨w.heap.size + 1, 0, none⟩ = some (.int .i64 0) := cell_at HQ3.out 0
    refine ⟨.tuple #[.agg #[.bool ack, .string frm, .string dest, .int .i64 id, .slice A es.length cap], .int .i64 0], ?_, HB3.out, .inl ⟨_, _, ho, rfl, HM3.out⟩⟩
    simp [results, Try.results17, go_sem, d0, d1, d2, d3, d4, d5]
  · have hp1 := (hb1.block _ (heap_lt hp)).trans hp
    have hq1 := (hb1.block _ (heap_lt hq)).trans hq
    have hB1 := later hB hb1
    clear hb1 hp hq hB HU
    refine leaves_cons (f := 39) (args := #[.pointer (some ⟨w.heap.size, 0, none⟩), .pointer (some ⟨w.heap.size + 1, 0, none⟩)]) (by simp) (by simp [go_sem]) ?_
    refine (catch_panicking w.heap.size (w.heap.size + 1) _ _ _ _ _ _ _ hp1 hq1 (by omega)).mono ?_
    rintro e u' w'' ⟨rfl, rfl, rfl⟩
    have hp2 := setRow_heap _ _ _ #[.bool false, .string ⟨#[]⟩, .string ⟨#[]⟩, .int .i64 0, .slice none 0 0] _ _ hp1
    have hq2 := (setRow_other w1 w.heap.size (w.heap.size + 1) #[.bool false, .string ⟨#[]⟩, .string ⟨#[]⟩, .int .i64 0, .slice none 0 0] (by omega)).trans hq1
    have hB2 := below_setRow hB1 (Nat.le_refl w.heap.size) #[.bool false, .string ⟨#[]⟩, .string ⟨#[]⟩, .int .i64 0, .slice none 0 0]
    generalize hW2 : w1.setRow _ _ = W2 at *
    clear hW2 hp1 hq1 hB1
    have HP3 := Lib.hid ((Below.heap_setCell W2 ⟨w.heap.size + 1, 0, none⟩ (.int .i64 2) w.heap.size (by simp)).trans hp2)
    have HQ3 := Lib.hid (heap_set hq2 0 (.int .i64 2))
    have HB3 : Hid (Below w.heap.size w (W2.setCell ⟨w.heap.size + 1, 0, none⟩ (.int .i64 2))) := Lib.hid (hB2.setCell (by simp) _)
    generalize hW3 : World.setCell _ _ _ = W3 at *
    clear hW3 hp2 hq2 hB2
    obtain ⟨d0, d1, d2, d3, d4⟩ := cells5p HP3.out
    have d5 : W3.cell? ⟨w.heap.size + 1, 0, none⟩ = some (.int .i64 2) := cell_at HQ3.out 0
    refine ⟨.tuple #[.agg #[.bool false, .string ⟨#[]⟩, .string ⟨#[]⟩, .int .i64 0, .slice none 0 0], .int .i64 2], ?_, HB3.out, .inr ⟨ho, rfl⟩⟩
    simp [results, Try.results17, go_sem, d0, d1, d2, d3, d4, d5]
end Go.Proofs.Ytnabbebkmafakaa
