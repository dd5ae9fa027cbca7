/-
  The heap's own: an entry that shares no memory.
-/
import Derived.Test.YtkbmkbmbkmeenaaHpTake
import Derived.Deep.RegionHeld3
namespace Go.Proofs.Ytkbmkbmbkmeenaa
set_option maxRecDepth 20000
open Go.RowKit
set_option linter.unusedVariables false
set_option linter.unusedSimpArgs false

/-- Two entries in two blocks, one of them to be written. -/
def Two (w0 w : World) (B B1 : Nat) (x : Ent) : Prop := w.cell? ⟨B, 0, none⟩ = some (.int .i64 x.tick) ∧ w.cell? ⟨B, 1, none⟩ = some (.string x.key) ∧ w.cell? ⟨B1, 0, none⟩ = some (.int .i64 0) ∧ w.cell? ⟨B1, 1, none⟩ = some (.string ⟨#[]⟩) ∧ w.frozen? ⟨B1, 0, none⟩ = false ∧ w.frozen? ⟨B1, 1, none⟩ = false ∧ w.heap[B1]? = some (.cells #[.int .i64 0, .string ⟨#[]⟩] 45 (0, 0)) ∧ B < w.heap.size ∧ Below w0.heap.size w0 w
theorem Two.of {w0 w : World} {B B1 : Nat} {x : Ent} (h1 : w.cell? ⟨B, 0, none⟩ = some (.int .i64 x.tick)) (h2 : w.cell? ⟨B, 1, none⟩ = some (.string x.key)) (h3 : w.heap[B1]? = some (.cells #[.int .i64 0, .string ⟨#[]⟩] 45 (0, 0))) (h4 : B < w.heap.size) (h5 : Below w0.heap.size w0 w) : Two w0 w B B1 x :=
  ⟨h1, h2, cell_at h3 0, cell_at h3 1, free_at h3 0, free_at h3 1, h3, h4, h5⟩
theorem Two.below {w0 w w' : World} {B B1 : Nat} {x : Ent} (h : Two w0 w B B1 x) (hb : Below w.heap.size w w') : Two w0 w' B B1 x := by
  obtain ⟨h1, h2, _, _, _, _, h3, h4, h5⟩ := h
  exact Two.of ((hb.cell (p := ⟨B, 0, none⟩) h4).trans h1) ((hb.cell (p := ⟨B, 1, none⟩) h4).trans h2) ((hb.block B1 (smem_lt h3)).trans h3) (Nat.lt_of_lt_of_le h4 hb.size) (h5.trans (hb.mono h5.size))
theorem Two.drew {w0 w : World} {B B1 : Nat} {x : Ent} (h : Two w0 w B B1 x) : Two w0 w.drew B B1 x := h.below ⟨rfl, rfl, rfl, Nat.le_refl _, fun _ _ => rfl⟩

set_option maxHeartbeats 800000 in
theorem own_any (x : Ent) (w : World) (hx : x.key.size ≤ 281474976710656) :
    Calls Try.prog 30 #[.agg #[.int .i64 x.tick, .string x.key]] w fun e w' => e = .returned (.agg #[.int .i64 x.tick, .string x.key]) ∧ Below w.heap.size w w' := by
  have H1 : Two w ((w.alloc (.cells #[.int .i64 x.tick, .string x.key] 45)).alloc (.cells #[.int .i64 0, .string ⟨#[]⟩] 45)) w.heap.size (w.heap.size + 1) x := by
    have h0 := heap_alloc_new w (.cells #[.int .i64 x.tick, .string x.key] 45)
    have h1 := heap_alloc_new (w.alloc (.cells #[.int .i64 x.tick, .string x.key] 45)) (.cells #[.int .i64 0, .string ⟨#[]⟩] 45)
    rw [show (w.alloc (.cells #[.int .i64 x.tick, .string x.key] 45)).heap.size = w.heap.size + 1 by simp] at h1
    have h2 := (heap_alloc_old (w.alloc (.cells #[.int .i64 x.tick, .string x.key] 45)) (.cells #[.int .i64 0, .string ⟨#[]⟩] 45) (smem_lt h0)).trans h0
    exact Two.of (cell_at h2 0) (cell_at h2 1) h1 (smem_lt h2) (((Below.refl w.heap.size w).alloc (Nat.le_refl _) _).alloc (by simp) _)
  have HH := Lib.hid H1
  clear H1
  go_enter Try.func30, Try.ntmps30
  go_upto_region 1 with (fail)
  generalize World.alloc _ _ = w1 at HH ⊢
  obtain ⟨B1, hB1⟩ : ∃ B1, w.heap.size + 1 = B1 := ⟨_, rfl⟩
  rw [hB1] at HH ⊢
  generalize hB : w.heap.size = B at HH ⊢
  obtain ⟨c0, c1, r0, r1, f0, f1, -, -, -⟩ := HH.out
  have H2 := Lib.hid HH.out.drew
  go_region_with ((go_at_call 35; refine (clone_any x.key _ hx).mono ?_; rintro e w2 ⟨rfl, hb⟩; have HT := Lib.hid (H2.out.below hb); obtain ⟨c0', c1', r0', r1', f0', f1', -, -, -⟩ := HT.out; clear hb))
  all_goals
    have HB := Lib.hid (sm_at B1 45 [.int .i64 x.tick, .string x.key] 0 w2 _ HT.out.2.2.2.2.2.2.1 (Nat.le_refl 2))
    simp only [World.setCells] at HB
    have g0 : ((w2.setCell ⟨B1, 0, none⟩ (.int .i64 x.tick)).setCell ⟨B1, 0 + 1, none⟩ (.string x.key)).cell? ⟨B1, 0, none⟩ = some (.int .i64 x.tick) := by
      obtain ⟨cur, z1, z2, z3⟩ := HB.out
      rw [cell_at z1 0, ← Array.getElem?_toList, z3]; rfl
    have g1 : ((w2.setCell ⟨B1, 0, none⟩ (.int .i64 x.tick)).setCell ⟨B1, 0 + 1, none⟩ (.string x.key)).cell? ⟨B1, 1, none⟩ = some (.string x.key) := by
      obtain ⟨cur, z1, z2, z3⟩ := HB.out
      rw [cell_at z1 1, ← Array.getElem?_toList, z3]; rfl
    have HF := Lib.hid (HT.out.2.2.2.2.2.2.2.2.grown (sm_grown w2 B1 0 [.int .i64 x.tick, .string x.key]) HT.out.2.2.2.2.2.2.2.2.size (fun k hk => by injection hk with hk; omega))
    simp only [World.setCells] at HF
    go_wp2_with fail
    generalize World.setCell _ _ _ = w9 at g0 g1 HF ⊢
    refine bodyPost_ret (v := .agg #[.int .i64 x.tick, .string x.key]) ?_ rfl ⟨rfl, HF.out⟩
    simp [results, Try.results30, go_sem, g0, g1]
end Go.Proofs.Ytkbmkbmbkmeenaa
