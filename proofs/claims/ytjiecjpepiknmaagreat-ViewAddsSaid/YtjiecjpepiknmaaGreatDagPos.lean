/-
  The document's Position; positions as an order.
-/
import Derived.Test.YtjiecjpepiknmaaGreatDagDepth
namespace Go.Proofs.YtjiecjpepiknmaaGreat
set_option maxRecDepth 20000
open Go.RowKit
set_option linter.unusedVariables false
set_option linter.unusedSimpArgs false

def posL (l : List Ev) (k : ByteArray) : Po := ⟨((depthL l k : Nat) : Int), k⟩

set_option maxHeartbeats 800000 in
theorem refPosition_any (room key : ByteArray) (v : Value) (xs : List EvV) (w : World) (h : EvsS w v xs) (hv : Valid room (evs xs)) (hl : xs.length ≤ 1000) :
    Calls Tryz.prog 58 #[.agg #[.string room, v], .string key] w fun e w' => e = .returned (.agg #[.int .i64 (posL (evs xs) key).depth, .string (posL (evs xs) key).id]) ∧ Gr w w' := by
  have s1 : ∀ (u : World) (o : Obj), (u.alloc o).heap.size = u.heap.size + 1 := fun u o => by simp
  have h2 := heap_alloc_new w (.cells #[.string room, v] 36)
  have h4 := heap_alloc_new (w.alloc (.cells #[.string room, v] 36)) (.cells #[.int .i64 0, .string ⟨#[]⟩] 55)
  rw [s1] at h4
  have HG := Lib.hid (((Gr.refl w).alloc (.cells #[.string room, v] 36)).alloc (.cells #[.int .i64 0, .string ⟨#[]⟩] 55))
  have HB := Lib.hid ((heap_alloc_old (w.alloc (.cells #[.string room, v] 36)) (.cells #[.int .i64 0, .string ⟨#[]⟩] 55) (smem_lt h2)).trans h2)
  have HP := Lib.hid h4
  have HC := Lib.hid (fun W hW => refDepth_any room key v xs W (h.below hW) hv hl)
  obtain ⟨A, cap, rfl, _⟩ := id h.1
  have hd : (posL (evs xs) key) = ⟨((depthL (evs xs) key : Nat) : Int), key⟩ := rfl
  rw [hd]
  generalize depthL (evs xs) key = dp at HC
  clear h hv h2 h4 s1 hd
  go_enter Tryz.func58, Tryz.ntmps58
  go_upto_region 1 with (fail)
  generalize World.alloc _ _ = w1 at HG HB HP ⊢
  have hB4 : w.heap.size ≤ w.heap.size + 1 := Nat.le_succ _
  generalize w.heap.size + 1 = B4 at HP hB4 ⊢
  generalize hB2 : w.heap.size = B2 at HB ⊢
  have c0 : w1.cell? ⟨B2, 0, none⟩ = some (.string room) := cell_at HB.out 0
  have c1 : w1.cell? ⟨B2, 1, none⟩ = some (.slice A xs.length cap) := cell_at HB.out 1
  go_wp2_with fail
  go_at_call 90
  refine (HC.out w1 (by have := HG.out.below; rw [← hB2] at *; exact this)).mono ?_
  rintro e w2 ⟨rfl, gm⟩
  replace HG := Lib.hid (HG.out.trans gm)
  replace HP := Lib.hid ((gm.below.block B4 (smem_lt HP.out)).trans HP.out)
  clear gm c0 c1
  have c0 : w2.cell? ⟨B4, 0, none⟩ = some (.int .i64 0) := cell_at HP.out 0
  have c1 : w2.cell? ⟨B4, 1, none⟩ = some (.string ⟨#[]⟩) := cell_at HP.out 1
  have f0 : w2.frozen? ⟨B4, 0, none⟩ = false := free_at HP.out 0
  have f1 : w2.frozen? ⟨B4, 1, none⟩ = false := free_at HP.out 1
  have HF := Lib.hid ((HG.out.setCell (b := B4) (by omega) 0 (.int .i64 (dp : Int))).setCell (b := B4) (by omega) 1 (.string key))
  have HZ := Lib.hid (sm_at B4 55 [.int .i64 (dp : Int), .string key] 0 w2 _ HP.out (Nat.le_refl 2))
  simp only [World.setCells] at HZ
  go_wp2_with fail
  clear c0 c1 f0 f1
  generalize World.setCell _ _ _ = w9 at HF HZ ⊢
  obtain ⟨cur, z1, z2, z3⟩ := HZ.out
  have g0 : w9.cell? ⟨B4, 0, none⟩ = some (.int .i64 (dp : Int)) := by rw [cell_at z1 0, ← Array.getElem?_toList, z3]; rfl
  have g1 : w9.cell? ⟨B4, 1, none⟩ = some (.string key) := by rw [cell_at z1 1, ← Array.getElem?_toList, z3]; rfl
  refine bodyPost_ret (v := .agg #[.int .i64 (dp : Int), .string key]) ?_ rfl ⟨rfl, HF.out⟩
  simp [results, Tryz.results58, go_sem, g0, g1]
end Go.Proofs.YtjiecjpepiknmaaGreat
