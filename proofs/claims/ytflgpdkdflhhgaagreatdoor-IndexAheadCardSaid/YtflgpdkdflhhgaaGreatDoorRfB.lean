/-
  The document's Apart (layer 8).
-/
import Derived.Test.YtflgpdkdflhhgaaGreatDoorRfA
namespace Go.Proofs.YtflgpdkdflhhgaaGreatDoor
set_option maxRecDepth 20000
open Go.RowKit
set_option linter.unusedVariables false
set_option linter.unusedSimpArgs false

theorem idx_geq (l : List Ev) (a : ByteArray) : decide ((0 : Int) ≤ idxI l a) = hasE l a := by
  cases hh : hasE l a with
  | false => rw [idxI_neg hh]; rfl
  | true => obtain ⟨i, -, hi⟩ := idxI_pos hh; rw [hi]; exact decide_eq_true (by omega)
set_option maxHeartbeats 1600000 in
theorem refApart_any (room : ByteArray) (v : Value) (xs : List EvV) (a b : ByteArray) (w : World) (hv : Valid room (evs xs)) (hl : xs.length ≤ 1000) (ha : a.size ≤ maxLen) (hb : b.size ≤ maxLen) (h : EvsS w v xs) :
    Calls Tryz.prog 15 #[.agg #[.string room, v], .string a, .string b] w fun e w' => e = .returned (.bool (apartB (evs xs) a b)) ∧ Below w.heap.size w w' := by
  obtain ⟨A0, c0, rfl, h1, h2, -⟩ := id h.1
  have HR1 := Lib.hid (fun W (he : EvsS W (.slice A0 xs.length c0) xs) => refAhead_any room _ xs a hv hl ha _ b W (Nat.le_refl _) he)
  have HR2 := Lib.hid (fun W (he : EvsS W (.slice A0 xs.length c0) xs) => refAhead_any room _ xs b hv hl hb _ a W (Nat.le_refl _) he)
  have HA1 := Lib.hid (fun W (he : EvsS W (.slice A0 xs.length c0) xs) => refAt_any room a _ xs W he)
  have HA2 := Lib.hid (fun W (he : EvsS W (.slice A0 xs.length c0) xs) => refAt_any room b _ xs W he)
  have HE := Lib.hid h
  have HRR : Hid (apartB (evs xs) a b = (hasE (evs xs) a && hasE (evs xs) b && !decide (a = b) && !aheadB (evs xs) a b && !aheadB (evs xs) b a)) := Lib.hid rfl
  have q1 : (a.toList == b.toList) = decide (a = b) := keyB a b
  have q2 := idx_geq (evs xs) a
  have q3 := idx_geq (evs xs) b
  have HBX := Lib.hid (heap_alloc_new w (.cells #[.string room, .slice A0 xs.length c0] 26))
  have HBN := Lib.hid (below_new w (.cells #[.string room, .slice A0 xs.length c0] 26))
  generalize apartB (evs xs) a b = R at HRR ⊢
  generalize hasE (evs xs) a = xa at q2 HRR
  generalize hasE (evs xs) b = xb at q3 HRR
  generalize decide (a = b) = xe at q1 HRR
  generalize aheadB (evs xs) a b = x1 at HR1 HRR
  generalize aheadB (evs xs) b a = x2 at HR2 HRR
  generalize idxI (evs xs) a = ia at q2 HA1
  generalize idxI (evs xs) b = ib at q3 HA2
  clear h hv h2
  go_enter Tryz.func15, Tryz.ntmps15
  go_upto_region 1 with (fail)
  generalize w.alloc _ = w1 at HBX HBN ⊢
  generalize w.heap.size = B3 at HBX ⊢
  have p0 : w1.cell? ⟨B3, 0, none⟩ = some (.string room) := cell_at HBX.out 0
  have p1 : w1.cell? ⟨B3, 1, none⟩ = some (.slice A0 xs.length c0) := cell_at HBX.out 1
  go_wp2_with fail
  go_at_call 13
  refine (HR1.out _ (HE.out.below HBN.out)).mono ?_
  rintro e w2 ⟨rfl, hb2⟩
  have HX2 := Lib.hid ((hb2.block B3 (smem_lt HBX.out)).trans HBX.out)
  have HB2 := Lib.hid (HBN.out.trans (hb2.mono HBN.out.size))
  clear hb2 p0 p1 HBX HBN
  have p0 : w2.cell? ⟨B3, 0, none⟩ = some (.string room) := cell_at HX2.out 0
  have p1 : w2.cell? ⟨B3, 1, none⟩ = some (.slice A0 xs.length c0) := cell_at HX2.out 1
  go_wp2_with fail
  go_at_call 13
  refine (HR2.out _ (HE.out.below HB2.out)).mono ?_
  rintro e w3 ⟨rfl, hb3⟩
  have HX3 := Lib.hid ((hb3.block B3 (smem_lt HX2.out)).trans HX2.out)
  have HB3 := Lib.hid (HB2.out.trans (hb3.mono HB2.out.size))
  clear hb3 p0 p1 HX2 HB2
  have p0 : w3.cell? ⟨B3, 0, none⟩ = some (.string room) := cell_at HX3.out 0
  have p1 : w3.cell? ⟨B3, 1, none⟩ = some (.slice A0 xs.length c0) := cell_at HX3.out 1
  go_wp2_with fail
  go_at_call 33
  refine (HA1.out _ (HE.out.below HB3.out)).mono ?_
  rintro e w4 ⟨rfl, hg4⟩
  have hb4 := Gr.below hg4
  have HX4 := Lib.hid ((hb4.block B3 (smem_lt HX3.out)).trans HX3.out)
  have HB4 := Lib.hid (HB3.out.trans (hb4.mono HB3.out.size))
  clear hg4 hb4 p0 p1 HX3 HB3
  have p0 : w4.cell? ⟨B3, 0, none⟩ = some (.string room) := cell_at HX4.out 0
  have p1 : w4.cell? ⟨B3, 1, none⟩ = some (.slice A0 xs.length c0) := cell_at HX4.out 1
  cases xa with
  | false =>
    go_wp2_with fail
    go_ret
    exact ⟨by rw [HRR.out]; rfl, HB4.out⟩
  | true =>
  go_wp2_with fail
  go_at_call 33
  refine (HA2.out _ (HE.out.below HB4.out)).mono ?_
  rintro e w5 ⟨rfl, hg5⟩
  have HB5 := Lib.hid (HB4.out.trans ((Gr.below hg5).mono HB4.out.size))
  clear hg5 p0 p1
  cases xb <;> cases xe <;> cases x1 <;> cases x2 <;> (go_wp2_with fail; go_ret; exact ⟨by rw [HRR.out]; rfl, HB5.out⟩)
end Go.Proofs.YtflgpdkdflhhgaaGreatDoor
