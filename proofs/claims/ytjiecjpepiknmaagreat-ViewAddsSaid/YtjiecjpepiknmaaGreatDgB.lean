/-
  Package dag: which position is greater, whether two events are the same.
-/
import Derived.Test.YtjiecjpepiknmaaGreatDgA
import Derived.Test.YtjiecjpepiknmaaGreatDagSame
import Derived.BigQuiet
namespace Go.Proofs.YtjiecjpepiknmaaGreat
set_option maxRecDepth 20000
open Go.RowKit
set_option linter.unusedVariables false
set_option linter.unusedSimpArgs false

/-- How numbers lie. -/
def LI2 : Lies Int := ⟨3, 1, fun x => [.int .i64 x], fun _ => rfl, fun x u hu => by
  simp only [List.mem_cons, List.not_mem_nil, or_false] at hu
  subst hu; rfl⟩
theorem knI2 : Kn Tryz.prog LI2 24 (.int .i64 0) 8 := ⟨Tryz.underlying24, by kernel_rfl, rfl, by decide⟩
def orI (a b : Int) : Int := if a = 0 then b else a
set_option maxHeartbeats 800000 in
theorem or_any (a b : Int) (B : Nat) (w : World) (c0 : w.cell? ⟨B, 0, none⟩ = some (.int .i64 a)) (c1 : w.cell? ⟨B, 1, none⟩ = some (.int .i64 b)) :
    Calls Tryz.prog 150 #[.slice (some ⟨B, 0, none⟩) 2 2] w fun e w' => e = .returned (.int .i64 (orI a b)) ∧ w' = w := by
  have hi0 : ∀ W : World, (Instr.indexAt 24 (.slice (some ⟨B, 0, none⟩) 2 2) (.int .i64 (0 : Nat))).run Tryz.prog W = .ok (.pointer (some ⟨B, 0, none⟩)) W := by
    have := index_any (P := Tryz.prog) knI2 (by decide) (b := B) (off := 0) (cap := 2) (len := 2) (i := 0) (by decide)
    simpa [LI2] using this
  have hi1 : ∀ W : World, (Instr.indexAt 24 (.slice (some ⟨B, 0, none⟩) 2 2) (.int .i64 (1 : Nat))).run Tryz.prog W = .ok (.pointer (some ⟨B, 1, none⟩)) W := by
    have := index_any (P := Tryz.prog) knI2 (by decide) (b := B) (off := 0) (cap := 2) (len := 2) (i := 1) (by decide)
    simpa [LI2] using this
  by_cases ha : a = 0
  · subst ha
    have HR : Hid (orI 0 b = b) := Lib.hid (if_pos rfl)
    go_enter Tryz.func150, Tryz.ntmps150
    go_wp2_with fail
    go_loopw [8] (fun i wr => wr = w ∧ ∃ (k : Nat), i = .int .i64 (k : Int) ∧ (k = 0 ∨ k = 1 ∨ (k = 2 ∧ b = 0))) (fun i _ => 2 - (intOf i).toNat)
    case atStart => exact ⟨rfl, 0, rfl, .inl rfl⟩
    case round =>
      obtain ⟨rfl, k, rfl, hk⟩ := hrel
      rcases hk with rfl | rfl | ⟨rfl, rfl⟩
      · go_wp2_with fail
        exact ⟨⟨trivial, 1, rfl, .inr (.inl rfl)⟩, by simp [intOf]⟩
      · by_cases hb : b = 0
        · subst hb
          go_wp2_with fail
          exact ⟨⟨trivial, 2, rfl, .inr (.inr ⟨rfl, trivial⟩)⟩, by simp [intOf]⟩
        · have q : (b == 0) = false := by rw [beq_eq_false_iff_ne]; exact hb
          go_wp2_with fail
          go_ret
          exact ⟨by rw [HR.out]; rfl, rfl⟩
      · go_wp2_with fail
        go_ret
        exact ⟨by rw [HR.out]; rfl, rfl⟩
  · have HR : Hid (orI a b = a) := Lib.hid (if_neg ha)
    have q : (a == 0) = false := by rw [beq_eq_false_iff_ne]; exact ha
    go_enter Tryz.func150, Tryz.ntmps150
    go_wp2_with fail
    go_loopw [8] (fun i wr => wr = w ∧ i = .int .i64 ((0 : Nat) : Int)) (fun i _ => 2 - (intOf i).toNat)
    case atStart => exact ⟨rfl, rfl⟩
    case round =>
      obtain ⟨rfl, rfl⟩ := hrel
      go_wp2_with fail
      go_ret
      exact ⟨by rw [HR.out]; rfl, rfl⟩
theorem cmpB_lt : ∀ a b : List UInt8, Lib.compareBytes a b = (bif Op.bytesLess a b then -1 else bif Op.bytesLess b a then 1 else 0)
  | [], [] => by simp [Lib.compareBytes, Op.bytesLess]
  | [], _ :: _ => by simp [Lib.compareBytes, Op.bytesLess]
  | _ :: _, [] => by simp [Lib.compareBytes, Op.bytesLess]
  | a :: x, b :: y => by
    unfold Lib.compareBytes Op.bytesLess
    by_cases h : a < b
    · simp [h]
    · by_cases h2 : b < a
      · have : ¬ a = b := fun e => by rw [e] at h2; exact absurd h2 (by rw [e] at h; exact h)
        have hq : (a == b) = false := by rw [beq_eq_false_iff_ne]; exact this
        simp [h, h2, hq]
      · have : a = b := by
          apply UInt8.toNat_inj.1
          rw [UInt8.lt_iff_toNat_lt] at h h2
          omega
        subst this
        simp [h, cmpB_lt x y]
theorem cmpP_code (a b : Po) : orI (Lib.compareInt a.depth b.depth) (Lib.compareBytes a.id.data.toList b.id.data.toList) = cmpP a b := by
  unfold orI cmpP beforeP Lib.compareInt
  rw [cmpB_lt, ByteArray.toList_eq, ByteArray.toList_eq]
  by_cases h : a.depth < b.depth
  · have h2 : ¬ b.depth < a.depth := by omega
    have h3 : ¬ b.depth = a.depth := by omega
    simp [h]
  · by_cases h2 : b.depth < a.depth
    · have h3 : ¬ a.depth = b.depth := by omega
      simp [h, h2, h3]
    · have h3 : a.depth = b.depth := by omega
      simp [h3]

set_option maxHeartbeats 1600000 in
theorem compare_any (a b : Po) (w : World) : Calls Tryz.prog 121 #[.agg #[.int .i64 a.depth, .string a.id], .agg #[.int .i64 b.depth, .string b.id]] w fun e w' => e = .returned (.int .i64 (cmpP a b)) ∧ Below w.heap.size w w' := by
  have hs1 : (w.alloc (.cells #[.int .i64 a.depth, .string a.id] 55)).heap.size = w.heap.size + 1 := by simp
  have H3 := Lib.hid (heap_alloc_new (w.alloc (.cells #[.int .i64 a.depth, .string a.id] 55)) (.cells #[.int .i64 b.depth, .string b.id] 55))
  have H2 := Lib.hid ((heap_alloc_old (w.alloc (.cells #[.int .i64 a.depth, .string a.id] 55)) (.cells #[.int .i64 b.depth, .string b.id] 55) (r := w.heap.size) (by rw [hs1]; omega)).trans (heap_alloc_new w _))
  have HB := Lib.hid (((Gr.refl w).alloc (.cells #[.int .i64 a.depth, .string a.id] 55)).alloc (.cells #[.int .i64 b.depth, .string b.id] 55)).below
  rw [hs1] at H3
  clear hs1
  have HQ1 := Lib.hid (fun W => Tryz.cmp_Compare_int a.depth b.depth W)
  have HQ2 := Lib.hid (fun W => Tryz.strings_Compare a.id b.id W)
  have HU := Lib.hid (cmpP_code a b)
  generalize Lib.compareInt a.depth b.depth = x at HQ1 HU
  generalize Lib.compareBytes a.id.data.toList b.id.data.toList = y at HQ2 HU
  go_enter Tryz.func121, Tryz.ntmps121
  go_upto_region 1 with (fail)
  generalize World.alloc _ _ = w1 at H2 H3 HB ⊢
  generalize w.heap.size + 1 = B3 at H3 ⊢
  generalize hB2 : w.heap.size = B2 at H2 ⊢
  have HS : w1.drew.cell? ⟨B2, 0, none⟩ = some (.int .i64 a.depth) ∧ w1.drew.cell? ⟨B2, 1, none⟩ = some (.string a.id) ∧ w1.drew.cell? ⟨B3, 0, none⟩ = some (.int .i64 b.depth) ∧ w1.drew.cell? ⟨B3, 1, none⟩ = some (.string b.id) ∧ Below w.heap.size w w1.drew := ⟨cell_at H2.out 0, cell_at H2.out 1, cell_at H3.out 0, cell_at H3.out 1, HB.out.drew⟩
  refine wp_region_held_drew (S := fun w' => w'.cell? ⟨B2, 0, none⟩ = some (.int .i64 a.depth) ∧ w'.cell? ⟨B2, 1, none⟩ = some (.string a.id) ∧ w'.cell? ⟨B3, 0, none⟩ = some (.int .i64 b.depth) ∧ w'.cell? ⟨B3, 1, none⟩ = some (.string b.id) ∧ Below w.heap.size w w') (by kernel_rfl) HS (fun hHeld => ?_)
  clear HS H2 H3 HB
  generalize w1.drew = wd at hHeld ⊢
  refine wpAnyH_take (i := 0) (oi := ⟨some 5, _, _, _, _, _⟩) (v := ?vc0) rfl (by kernel_rfl) (by kernel_rfl) (by kernel_rfl) (fun _ _ _ h => h) (Or.inl ⟨by rfl, ?yc0⟩) hHeld ?rc0
  case yc0 =>
    intro wx hSx
    go_simp
    try with_reducible rfl
  try simp only [Act.put, List.setIfInBounds_toArray, List.set_cons_zero, List.set_cons_succ]
  refine wpAnyH_take (i := 2) (oi := ⟨some 7, _, _, _, _, _⟩) (v := ?vc2) rfl (by kernel_rfl) (by kernel_rfl) (by kernel_rfl) (fun _ _ _ h => h) (Or.inl ⟨by rfl, ?yc2⟩) hHeld ?rc2
  case yc2 =>
    intro wx hSx
    go_simp
    try with_reducible rfl
  try simp only [Act.put, List.setIfInBounds_toArray, List.set_cons_zero, List.set_cons_succ]
  refine wpAnyH_take (i := 5) (oi := ⟨some 10, _, _, _, _, _⟩) (v := ?vc5) rfl (by kernel_rfl) (by kernel_rfl) (by kernel_rfl) (fun _ _ _ h => h) (Or.inl ⟨by rfl, ?yc5⟩) hHeld ?rc5
  case yc5 =>
    intro wx hSx
    go_simp
    try with_reducible rfl
  try simp only [Act.put, List.setIfInBounds_toArray, List.set_cons_zero, List.set_cons_succ]
  refine wpAnyH_take (i := 7) (oi := ⟨some 12, _, _, _, _, _⟩) (v := ?vc7) rfl (by kernel_rfl) (by kernel_rfl) (by kernel_rfl) (fun _ _ _ h => h) (Or.inl ⟨by rfl, ?yc7⟩) hHeld ?rc7
  case yc7 =>
    intro wx hSx
    go_simp
    try with_reducible rfl
  try simp only [Act.put, List.setIfInBounds_toArray, List.set_cons_zero, List.set_cons_succ]
  refine wpAnyH_take (i := 1) (oi := ⟨some 6, _, _, _, _, _⟩) (v := ?vc1) rfl (by kernel_rfl) (by kernel_rfl) (by kernel_rfl) (fun _ _ _ h => h) (Or.inl ⟨by rfl, ?yc1⟩) hHeld ?rc1
  case yc1 =>
    intro wx hSx
    obtain ⟨z1, z2, z3, z4, -⟩ := hSx
    go_simp
    try with_reducible rfl
  try simp only [Act.put, List.setIfInBounds_toArray, List.set_cons_zero, List.set_cons_succ]
  refine wpAnyH_take (i := 3) (oi := ⟨some 8, _, _, _, _, _⟩) (v := ?vc3) rfl (by kernel_rfl) (by kernel_rfl) (by kernel_rfl) (fun _ _ _ h => h) (Or.inl ⟨by rfl, ?yc3⟩) hHeld ?rc3
  case yc3 =>
    intro wx hSx
    obtain ⟨z1, z2, z3, z4, -⟩ := hSx
    go_simp
    try with_reducible rfl
  try simp only [Act.put, List.setIfInBounds_toArray, List.set_cons_zero, List.set_cons_succ]
  refine wpAnyH_take (i := 6) (oi := ⟨some 11, _, _, _, _, _⟩) (v := ?vc6) rfl (by kernel_rfl) (by kernel_rfl) (by kernel_rfl) (fun _ _ _ h => h) (Or.inl ⟨by rfl, ?yc6⟩) hHeld ?rc6
  case yc6 =>
    intro wx hSx
    obtain ⟨z1, z2, z3, z4, -⟩ := hSx
    go_simp
    try with_reducible rfl
  try simp only [Act.put, List.setIfInBounds_toArray, List.set_cons_zero, List.set_cons_succ]
  refine wpAnyH_take (i := 8) (oi := ⟨some 13, _, _, _, _, _⟩) (v := ?vc8) rfl (by kernel_rfl) (by kernel_rfl) (by kernel_rfl) (fun _ _ _ h => h) (Or.inl ⟨by rfl, ?yc8⟩) hHeld ?rc8
  case yc8 =>
    intro wx hSx
    obtain ⟨z1, z2, z3, z4, -⟩ := hSx
    go_simp
    try with_reducible rfl
  try simp only [Act.put, List.setIfInBounds_toArray, List.set_cons_zero, List.set_cons_succ]
  refine anyH_asks (i := 4) (oi := ⟨some 9, _, _, _, _, _⟩) (v := .int .i64 x) rfl (by kernel_rfl) (by kernel_rfl) (by kernel_rfl) (fun _ _ _ h => h) ⟨by rfl, fun wx hSx => ⟨_, _, ?ec4, (HQ1.out _).mono (fun _ _ h => ⟨h.1, h.2.symm⟩)⟩⟩ hHeld ?rc4
  case ec4 => go_simp
  try simp only [Act.put, List.setIfInBounds_toArray, List.set_cons_zero, List.set_cons_succ]
  refine anyH_asks (i := 9) (oi := ⟨some 14, _, _, _, _, _⟩) (v := .int .i64 y) rfl (by kernel_rfl) (by kernel_rfl) (by kernel_rfl) (fun _ _ _ h => h) ⟨by rfl, fun wx hSx => ⟨_, _, ?ec9, (HQ2.out _).mono (fun _ _ h => ⟨h.1, h.2.symm⟩)⟩⟩ hHeld ?rc9
  case ec9 => go_simp
  try simp only [Act.put, List.setIfInBounds_toArray, List.set_cons_zero, List.set_cons_succ]
  refine wpAnyH_ready (rs := [10]) (by kernel_rfl) (by simp) ?_
  refine AllReadyH.cons (o := ⟨some 15, _, _, _, _, _⟩) rfl (fun K hK => ?_) AllReadyH.nil
  have hNW : (wd.alloc (.cells #[.int .i64 x, .int .i64 y] 3)).cell? ⟨B2, 0, none⟩ = some (.int .i64 a.depth) ∧ (wd.alloc (.cells #[.int .i64 x, .int .i64 y] 3)).cell? ⟨B2, 1, none⟩ = some (.string a.id) ∧ (wd.alloc (.cells #[.int .i64 x, .int .i64 y] 3)).cell? ⟨B3, 0, none⟩ = some (.int .i64 b.depth) ∧ (wd.alloc (.cells #[.int .i64 x, .int .i64 y] 3)).cell? ⟨B3, 1, none⟩ = some (.string b.id) ∧ Below w.heap.size w (wd.alloc (.cells #[.int .i64 x, .int .i64 y] 3)) := by
    obtain ⟨z1, z2, z3, z4, z5⟩ := hHeld
    have bn := below_new wd (.cells #[.int .i64 x, .int .i64 y] 3)
    exact ⟨(bn.cell (World.block_lt_of_cell? _ _ z1)).trans z1, (bn.cell (World.block_lt_of_cell? _ _ z2)).trans z2, (bn.cell (World.block_lt_of_cell? _ _ z3)).trans z3, (bn.cell (World.block_lt_of_cell? _ _ z4)).trans z4, z5.trans (bn.mono z5.size)⟩
  have hn := heap_alloc_new wd (.cells #[.int .i64 x, .int .i64 y] 3)
  go_simp
  refine hK.out _ _ hNW (fun hHeld => ?_)
  clear hK K hNW
  try simp only [Act.put, List.setIfInBounds_toArray, List.set_cons_zero, List.set_cons_succ]
  refine wpAnyH_ready (rs := [11]) (by kernel_rfl) (by simp) ?_
  refine AllReadyH.cons (o := ⟨some 16, _, _, _, _, _⟩) rfl (fun K hK => ?_) AllReadyH.nil
  go_simp
  refine (or_any x y wd.heap.size _ (cell_at hn 0) (cell_at hn 1)).mono ?_
  rintro e wn ⟨rfl, rfl⟩
  refine hK.out _ _ hHeld (fun hHeld => ?_)
  clear hK K
  try simp only [Act.put, List.setIfInBounds_toArray, List.set_cons_zero, List.set_cons_succ]
  refine wpAnyH_take (i := 12) (oi := ⟨some 4, _, _, _, _, _⟩) (v := ?vc12) rfl (by kernel_rfl) (by kernel_rfl) (by kernel_rfl) (fun _ _ _ h => h) (Or.inl ⟨by rfl, ?yc12⟩) hHeld ?rc12
  case yc12 =>
    intro wx hSx
    go_simp
    try with_reducible rfl
  try simp only [Act.put, List.setIfInBounds_toArray, List.set_cons_zero, List.set_cons_succ]
  refine wpAnyH_done (by kernel_rfl) ?_ _
  go_wp2_with fail
  go_ret
  exact ⟨by rw [← HU.out]; rfl, hHeld.2.2.2.2⟩

set_option maxHeartbeats 1600000 in
theorem equalT_any (v v' : Value) (xs ys : List ByteArray) (w : World) (h : LT.Slice w v xs) (h' : LT.Slice w v' ys) :
    Calls Tryz.prog 107 #[v, v'] w fun e w' => e = .returned (.bool (decide (xs = ys))) ∧ ∃ d, w' = w.drewN d := by
  have HV := Lib.hid h
  have HV' := Lib.hid h'
  obtain ⟨A, cap, rfl, h5, hm, -⟩ := id h
  obtain ⟨A', cap', rfl, h5', hm', -⟩ := id h'
  have hm1 : cap ≤ 9223372036854775807 := by unfold maxLen at hm; omega
  have hm2 : cap' ≤ 9223372036854775807 := by unfold maxLen at hm'; omega
  clear h h' hm hm'
  by_cases hl : xs.length = ys.length
  · have q1 : ((xs.length : Int) != (ys.length : Int)) = false := by rw [hl, bne_self_eq_false]
    have HL := Lib.hid hl
    clear hl
    go_enter Tryz.func107, Tryz.ntmps107
    go_wp2_with fail
    go_loopw [13] (fun i wr => ∃ (a : Nat), i = .int .i64 (a : Int) ∧ a ≤ xs.length ∧ Hid (∃ d, wr = w.drewN d) ∧ Hid (∀ (j : Nat) x y, j < a → xs[j]? = some x → ys[j]? = some y → x = y)) (fun i _ => xs.length - (intOf i).toNat)
    case atStart => exact ⟨0, rfl, Nat.zero_le _, Lib.hid ⟨0, rfl⟩, Lib.hid (fun j x y hj => absurd hj (Nat.not_lt_zero j))⟩
    case round =>
      obtain ⟨a, rfl, ha, HW, HT⟩ := hrel
      by_cases hlt : a < xs.length
      · have q2 : decide ((a : Int) < (xs.length : Int)) = true := decide_eq_true (by omega)
        have hlt' : a < ys.length := HL.out ▸ hlt
        have hp : xs[a]? = some xs[a] := List.getElem?_eq_getElem hlt
        have hp' : ys[a]? = some ys[a] := List.getElem?_eq_getElem hlt'
        generalize xs[a] = p at hp
        generalize ys[a] = p' at hp'
        obtain ⟨bp, op, rfl, hbp, hcp⟩ := text_at HV.out hp
        obtain ⟨bp', op', rfl, hbp', hcp'⟩ := text_at HV'.out hp'
        have hip := index_any (P := Tryz.prog) knT (by decide) (b := bp) (off := op) (cap := cap) hlt
        have hip' := index_any (P := Tryz.prog) knT (by decide) (b := bp') (off := op') (cap := cap') hlt'
        simp only [LT] at hip hip'
        rw [Nat.mul_one] at hip hip'
        have e3 : wr.cell? ⟨bp, op + a, none⟩ = some (.string p) := by obtain ⟨d, hd⟩ := HW.out; rw [hd]; exact hcp
        have e4 : wr.cell? ⟨bp', op' + a, none⟩ = some (.string p') := by obtain ⟨d, hd⟩ := HW.out; rw [hd]; exact hcp'
        have HP := Lib.hid hp
        have HP' := Lib.hid hp'
        clear hp hp' hcp hcp' hlt'
        by_cases he : p = p'
        · have q3 : (p.toList == p'.toList) = true := by rw [keyB]; exact decide_eq_true he
          have HT' : Hid (∀ (j : Nat) x y, j < a + 1 → xs[j]? = some x → ys[j]? = some y → x = y) := Lib.hid (fun j x y hj hx hy => by
            rcases Nat.lt_or_eq_of_le (Nat.lt_succ_iff.1 hj) with h | h
            · exact HT.out j x y h hx hy
            · subst h
              rw [HP.out] at hx
              rw [HP'.out] at hy
              injection hx with hx
              injection hy with hy
              rw [← hx, ← hy, he])
          clear he
          go_upto_region 6 with (fail)
          go_quiet (fail)
          go_wp2_with fail
          refine ⟨⟨a + 1, by go_num, by omega, Lib.hid (by obtain ⟨d, hd⟩ := HW.out; rw [hd]; exact ⟨_, World.drewN_drewN _ _ _⟩), HT'⟩, ?_⟩
          simp [intOf]; omega
        · have q3 : (p.toList == p'.toList) = false := by rw [keyB]; exact decide_eq_false he
          have HF : Hid (decide (xs = ys) = false) := Lib.hid (decide_eq_false (same_miss HP.out HP'.out he))
          go_upto_region 6 with (fail)
          go_quiet (fail)
          go_wp2_with fail
          go_ret
          exact ⟨by rw [HF.out]; rfl, by obtain ⟨d, hd⟩ := HW.out; rw [hd]; exact ⟨_, World.drewN_drewN _ _ _⟩⟩
      · have q2 : decide ((a : Int) < (xs.length : Int)) = false := decide_eq_false (by omega)
        have HF : Hid (decide (xs = ys) = true) := Lib.hid (decide_eq_true (same_all HL.out (fun j x y hx hy => HT.out j x y (by have := (List.getElem?_eq_some_iff.1 hx).1; omega) hx hy)))
        go_wp2_with fail
        go_ret
        exact ⟨by rw [HF.out]; rfl, HW.out⟩
  · have q1 : ((xs.length : Int) != (ys.length : Int)) = true := by
      rw [bne_iff_ne]
      omega
    have HF : Hid (decide (xs = ys) = false) := Lib.hid (decide_eq_false (fun e => hl (by rw [e])))
    clear hl
    go_enter Tryz.func107, Tryz.ntmps107
    go_wp2_with fail
    go_ret
    exact ⟨by rw [HF.out]; rfl, 0, rfl⟩

set_option maxHeartbeats 1600000 in
theorem same_any (x y : EvV) (w : World) (hx : LT.Slice w x.pv x.ev.parents) (hy : LT.Slice w y.pv y.ev.parents) :
    Calls Tryz.prog 79 #[x.val, y.val] w fun e w' => e = .returned (.bool (decide (x.ev = y.ev))) ∧ Gr w w' := by
  obtain ⟨Ax, cx, hpx, _⟩ := id hx
  obtain ⟨Ay, cy, hpy, _⟩ := id hy
  have HU : Hid (decide (x.ev = y.ev) = ((x.ev.id.toList == y.ev.id.toList) && (x.ev.room.toList == y.ev.room.toList) && decide (x.ev.parents = y.ev.parents) && (x.ev.thread.toList == y.ev.thread.toList) && (x.ev.user.toList == y.ev.user.toList) && (x.ev.does == y.ev.does))) := Lib.hid (by
    rw [same_ev]
    cases decide (x.ev.parents = y.ev.parents) <;> cases (x.ev.id.toList == y.ev.id.toList) <;> cases (x.ev.room.toList == y.ev.room.toList) <;> cases (x.ev.thread.toList == y.ev.thread.toList) <;> cases (x.ev.user.toList == y.ev.user.toList) <;> cases (x.ev.does == y.ev.does) <;> rfl)
  rw [val_of hpx, val_of hpy]
  have HG := Lib.hid (((Gr.refl w).alloc (.cells #[.string x.ev.id, .string x.ev.room, .slice Ax x.ev.parents.length cx, .string x.ev.thread, .string x.ev.user, .int .i64 x.ev.does] 33)).alloc (.cells #[.string y.ev.id, .string y.ev.room, .slice Ay y.ev.parents.length cy, .string y.ev.thread, .string y.ev.user, .int .i64 y.ev.does] 33))
  have HB := Lib.hid (two_boxes w #[.string x.ev.id, .string x.ev.room, .slice Ax x.ev.parents.length cx, .string x.ev.thread, .string x.ev.user, .int .i64 x.ev.does] #[.string y.ev.id, .string y.ev.room, .slice Ay y.ev.parents.length cy, .string y.ev.thread, .string y.ev.user, .int .i64 y.ev.does] 33)
  rw [hpx] at hx
  rw [hpy] at hy
  have HX := Lib.hid hx
  have HY := Lib.hid hy
  clear hx hy hpx hpy
  go_enter Tryz.func79, Tryz.ntmps79
  go_upto_region 1 with (fail)
  generalize World.alloc _ _ = w1 at HG HB ⊢
  replace HX := Lib.hid (HX.out.below HG.out.below)
  replace HY := Lib.hid (HY.out.below HG.out.below)
  generalize w.heap.size + 1 = B3 at HB ⊢
  generalize w.heap.size = B2 at HB ⊢
  have c0 : w1.cell? ⟨B2, 0, none⟩ = some (.string x.ev.id) := cell_at HB.out.1 0
  have d0 : w1.cell? ⟨B3, 0, none⟩ = some (.string y.ev.id) := cell_at HB.out.2 0
  have c1 : w1.cell? ⟨B2, 1, none⟩ = some (.string x.ev.room) := cell_at HB.out.1 1
  have d1 : w1.cell? ⟨B3, 1, none⟩ = some (.string y.ev.room) := cell_at HB.out.2 1
  have c2 : w1.cell? ⟨B2, 2, none⟩ = some (.slice Ax x.ev.parents.length cx) := cell_at HB.out.1 2
  have d2 : w1.cell? ⟨B3, 2, none⟩ = some (.slice Ay y.ev.parents.length cy) := cell_at HB.out.2 2
  have c3 : w1.cell? ⟨B2, 3, none⟩ = some (.string x.ev.thread) := cell_at HB.out.1 3
  have d3 : w1.cell? ⟨B3, 3, none⟩ = some (.string y.ev.thread) := cell_at HB.out.2 3
  have c4 : w1.cell? ⟨B2, 4, none⟩ = some (.string x.ev.user) := cell_at HB.out.1 4
  have d4 : w1.cell? ⟨B3, 4, none⟩ = some (.string y.ev.user) := cell_at HB.out.2 4
  have c5 : w1.cell? ⟨B2, 5, none⟩ = some (.int .i64 x.ev.does) := cell_at HB.out.1 5
  have d5 : w1.cell? ⟨B3, 5, none⟩ = some (.int .i64 y.ev.does) := cell_at HB.out.2 5
  generalize q1 : (x.ev.id.toList == y.ev.id.toList) = b1 at HU
  cases b1
  · go_wp2_with fail
    go_ret
    exact ⟨by rw [HU.out]; rfl, HG.out⟩
  generalize q2 : (x.ev.room.toList == y.ev.room.toList) = b2 at HU
  cases b2
  · go_wp2_with fail
    go_ret
    exact ⟨by rw [HU.out]; rfl, HG.out⟩
  go_wp2_with fail
  go_at_call 107
  refine (equalT_any _ _ _ _ w1 HX.out HY.out).mono ?_
  rintro e w2 ⟨rfl, dd, hw2⟩
  replace HG := Lib.hid (show Gr w w2 by rw [hw2]; exact HG.out.drewN dd)
  replace HB := Lib.hid (show w2.heap[B2]? = _ ∧ w2.heap[B3]? = _ by rw [hw2]; exact HB.out)
  clear hw2 c0 c1 c2 c3 c4 c5 d0 d1 d2 d3 d4 d5
  have c0 : w2.cell? ⟨B2, 0, none⟩ = some (.string x.ev.id) := cell_at HB.out.1 0
  have d0 : w2.cell? ⟨B3, 0, none⟩ = some (.string y.ev.id) := cell_at HB.out.2 0
  have c1 : w2.cell? ⟨B2, 1, none⟩ = some (.string x.ev.room) := cell_at HB.out.1 1
  have d1 : w2.cell? ⟨B3, 1, none⟩ = some (.string y.ev.room) := cell_at HB.out.2 1
  have c2 : w2.cell? ⟨B2, 2, none⟩ = some (.slice Ax x.ev.parents.length cx) := cell_at HB.out.1 2
  have d2 : w2.cell? ⟨B3, 2, none⟩ = some (.slice Ay y.ev.parents.length cy) := cell_at HB.out.2 2
  have c3 : w2.cell? ⟨B2, 3, none⟩ = some (.string x.ev.thread) := cell_at HB.out.1 3
  have d3 : w2.cell? ⟨B3, 3, none⟩ = some (.string y.ev.thread) := cell_at HB.out.2 3
  have c4 : w2.cell? ⟨B2, 4, none⟩ = some (.string x.ev.user) := cell_at HB.out.1 4
  have d4 : w2.cell? ⟨B3, 4, none⟩ = some (.string y.ev.user) := cell_at HB.out.2 4
  have c5 : w2.cell? ⟨B2, 5, none⟩ = some (.int .i64 x.ev.does) := cell_at HB.out.1 5
  have d5 : w2.cell? ⟨B3, 5, none⟩ = some (.int .i64 y.ev.does) := cell_at HB.out.2 5
  generalize decide (x.ev.parents = y.ev.parents) = b3 at HU ⊢
  cases b3
  · go_wp2_with fail
    go_ret
    exact ⟨by rw [HU.out]; rfl, HG.out⟩
  generalize q4 : (x.ev.thread.toList == y.ev.thread.toList) = b4 at HU
  cases b4
  · go_wp2_with fail
    go_ret
    exact ⟨by rw [HU.out]; rfl, HG.out⟩
  generalize q5 : (x.ev.user.toList == y.ev.user.toList) = b5 at HU
  cases b5
  · go_wp2_with fail
    go_ret
    exact ⟨by rw [HU.out]; rfl, HG.out⟩
  go_wp2_with fail
  go_ret
  exact ⟨by rw [HU.out]; rfl, HG.out⟩
end Go.Proofs.YtjiecjpepiknmaaGreat
