/-
  Worlds to which blocks have come; positions, and how they stand: the document's Before, the code's Compare.
-/
import Derived.Test.YtmialpaldkpmbaaWD
import Derived.Test.YtmialpaldkpmbaaSPut
import Derived.Test.YtmialpaldkpmbaaShelf
import Derived.Sort.Walk0
import Derived.Sort.Grow
import Derived.BigQuiet
import Derived.Maps.OwnSet
import Derived.Maps.Range
import Derived.Maps.Views
import Derived.Maps.RangeWalk
namespace Go.Proofs.Ytmialpaldkpmbaa
set_option maxRecDepth 20000
open Go.RowKit
set_option linter.unusedVariables false
set_option linter.unusedSimpArgs false

/-- Blocks have come, and it was drawn; nothing else. -/
def Gr (w w' : World) : Prop := ∃ q os, w' = Sort.grow (w.drewN q) os
variable {w w' w'' : World}
theorem Gr.refl (w : World) : Gr w w := ⟨0, #[], by rw [Sort.grow_empty]; rfl⟩
theorem Gr.trans (h : Gr w w') (h' : Gr w' w'') : Gr w w'' := by
  obtain ⟨q, os, rfl⟩ := h
  obtain ⟨q', os', rfl⟩ := h'
  exact ⟨q + q', os ++ os', by show Sort.grow (Sort.grow ((w.drewN q).drewN q') os) os' = _; rw [Sort.grow_grow, World.drewN_drewN]⟩
theorem Gr.alloc (h : Gr w w') (o : Obj) : Gr w (w'.alloc o) := h.trans ⟨0, #[o], by rw [Sort.alloc_eq_grow]; rfl⟩
theorem Gr.drewN (h : Gr w w') (n : Nat) : Gr w (w'.drewN n) := h.trans ⟨n, #[], by rw [Sort.grow_empty]⟩
theorem Gr.drew (h : Gr w w') : Gr w w'.drew := h.drewN 1
theorem Gr.setCell (h : Gr w w') {b : Nat} (hb : w.heap.size ≤ b) (i : Nat) (u : Value) : Gr w (w'.setCell ⟨b, i, none⟩ u) := by
  obtain ⟨q, os, rfl⟩ := h
  exact ⟨q, _, by rw [Sort.setCell_eq, Sort.mapBlock_grow_new (w.drewN q) os b _ hb]⟩
theorem Gr.below (h : Gr w w') : Below w.heap.size w w' := by
  obtain ⟨q, os, rfl⟩ := h
  exact ⟨rfl, rfl, rfl, by rw [Sort.size_grow]; exact Nat.le_add_right _ _, fun k hk => Sort.heap_grow_old (w.drewN q) os hk⟩

/-- A position. -/
structure Po where
  depth : Int
  id : ByteArray
def beforeP (a b : Po) : Bool := decide (a.depth < b.depth) || (decide (a.depth = b.depth) && Op.bytesLess a.id.toList b.id.toList)
def cmpP (a b : Po) : Int := bif beforeP a b then -1 else bif beforeP b a then 1 else 0
def Po.val (p : Po) : Value := .agg #[.int .i64 p.depth, .string p.id]

theorem refBefore_any (a b : Po) (w : World) : Calls Try.prog 23 #[.agg #[.int .i64 a.depth, .string a.id], .agg #[.int .i64 b.depth, .string b.id]] w fun e w' => e = .returned (.bool (beforeP a b)) ∧ Gr w w' := by
  have hu : beforeP a b = (decide (a.depth < b.depth) || (decide (a.depth = b.depth) && Op.bytesLess a.id.toList b.id.toList)) := rfl
  have hg := fun o1 o2 => ((Gr.refl w).alloc o1).alloc o2
  by_cases h1 : a.depth < b.depth
  · have q1 : decide (a.depth < b.depth) = true := decide_eq_true h1
    rw [hu, q1, Bool.true_or]
    clear hu h1
    go_enter Try.func23, Try.ntmps23
    go_wp2_with fail
    go_ret
    exact ⟨rfl, hg _ _⟩
  · have q1 : decide (a.depth < b.depth) = false := decide_eq_false h1
    rw [hu, q1, Bool.false_or]
    clear hu h1
    by_cases h2 : a.depth = b.depth
    · have q2 : (a.depth == b.depth) = true := by rw [beq_iff_eq]; exact h2
      rw [decide_eq_true h2, Bool.true_and]
      clear h2
      go_enter Try.func23, Try.ntmps23
      go_wp2_with fail
      go_ret
      exact ⟨rfl, hg _ _⟩
    · have q2 : (a.depth == b.depth) = false := by rw [beq_eq_false_iff_ne]; exact h2
      rw [decide_eq_false h2, Bool.false_and]
      clear h2
      go_enter Try.func23, Try.ntmps23
      go_wp2_with fail
      go_ret
      exact ⟨rfl, hg _ _⟩

theorem byteArray_eq_iff (a b : ByteArray) : a = b ↔ a.data.toList = b.data.toList := by
  constructor
  · rintro rfl; rfl
  · intro h
    cases a; cases b
    simp only [ByteArray.mk.injEq]
    exact Array.toList_inj.1 h
theorem key_ext {a b : ByteArray} (h : a.toList = b.toList) : a = b := by
  rw [ByteArray.toList_eq, ByteArray.toList_eq] at h
  exact (byteArray_eq_iff a b).2 h
theorem pos_iff (a b : Po) : beforeP a b = true ↔ a.depth < b.depth ∨ (a.depth = b.depth ∧ a.id.toList < b.id.toList) := by
  simp [beforeP, Proofs.bytesLess_eq]
theorem pos_irrefl (a : Po) : beforeP a a = false := by
  rw [Bool.eq_false_iff]
  intro h
  rw [pos_iff] at h
  rcases h with h | ⟨_, h⟩
  · omega
  · exact List.lt_irrefl _ h
theorem pos_trans {a b c : Po} (h : beforeP a b = true) (k : beforeP b c = true) : beforeP a c = true := by
  rw [pos_iff] at *
  rcases h with h | ⟨h, h'⟩ <;> rcases k with k | ⟨k, k'⟩
  · exact .inl (by omega)
  · exact .inl (by omega)
  · exact .inl (by omega)
  · exact .inr ⟨by omega, List.lt_trans h' k'⟩
theorem pos_total {a b : Po} (h : a ≠ b) : beforeP a b = true ∨ beforeP b a = true := by
  rw [pos_iff, pos_iff]
  rcases Int.lt_trichotomy a.depth b.depth with ht | ht | ht
  · exact .inl (.inl ht)
  · by_cases hk : a.id.toList < b.id.toList
    · exact .inl (.inr ⟨ht, hk⟩)
    · by_cases hk' : b.id.toList < a.id.toList
      · exact .inr (.inr ⟨ht.symm, hk'⟩)
      · exfalso
        apply h
        obtain ⟨x, y⟩ := a
        obtain ⟨z, u⟩ := b
        simp only at ht hk hk'
        have : y = u := key_ext (List.le_antisymm (List.not_lt.1 hk') (List.not_lt.1 hk))
        rw [ht, this]
  · exact .inr (.inl ht)

theorem pos_asym {a b : Po} (h : beforeP a b = true) : beforeP b a = false := by
  rw [Bool.eq_false_iff]
  intro k
  have := pos_trans h k
  rw [pos_irrefl] at this
  cases this
/-- How numbers lie. -/
def LI2 : Lies Int := ⟨3, 1, fun x => [.int .i64 x], fun _ => rfl, fun x u hu => by
  simp only [List.mem_cons, List.not_mem_nil, or_false] at hu
  subst hu; rfl⟩
theorem knI2 : Kn Try.prog LI2 82 (.int .i64 0) 8 := ⟨Try.underlying82, by kernel_rfl, rfl, by decide⟩
def orI (a b : Int) : Int := if a = 0 then b else a
set_option maxHeartbeats 800000 in
theorem or_any (a b : Int) (B : Nat) (w : World) (c0 : w.cell? ⟨B, 0, none⟩ = some (.int .i64 a)) (c1 : w.cell? ⟨B, 1, none⟩ = some (.int .i64 b)) :
    Calls Try.prog 41 #[.slice (some ⟨B, 0, none⟩) 2 2] w fun e w' => e = .returned (.int .i64 (orI a b)) ∧ w' = w := by
  have hi0 : ∀ W : World, (Instr.indexAt 82 (.slice (some ⟨B, 0, none⟩) 2 2) (.int .i64 (0 : Nat))).run Try.prog W = .ok (.pointer (some ⟨B, 0, none⟩)) W := by
    have := index_any (P := Try.prog) knI2 (by decide) (b := B) (off := 0) (cap := 2) (len := 2) (i := 0) (by decide)
    simpa [LI2] using this
  have hi1 : ∀ W : World, (Instr.indexAt 82 (.slice (some ⟨B, 0, none⟩) 2 2) (.int .i64 (1 : Nat))).run Try.prog W = .ok (.pointer (some ⟨B, 1, none⟩)) W := by
    have := index_any (P := Try.prog) knI2 (by decide) (b := B) (off := 0) (cap := 2) (len := 2) (i := 1) (by decide)
    simpa [LI2] using this
  by_cases ha : a = 0
  · subst ha
    have HR : Hid (orI 0 b = b) := Lib.hid (if_pos rfl)
    go_enter Try.func41, Try.ntmps41
    go_wp2_with fail
    go_loopw [8] (fun i wr => wr = w ∧ ∃ (k : Nat), i = .int .i64 (k : Int) ∧ (k = 0 ∨ k = 1 ∨ (k = 2 ∧ b = 0))) (fun i _ => 2 - (intOf i).toNat)
    case atStart => exact ⟨rfl, 0, rfl, .inl rfl⟩
    case round =>
      obtain ⟨rfl, k, rfl, hk⟩ := hrel
      rcases hk with rfl | rfl | ⟨rfl, rfl⟩
      · go_wp2_with fail
        exact ⟨⟨trivial, 1, rfl, .inr (.inl rfl)⟩, by simp [intOf]⟩
      · by_cases hb : b = 0
        · subst hb
          go_wp2_with fail
          exact ⟨⟨trivial, 2, rfl, .inr (.inr ⟨rfl, trivial⟩)⟩, by simp [intOf]⟩
        · have q : (b == 0) = false := by rw [beq_eq_false_iff_ne]; exact hb
          go_wp2_with fail
          go_ret
          exact ⟨by rw [HR.out]; rfl, rfl⟩
      · go_wp2_with fail
        go_ret
        exact ⟨by rw [HR.out]; rfl, rfl⟩
  · have HR : Hid (orI a b = a) := Lib.hid (if_neg ha)
    have q : (a == 0) = false := by rw [beq_eq_false_iff_ne]; exact ha
    go_enter Try.func41, Try.ntmps41
    go_wp2_with fail
    go_loopw [8] (fun i wr => wr = w ∧ i = .int .i64 ((0 : Nat) : Int)) (fun i _ => 2 - (intOf i).toNat)
    case atStart => exact ⟨rfl, rfl⟩
    case round =>
      obtain ⟨rfl, rfl⟩ := hrel
      go_wp2_with fail
      go_ret
      exact ⟨by rw [HR.out]; rfl, rfl⟩
theorem cmpB_lt : ∀ a b : List UInt8, Lib.compareBytes a b = (bif Op.bytesLess a b then -1 else bif Op.bytesLess b a then 1 else 0)
  | [], [] => by simp [Lib.compareBytes, Op.bytesLess]
  | [], _ :: _ => by simp [Lib.compareBytes, Op.bytesLess]
  | _ :: _, [] => by simp [Lib.compareBytes, Op.bytesLess]
  | a :: x, b :: y => by
    unfold Lib.compareBytes Op.bytesLess
    by_cases h : a < b
    · simp [h]
    · by_cases h2 : b < a
      · have : ¬ a = b := fun e => by rw [e] at h2; exact absurd h2 (by rw [e] at h; exact h)
        have hq : (a == b) = false := by rw [beq_eq_false_iff_ne]; exact this
        simp [h, h2, hq]
      · have : a = b := by
          apply UInt8.toNat_inj.1
          rw [UInt8.lt_iff_toNat_lt] at h h2
          omega
        subst this
        simp [h, cmpB_lt x y]
theorem cmpP_code (a b : Po) : orI (Lib.compareInt a.depth b.depth) (Lib.compareBytes a.id.data.toList b.id.data.toList) = cmpP a b := by
  unfold orI cmpP beforeP Lib.compareInt
  rw [cmpB_lt, ByteArray.toList_eq, ByteArray.toList_eq]
  by_cases h : a.depth < b.depth
  · have h2 : ¬ b.depth < a.depth := by omega
    have h3 : ¬ b.depth = a.depth := by omega
    simp [h]
  · by_cases h2 : b.depth < a.depth
    · have h3 : ¬ a.depth = b.depth := by omega
      simp [h, h2, h3]
    · have h3 : a.depth = b.depth := by omega
      simp [h3]

set_option maxHeartbeats 1600000 in
theorem compare_gr (a b : Po) (w : World) : Calls Try.prog 40 #[.agg #[.int .i64 a.depth, .string a.id], .agg #[.int .i64 b.depth, .string b.id]] w fun e w' => e = .returned (.int .i64 (cmpP a b)) ∧ Gr w w' := by
  have hs1 : (w.alloc (.cells #[.int .i64 a.depth, .string a.id] 36)).heap.size = w.heap.size + 1 := by simp
  have H3 := Lib.hid (heap_alloc_new (w.alloc (.cells #[.int .i64 a.depth, .string a.id] 36)) (.cells #[.int .i64 b.depth, .string b.id] 36))
  have H2 := Lib.hid ((heap_alloc_old (w.alloc (.cells #[.int .i64 a.depth, .string a.id] 36)) (.cells #[.int .i64 b.depth, .string b.id] 36) (r := w.heap.size) (by rw [hs1]; omega)).trans (heap_alloc_new w _))
  have HB := Lib.hid (((Gr.refl w).alloc (.cells #[.int .i64 a.depth, .string a.id] 36)).alloc (.cells #[.int .i64 b.depth, .string b.id] 36))
  rw [hs1] at H3
  clear hs1
  have HQ1 := Lib.hid (fun W => Try.cmp_Compare_int a.depth b.depth W)
  have HQ2 := Lib.hid (fun W => Try.strings_Compare a.id b.id W)
  have HU := Lib.hid (cmpP_code a b)
  generalize Lib.compareInt a.depth b.depth = x at HQ1 HU
  generalize Lib.compareBytes a.id.data.toList b.id.data.toList = y at HQ2 HU
  go_enter Try.func40, Try.ntmps40
  go_upto_region 1 with (fail)
  generalize World.alloc _ _ = w1 at H2 H3 HB ⊢
  generalize w.heap.size + 1 = B3 at H3 ⊢
  generalize hB2 : w.heap.size = B2 at H2 ⊢
  have HS : w1.drew.cell? ⟨B2, 0, none⟩ = some (.int .i64 a.depth) ∧ w1.drew.cell? ⟨B2, 1, none⟩ = some (.string a.id) ∧ w1.drew.cell? ⟨B3, 0, none⟩ = some (.int .i64 b.depth) ∧ w1.drew.cell? ⟨B3, 1, none⟩ = some (.string b.id) ∧ Gr w w1.drew := ⟨cell_at H2.out 0, cell_at H2.out 1, cell_at H3.out 0, cell_at H3.out 1, HB.out.drew⟩
  refine wp_region_held_drew (S := fun w' => w'.cell? ⟨B2, 0, none⟩ = some (.int .i64 a.depth) ∧ w'.cell? ⟨B2, 1, none⟩ = some (.string a.id) ∧ w'.cell? ⟨B3, 0, none⟩ = some (.int .i64 b.depth) ∧ w'.cell? ⟨B3, 1, none⟩ = some (.string b.id) ∧ Gr w w') (by kernel_rfl) HS (fun hHeld => ?_)
  clear HS H2 H3 HB
  generalize w1.drew = wd at hHeld ⊢
  refine wpAnyH_take (i := 0) (oi := ⟨some 5, _, _, _, _, _⟩) (v := ?vc0) rfl (by kernel_rfl) (by kernel_rfl) (by kernel_rfl) (fun _ _ _ h => h) (Or.inl ⟨by rfl, ?yc0⟩) hHeld ?rc0
  case yc0 =>
    intro wx hSx
    go_simp
    try with_reducible rfl
  try simp only [Act.put, List.setIfInBounds_toArray, List.set_cons_zero, List.set_cons_succ]
  refine wpAnyH_take (i := 2) (oi := ⟨some 7, _, _, _, _, _⟩) (v := ?vc2) rfl (by kernel_rfl) (by kernel_rfl) (by kernel_rfl) (fun _ _ _ h => h) (Or.inl ⟨by rfl, ?yc2⟩) hHeld ?rc2
  case yc2 =>
    intro wx hSx
    go_simp
    try with_reducible rfl
  try simp only [Act.put, List.setIfInBounds_toArray, List.set_cons_zero, List.set_cons_succ]
  refine wpAnyH_take (i := 5) (oi := ⟨some 10, _, _, _, _, _⟩) (v := ?vc5) rfl (by kernel_rfl) (by kernel_rfl) (by kernel_rfl) (fun _ _ _ h => h) (Or.inl ⟨by rfl, ?yc5⟩) hHeld ?rc5
  case yc5 =>
    intro wx hSx
    go_simp
    try with_reducible rfl
  try simp only [Act.put, List.setIfInBounds_toArray, List.set_cons_zero, List.set_cons_succ]
  refine wpAnyH_take (i := 7) (oi := ⟨some 12, _, _, _, _, _⟩) (v := ?vc7) rfl (by kernel_rfl) (by kernel_rfl) (by kernel_rfl) (fun _ _ _ h => h) (Or.inl ⟨by rfl, ?yc7⟩) hHeld ?rc7
  case yc7 =>
    intro wx hSx
    go_simp
    try with_reducible rfl
  try simp only [Act.put, List.setIfInBounds_toArray, List.set_cons_zero, List.set_cons_succ]
  refine wpAnyH_take (i := 1) (oi := ⟨some 6, _, _, _, _, _⟩) (v := ?vc1) rfl (by kernel_rfl) (by kernel_rfl) (by kernel_rfl) (fun _ _ _ h => h) (Or.inl ⟨by rfl, ?yc1⟩) hHeld ?rc1
  case yc1 =>
    intro wx hSx
    obtain ⟨z1, z2, z3, z4, -⟩ := hSx
    go_simp
    try with_reducible rfl
  try simp only [Act.put, List.setIfInBounds_toArray, List.set_cons_zero, List.set_cons_succ]
  refine wpAnyH_take (i := 3) (oi := ⟨some 8, _, _, _, _, _⟩) (v := ?vc3) rfl (by kernel_rfl) (by kernel_rfl) (by kernel_rfl) (fun _ _ _ h => h) (Or.inl ⟨by rfl, ?yc3⟩) hHeld ?rc3
  case yc3 =>
    intro wx hSx
    obtain ⟨z1, z2, z3, z4, -⟩ := hSx
    go_simp
    try with_reducible rfl
  try simp only [Act.put, List.setIfInBounds_toArray, List.set_cons_zero, List.set_cons_succ]
  refine wpAnyH_take (i := 6) (oi := ⟨some 11, _, _, _, _, _⟩) (v := ?vc6) rfl (by kernel_rfl) (by kernel_rfl) (by kernel_rfl) (fun _ _ _ h => h) (Or.inl ⟨by rfl, ?yc6⟩) hHeld ?rc6
  case yc6 =>
    intro wx hSx
    obtain ⟨z1, z2, z3, z4, -⟩ := hSx
    go_simp
    try with_reducible rfl
  try simp only [Act.put, List.setIfInBounds_toArray, List.set_cons_zero, List.set_cons_succ]
  refine wpAnyH_take (i := 8) (oi := ⟨some 13, _, _, _, _, _⟩) (v := ?vc8) rfl (by kernel_rfl) (by kernel_rfl) (by kernel_rfl) (fun _ _ _ h => h) (Or.inl ⟨by rfl, ?yc8⟩) hHeld ?rc8
  case yc8 =>
    intro wx hSx
    obtain ⟨z1, z2, z3, z4, -⟩ := hSx
    go_simp
    try with_reducible rfl
  try simp only [Act.put, List.setIfInBounds_toArray, List.set_cons_zero, List.set_cons_succ]
  refine anyH_asks (i := 4) (oi := ⟨some 9, _, _, _, _, _⟩) (v := .int .i64 x) rfl (by kernel_rfl) (by kernel_rfl) (by kernel_rfl) (fun _ _ _ h => h) ⟨by rfl, fun wx hSx => ⟨_, _, ?ec4, (HQ1.out _).mono (fun _ _ h => ⟨h.1, h.2.symm⟩)⟩⟩ hHeld ?rc4
  case ec4 => go_simp
  try simp only [Act.put, List.setIfInBounds_toArray, List.set_cons_zero, List.set_cons_succ]
  refine anyH_asks (i := 9) (oi := ⟨some 14, _, _, _, _, _⟩) (v := .int .i64 y) rfl (by kernel_rfl) (by kernel_rfl) (by kernel_rfl) (fun _ _ _ h => h) ⟨by rfl, fun wx hSx => ⟨_, _, ?ec9, (HQ2.out _).mono (fun _ _ h => ⟨h.1, h.2.symm⟩)⟩⟩ hHeld ?rc9
  case ec9 => go_simp
  try simp only [Act.put, List.setIfInBounds_toArray, List.set_cons_zero, List.set_cons_succ]
  refine wpAnyH_ready (rs := [10]) (by kernel_rfl) (by simp) ?_
  refine AllReadyH.cons (o := ⟨some 15, _, _, _, _, _⟩) rfl (fun K hK => ?_) AllReadyH.nil
  have hNW : (wd.alloc (.cells #[.int .i64 x, .int .i64 y] 3)).cell? ⟨B2, 0, none⟩ = some (.int .i64 a.depth) ∧ (wd.alloc (.cells #[.int .i64 x, .int .i64 y] 3)).cell? ⟨B2, 1, none⟩ = some (.string a.id) ∧ (wd.alloc (.cells #[.int .i64 x, .int .i64 y] 3)).cell? ⟨B3, 0, none⟩ = some (.int .i64 b.depth) ∧ (wd.alloc (.cells #[.int .i64 x, .int .i64 y] 3)).cell? ⟨B3, 1, none⟩ = some (.string b.id) ∧ Gr w (wd.alloc (.cells #[.int .i64 x, .int .i64 y] 3)) := by
    obtain ⟨z1, z2, z3, z4, z5⟩ := hHeld
    have bn := below_new wd (.cells #[.int .i64 x, .int .i64 y] 3)
    exact ⟨(bn.cell (World.block_lt_of_cell? _ _ z1)).trans z1, (bn.cell (World.block_lt_of_cell? _ _ z2)).trans z2, (bn.cell (World.block_lt_of_cell? _ _ z3)).trans z3, (bn.cell (World.block_lt_of_cell? _ _ z4)).trans z4, z5.alloc _⟩
  have hn := heap_alloc_new wd (.cells #[.int .i64 x, .int .i64 y] 3)
  go_simp
  refine hK.out _ _ hNW (fun hHeld => ?_)
  clear hK K hNW
  try simp only [Act.put, List.setIfInBounds_toArray, List.set_cons_zero, List.set_cons_succ]
  refine wpAnyH_ready (rs := [11]) (by kernel_rfl) (by simp) ?_
  refine AllReadyH.cons (o := ⟨some 16, _, _, _, _, _⟩) rfl (fun K hK => ?_) AllReadyH.nil
  go_simp
  refine (or_any x y wd.heap.size _ (cell_at hn 0) (cell_at hn 1)).mono ?_
  rintro e wn ⟨rfl, rfl⟩
  refine hK.out _ _ hHeld (fun hHeld => ?_)
  clear hK K
  try simp only [Act.put, List.setIfInBounds_toArray, List.set_cons_zero, List.set_cons_succ]
  refine wpAnyH_take (i := 12) (oi := ⟨some 4, _, _, _, _, _⟩) (v := ?vc12) rfl (by kernel_rfl) (by kernel_rfl) (by kernel_rfl) (fun _ _ _ h => h) (Or.inl ⟨by rfl, ?yc12⟩) hHeld ?rc12
  case yc12 =>
    intro wx hSx
    go_simp
    try with_reducible rfl
  try simp only [Act.put, List.setIfInBounds_toArray, List.set_cons_zero, List.set_cons_succ]
  refine wpAnyH_done (by kernel_rfl) ?_ _
  go_wp2_with fail
  go_ret
  exact ⟨by rw [← HU.out]; rfl, hHeld.2.2.2.2⟩

theorem Lies.Slice.stay0 {α : Type} {L : Lies α} {w w' : World} {v : Value} {xs : List α} (h : L.Slice w v xs) (hs : w.heap.size ≤ w'.heap.size) (hb : ∀ k, k < w.heap.size → 0 < xs.length → v.ownBlock = some k → w'.heap[k]? = w.heap[k]?) : L.Slice w' v xs := by
  obtain ⟨A, cap, rfl, h1, h2, h3, h4⟩ := h
  refine ⟨A, cap, rfl, h1, h2, h3, fun h0 => ?_⟩
  obtain ⟨b, off, rfl, hl, hr⟩ := h4 h0
  refine ⟨b, off, rfl, Nat.lt_of_lt_of_le hl hs, fun j u hu => ?_⟩
  exact (World.cell?_of_block (a := ⟨b, off + j, none⟩) (hb b hl h0 rfl)).trans (hr j u hu)
theorem Lies.Slice.stay {α : Type} {L : Lies α} {w w' : World} {v : Value} {xs : List α} (h : L.Slice w v xs) (hs : w.heap.size ≤ w'.heap.size) (hb : ∀ k, k < w.heap.size → v.ownBlock = some k → w'.heap[k]? = w.heap[k]?) : L.Slice w' v xs :=
  h.stay0 hs (fun k hk _ hv => hb k hk hv)
theorem Lies.Slice.foot {α : Type} {L : Lies α} {w : World} {v : Value} {xs : List α} (h : L.Slice w v xs) {k : Nat} (h0 : 0 < xs.length) (hk : v.ownBlock = some k) : k < w.heap.size := by
  obtain ⟨A, cap, rfl, h1, h2, h3, h4⟩ := h
  obtain ⟨b, off, rfl, hl, hr⟩ := h4 h0
  have h5 : b = k := by simpa [Value.ownBlock] using hk
  rw [← h5]; exact hl
theorem lit_slice {α : Type} {L : Lies α} (w : World) (x : α) (B : Nat) (hB : B = w.heap.size) (cs : Array Value) (hc : cs.toList = L.cl x) : L.Slice (w.alloc (.cells cs L.e)) (.slice (some ⟨B, 0, none⟩) 1 1) [x] := by
  subst hB
  refine ⟨_, 1, rfl, Nat.le_refl _, by unfold maxLen; omega, (fun e => by cases e), fun _ => ⟨_, 0, rfl, by simp, fun j u hu => ?_⟩⟩
  rw [Nat.zero_add, cell_of_row _ _ _ _ _ _ (heap_alloc_new w _), ← Array.getElem?_toList, hc]
  rw [L.vs_sing] at hu
  exact hu
theorem lit_many {α : Type} {L : Lies α} (w : World) (xs : List α) (B n : Nat) (hB : B = w.heap.size) (hn : xs.length = n) (hm : n ≤ maxLen) (cs : Array Value) (hc : cs.toList = L.vs xs) : L.Slice (w.alloc (.cells cs L.e)) (.slice (some ⟨B, 0, none⟩) n n) xs := by
  subst hB hn
  refine ⟨_, _, rfl, Nat.le_refl _, hm, (fun e => by cases e), fun _ => ⟨_, 0, rfl, by simp, fun j u hu => ?_⟩⟩
  rw [Nat.zero_add, cell_of_row _ _ _ _ _ _ (heap_alloc_new w _), ← Array.getElem?_toList, hc]
  exact hu
/-- Only these blocks have turned, and new ones have come. -/
structure TurnP (P : Nat → Prop) (w w' : World) : Prop where
  os : w'.os = w.os
  tape : w'.tape = w.tape
  output : w'.output = w.output
  size : w.heap.size ≤ w'.heap.size
  block : ∀ k, k < w.heap.size → ¬ P k → w'.heap[k]? = w.heap[k]?
theorem TurnP.below {P : Nat → Prop} {w w' : World} {B : Nat} (h : TurnP P w w') (hf : ∀ k, P k → B ≤ k) (hB : B ≤ w.heap.size) : Below B w w' := ⟨h.os, h.tape, h.output, h.size, fun k hk => h.block k (Nat.lt_of_lt_of_le hk hB) (fun hh => by have := hf k hh; omega)⟩
theorem below_drew (w : World) : Below w.heap.size w w.drew := (Below.refl _ w).drew

/-- A thing that lies in memory: which blocks it takes, what it says. -/
structure Th where
  P : Nat → Prop
  I : World → Prop
  lt : ∀ w k, I w → P k → k < w.heap.size
  st : ∀ w w' : World, I w → w.heap.size ≤ w'.heap.size → (∀ k, k < w.heap.size → P k → w'.heap[k]? = w.heap[k]?) → I w'
def Th.box (B : Nat) (o : Obj) : Th := ⟨fun k => k = B, fun w => w.heap[B]? = some o, fun w k h e => by rw [e]; exact smem_lt h, fun w w' h hs hb => (hb B (smem_lt h) rfl).trans h⟩
def Th.low (B : Nat) : Th := ⟨fun _ => False, fun w => B ≤ w.heap.size, fun w k h e => e.elim, fun w w' h hs hb => Nat.le_trans h hs⟩
def Th.mark (B : Nat) : Th := ⟨fun k => k = B, fun w => B < w.heap.size, fun w k h e => by rw [e]; exact h, fun w w' h hs hb => Nat.lt_of_lt_of_le h hs⟩
def Th.row {α : Type} (L : Lies α) (v : Value) (us : List α) : Th := ⟨fun k => 0 < us.length ∧ v.ownBlock = some k, fun w => L.Slice w v us, fun w k h hk => h.foot hk.1 hk.2, fun w w' h hs hb => h.stay0 hs (fun k hk h0 hv => hb k hk ⟨h0, hv⟩)⟩
def Th.mine {α : Type} (L : Lies α) (B : Nat) (v : Value) (us : List α) : Th := ⟨fun k => v.ownBlock = some k, fun w => L.Mine w B v us, fun w k h hk => (h.lt k hk).2, fun w w' h hs hb => h.keep (fun k hk => hb k (h.lt k hk).2 hk)⟩
abbrev Dv := DataW Value
def heldR (v : Value) : Option (Dv × List MemPlace) := some (.held v, [])
end Go.Proofs.Ytmialpaldkpmbaa
