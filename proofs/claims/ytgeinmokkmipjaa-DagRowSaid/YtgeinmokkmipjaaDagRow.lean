/-
  DagRow: positions in their row.
-/
import Derived.Test.YtgeinmokkmipjaaDagLives
namespace Go.Proofs.Ytgeinmokkmipjaa
set_option maxRecDepth 20000
open Go.RowKit
set_option linter.unusedVariables false
set_option linter.unusedSimpArgs false

theorem pos_asym {a b : Po} (h : beforeP a b = true) : beforeP b a = false := by
  rw [Bool.eq_false_iff]
  intro k
  have := pos_trans h k
  rw [pos_irrefl] at this
  cases this
theorem cmp_neg (a b : Po) : cmpP b a = - cmpP a b := by
  unfold cmpP
  cases h : beforeP a b
  · cases k : beforeP b a <;> rfl
  · rw [pos_asym h]
    rfl
theorem cmp_zero (a b : Po) : cmpP a b = 0 ↔ a = b := by
  constructor
  · intro h
    unfold cmpP at h
    cases h1 : beforeP a b
    · cases h2 : beforeP b a
      · apply Classical.byContradiction
        intro hne
        rcases pos_total hne with k | k
        · rw [h1] at k; cases k
        · rw [h2] at k; cases k
      · rw [h1, h2] at h; exact absurd h (by decide)
    · rw [h1, cond_true] at h; exact absurd h (by decide)
  · rintro rfl
    unfold cmpP
    rw [pos_irrefl]
    rfl
theorem cmp_range (a b : Po) : cmpP a b = -1 ∨ cmpP a b = 0 ∨ cmpP a b = 1 := by
  unfold cmpP
  cases beforeP a b
  · cases beforeP b a
    · exact .inr (.inl rfl)
    · exact .inr (.inr rfl)
  · exact .inl rfl
theorem cmp_le {a b : Po} : cmpP a b ≤ 0 ↔ beforeP b a = false := by
  unfold cmpP
  cases h : beforeP a b
  · cases k : beforeP b a <;> simp
  · rw [pos_asym h]
    simp
theorem cmp_trans {a b c : Po} (h : cmpP a b ≤ 0) (k : cmpP b c ≤ 0) : cmpP a c ≤ 0 := by
  rw [cmp_le] at *
  rw [Bool.eq_false_iff]
  intro hc
  by_cases e : a = b
  · subst e; rw [k] at hc; cases hc
  · rcases pos_total e with x | x
    · rw [pos_trans hc x] at k; cases k
    · rw [h] at x; cases x
def Po.few (p : Po) : Po := ⟨p.depth, fewS p.id 3⟩
/-- The three positions' blocks. -/
structure PoS (w wr : World) (B3 B4 B5 : Nat) (a b c : Po) : Prop where
  n34 : B3 ≠ B4
  n35 : B3 ≠ B5
  n45 : B4 ≠ B5
  lo3 : w.heap.size ≤ B3
  lo4 : w.heap.size ≤ B4
  lo5 : w.heap.size ≤ B5
  b3 : wr.heap[B3]? = some (.cells #[.int .i64 a.depth, .string a.id] 39 (0, 0))
  b4 : wr.heap[B4]? = some (.cells #[.int .i64 b.depth, .string b.id] 39 (0, 0))
  b5 : wr.heap[B5]? = some (.cells #[.int .i64 c.depth, .string c.id] 39 (0, 0))
  below : Below w.heap.size w wr
section
variable {w wr w2 : World} {B3 B4 B5 : Nat} {a b c : Po}
theorem PoS.on (h : PoS w wr B3 B4 B5 a b c) (hb : Below wr.heap.size wr w2) : PoS w w2 B3 B4 B5 a b c :=
  ⟨h.n34, h.n35, h.n45, h.lo3, h.lo4, h.lo5, (hb.block B3 (smem_lt h.b3)).trans h.b3, (hb.block B4 (smem_lt h.b4)).trans h.b4, (hb.block B5 (smem_lt h.b5)).trans h.b5, h.below.trans (hb.mono h.below.size)⟩
theorem PoS.set3 (h : PoS w wr B3 B4 B5 a b c) (s : ByteArray) : PoS w (wr.setCell ⟨B3, 1, none⟩ (.string s)) B3 B4 B5 ⟨a.depth, s⟩ b c :=
  ⟨h.n34, h.n35, h.n45, h.lo3, h.lo4, h.lo5, heap_set h.b3 1 _, (Below.heap_setCell wr _ _ B4 h.n34.symm).trans h.b4, (Below.heap_setCell wr _ _ B5 h.n35.symm).trans h.b5, h.below.grown (sm_grown wr B3 1 [.string s]) h.below.size (fun k hk => by injection hk with hk; have := h.lo3; omega)⟩
theorem PoS.set4 (h : PoS w wr B3 B4 B5 a b c) (s : ByteArray) : PoS w (wr.setCell ⟨B4, 1, none⟩ (.string s)) B3 B4 B5 a ⟨b.depth, s⟩ c :=
  ⟨h.n34, h.n35, h.n45, h.lo3, h.lo4, h.lo5, (Below.heap_setCell wr _ _ B3 h.n34).trans h.b3, heap_set h.b4 1 _, (Below.heap_setCell wr _ _ B5 h.n45.symm).trans h.b5, h.below.grown (sm_grown wr B4 1 [.string s]) h.below.size (fun k hk => by injection hk with hk; have := h.lo4; omega)⟩
theorem PoS.set5 (h : PoS w wr B3 B4 B5 a b c) (s : ByteArray) : PoS w (wr.setCell ⟨B5, 1, none⟩ (.string s)) B3 B4 B5 a b ⟨c.depth, s⟩ :=
  ⟨h.n34, h.n35, h.n45, h.lo3, h.lo4, h.lo5, (Below.heap_setCell wr _ _ B3 h.n35).trans h.b3, (Below.heap_setCell wr _ _ B4 h.n45).trans h.b4, heap_set h.b5 1 _, h.below.grown (sm_grown wr B5 1 [.string s]) h.below.size (fun k hk => by injection hk with hk; have := h.lo5; omega)⟩
theorem PoS.start (w : World) (a b c : Po) : PoS w (((w.alloc (.cells #[.int .i64 a.depth, .string a.id] 39)).alloc (.cells #[.int .i64 b.depth, .string b.id] 39)).alloc (.cells #[.int .i64 c.depth, .string c.id] 39)) w.heap.size (w.heap.size + 1) (w.heap.size + 1 + 1) a b c := by
  have s1 : ∀ (u : World) (o : Obj), (u.alloc o).heap.size = u.heap.size + 1 := fun u o => by simp
  refine ⟨by omega, by omega, by omega, by omega, by omega, by omega, ?_, ?_, ?_, ((Gr.refl w).alloc _ |>.alloc _ |>.alloc _).below⟩
  · rw [heap_alloc_old _ _ (by simp only [s1]; omega), heap_alloc_old _ _ (by simp only [s1]; omega)]
    exact heap_alloc_new _ _
  · rw [heap_alloc_old _ _ (by simp only [s1]; omega), show w.heap.size + 1 = (w.alloc (.cells #[.int .i64 a.depth, .string a.id] 39)).heap.size by simp only [s1]]
    exact heap_alloc_new _ _
  · have := heap_alloc_new ((w.alloc (.cells #[.int .i64 a.depth, .string a.id] 39)).alloc (.cells #[.int .i64 b.depth, .string b.id] 39)) (.cells #[.int .i64 c.depth, .string c.id] 39)
    simp only [s1] at this
    exact this
end

set_option maxHeartbeats 1600000 in
theorem dagRow_walk (C : Dags) (a b c : Po) (w : World) (ha : a.id.size ≤ maxLen) (hb : b.id.size ≤ maxLen) (hc : c.id.size ≤ maxLen) :
    Calls Try.prog 5 #[a.val, b.val, c.val] w fun e w' => e = .returned (.bool true) ∧ Below w.heap.size w w' := by
  have HS := Lib.hid (PoS.start w a b c)
  have HF1 := Lib.hid (fun W => few_any a.id 3 (by decide) W ha)
  have HF2 := Lib.hid (fun W => few_any b.id 3 (by decide) W hb)
  have HF3 := Lib.hid (fun W => few_any c.id 3 (by decide) W hc)
  clear ha hb hc
  unfold Po.val
  go_enter Try.func5, Try.ntmps5
  go_upto_region 1 with (fail)
  generalize World.alloc _ _ = w1 at HS ⊢
  generalize w.heap.size + 1 + 1 = B5 at HS ⊢
  generalize w.heap.size + 1 = B4 at HS ⊢
  generalize hB3 : w.heap.size = B3 at HS ⊢
  have c1 : w1.cell? ⟨B3, 1, none⟩ = some (.string a.id) := cell_at HS.out.b3 1
  have f1 : w1.frozen? ⟨B3, 1, none⟩ = false := free_at HS.out.b3 1
  replace HS := Lib.hid (HS.out.set3 (fewS a.id 3))
  go_upto_region 2 with (go_at_call 18; refine (HF1.out _).mono ?_; rintro e w' ⟨rfl, rfl⟩)
  clear c1 f1 HF1
  generalize w1.setCell _ _ = w2 at HS ⊢
  have c2 : w2.cell? ⟨B4, 1, none⟩ = some (.string b.id) := cell_at HS.out.b4 1
  have f2 : w2.frozen? ⟨B4, 1, none⟩ = false := free_at HS.out.b4 1
  replace HS := Lib.hid (HS.out.set4 (fewS b.id 3))
  go_upto_region 3 with (go_at_call 18; refine (HF2.out _).mono ?_; rintro e w' ⟨rfl, rfl⟩)
  clear c2 f2 HF2
  generalize w2.setCell _ _ = w3 at HS ⊢
  have c3 : w3.cell? ⟨B5, 1, none⟩ = some (.string c.id) := cell_at HS.out.b5 1
  have f3 : w3.frozen? ⟨B5, 1, none⟩ = false := free_at HS.out.b5 1
  replace HS := Lib.hid (HS.out.set5 (fewS c.id 3))
  go_upto_region 4 with (go_at_call 18; refine (HF3.out _).mono ?_; rintro e w' ⟨rfl, rfl⟩)
  clear c3 f3 HF3
  generalize w3.setCell _ _ = w4 at HS ⊢
  replace HS := Lib.hid (show PoS w w4 B3 B4 B5 a.few b.few c.few from HS.out)
  have HZ := Lib.hid (fun W => lives_any C W)
  generalize a.few = x at HS
  generalize b.few = y at HS
  generalize c.few = z at HS
  have p30 : w4.cell? ⟨B3, 0, none⟩ = some (.int .i64 x.depth) := cell_at HS.out.b3 0
  have p31 : w4.cell? ⟨B3, 1, none⟩ = some (.string x.id) := cell_at HS.out.b3 1
  have p40 : w4.cell? ⟨B4, 0, none⟩ = some (.int .i64 y.depth) := cell_at HS.out.b4 0
  have p41 : w4.cell? ⟨B4, 1, none⟩ = some (.string y.id) := cell_at HS.out.b4 1
  have p50 : w4.cell? ⟨B5, 0, none⟩ = some (.int .i64 z.depth) := cell_at HS.out.b5 0
  have p51 : w4.cell? ⟨B5, 1, none⟩ = some (.string z.id) := cell_at HS.out.b5 1
  have HC := Lib.hid (fun (p q : Po) W => C.compare (w := W) p q)
  unfold Po.val at HC
  have HR := Lib.hid (fun W => refCompare_any x y W)
  have hn := cmp_range x y
  have hm := cmp_range y z
  have HNE := Lib.hid (cmp_neg x y)
  have HZE := Lib.hid (cmp_zero x y)
  have HTR : Hid (cmpP x y ≤ 0 → cmpP y z ≤ 0 → cmpP x z ≤ 0) := Lib.hid cmp_trans
  go_wp2_with fail
  go_at_call 17
  refine (HC.out x y _).mono ?_
  rintro e w5 ⟨rfl, b5⟩
  replace HS := Lib.hid (HS.out.on b5)
  clear b5 p30 p31 p40 p41 p50 p51
  have p30 : w5.cell? ⟨B3, 0, none⟩ = some (.int .i64 x.depth) := cell_at HS.out.b3 0
  have p31 : w5.cell? ⟨B3, 1, none⟩ = some (.string x.id) := cell_at HS.out.b3 1
  have p40 : w5.cell? ⟨B4, 0, none⟩ = some (.int .i64 y.depth) := cell_at HS.out.b4 0
  have p41 : w5.cell? ⟨B4, 1, none⟩ = some (.string y.id) := cell_at HS.out.b4 1
  have p50 : w5.cell? ⟨B5, 0, none⟩ = some (.int .i64 z.depth) := cell_at HS.out.b5 0
  have p51 : w5.cell? ⟨B5, 1, none⟩ = some (.string z.id) := cell_at HS.out.b5 1
  go_wp2_with fail
  go_at_call 17
  refine (HC.out y z _).mono ?_
  rintro e w6 ⟨rfl, b5⟩
  replace HS := Lib.hid (HS.out.on b5)
  clear b5 p30 p31 p40 p41 p50 p51
  have p30 : w6.cell? ⟨B3, 0, none⟩ = some (.int .i64 x.depth) := cell_at HS.out.b3 0
  have p31 : w6.cell? ⟨B3, 1, none⟩ = some (.string x.id) := cell_at HS.out.b3 1
  have p40 : w6.cell? ⟨B4, 0, none⟩ = some (.int .i64 y.depth) := cell_at HS.out.b4 0
  have p41 : w6.cell? ⟨B4, 1, none⟩ = some (.string y.id) := cell_at HS.out.b4 1
  have p50 : w6.cell? ⟨B5, 0, none⟩ = some (.int .i64 z.depth) := cell_at HS.out.b5 0
  have p51 : w6.cell? ⟨B5, 1, none⟩ = some (.string z.id) := cell_at HS.out.b5 1
  go_wp2_with fail
  go_at_call 19
  refine (HR.out _).mono ?_
  rintro e w7 ⟨rfl, b5⟩
  replace HS := Lib.hid (HS.out.on b5.below)
  clear b5 p30 p31 p40 p41 p50 p51
  have p30 : w7.cell? ⟨B3, 0, none⟩ = some (.int .i64 x.depth) := cell_at HS.out.b3 0
  have p31 : w7.cell? ⟨B3, 1, none⟩ = some (.string x.id) := cell_at HS.out.b3 1
  have p40 : w7.cell? ⟨B4, 0, none⟩ = some (.int .i64 y.depth) := cell_at HS.out.b4 0
  have p41 : w7.cell? ⟨B4, 1, none⟩ = some (.string y.id) := cell_at HS.out.b4 1
  have p50 : w7.cell? ⟨B5, 0, none⟩ = some (.int .i64 z.depth) := cell_at HS.out.b5 0
  have p51 : w7.cell? ⟨B5, 1, none⟩ = some (.string z.id) := cell_at HS.out.b5 1
  have qq : (cmpP x y == cmpP x y) = true := by rw [beq_iff_eq]
  go_wp2_with fail
  go_at_call 17
  refine (HC.out y x _).mono ?_
  rintro e w8 ⟨rfl, b5⟩
  replace HS := Lib.hid (HS.out.on b5)
  clear b5 p30 p31 p40 p41 p50 p51 qq
  have p30 : w8.cell? ⟨B3, 0, none⟩ = some (.int .i64 x.depth) := cell_at HS.out.b3 0
  have p31 : w8.cell? ⟨B3, 1, none⟩ = some (.string x.id) := cell_at HS.out.b3 1
  have p40 : w8.cell? ⟨B4, 0, none⟩ = some (.int .i64 y.depth) := cell_at HS.out.b4 0
  have p41 : w8.cell? ⟨B4, 1, none⟩ = some (.string y.id) := cell_at HS.out.b4 1
  have p50 : w8.cell? ⟨B5, 0, none⟩ = some (.int .i64 z.depth) := cell_at HS.out.b5 0
  have p51 : w8.cell? ⟨B5, 1, none⟩ = some (.string z.id) := cell_at HS.out.b5 1
  rw [HNE.out]
  generalize cmpP x y = n at hn HZE HTR ⊢
  generalize cmpP y z = m at hm HTR ⊢
  rcases hn with rfl | rfl | rfl
  · have hne : ¬ x = y := fun e => absurd (HZE.out.2 e) (by decide)
    by_cases hd : x.depth = y.depth
    · have qd : (x.depth == y.depth) = true := by rw [beq_iff_eq]; exact hd
      have hni : ¬ x.id = y.id := fun e => hne (by cases x; cases y; simp only at hd e; rw [hd, e])
      have qi : (x.id.toList == y.id.toList) = false := by rw [keyB]; exact decide_eq_false hni
      clear hd hne hni
      rcases hm with rfl | rfl | rfl
      · go_wp2_with fail
        go_at_call 17
        refine (HC.out x z _).mono ?_
        rintro e wA ⟨rfl, b5⟩
        replace HS := Lib.hid (HS.out.on b5)
        clear b5
        have ht : cmpP x z ≤ 0 := HTR.out (by decide) (by decide)
        have qt : decide (cmpP x z ≤ 0) = true := decide_eq_true ht
        generalize cmpP x z = t at qt ⊢
        go_wp2_with fail
        go_at_call 14
        refine (HZ.out _).mono ?_
        rintro e w9 ⟨rfl, b9⟩
        replace HS := Lib.hid (HS.out.on b9)
        clear b9
        go_wp2_with fail
        go_ret
        exact ⟨rfl, HS.out.below⟩
      · go_wp2_with fail
        go_at_call 17
        refine (HC.out x z _).mono ?_
        rintro e wA ⟨rfl, b5⟩
        replace HS := Lib.hid (HS.out.on b5)
        clear b5
        have ht : cmpP x z ≤ 0 := HTR.out (by decide) (by decide)
        have qt : decide (cmpP x z ≤ 0) = true := decide_eq_true ht
        generalize cmpP x z = t at qt ⊢
        go_wp2_with fail
        go_at_call 14
        refine (HZ.out _).mono ?_
        rintro e w9 ⟨rfl, b9⟩
        replace HS := Lib.hid (HS.out.on b9)
        clear b9
        go_wp2_with fail
        go_ret
        exact ⟨rfl, HS.out.below⟩
      · go_wp2_with fail
        go_at_call 14
        refine (HZ.out _).mono ?_
        rintro e w9 ⟨rfl, b9⟩
        replace HS := Lib.hid (HS.out.on b9)
        clear b9
        go_wp2_with fail
        go_ret
        exact ⟨rfl, HS.out.below⟩
    · have qd : (x.depth == y.depth) = false := by rw [beq_eq_false_iff_ne]; exact hd
      clear hd hne
      rcases hm with rfl | rfl | rfl
      · go_wp2_with fail
        go_at_call 17
        refine (HC.out x z _).mono ?_
        rintro e wA ⟨rfl, b5⟩
        replace HS := Lib.hid (HS.out.on b5)
        clear b5
        have ht : cmpP x z ≤ 0 := HTR.out (by decide) (by decide)
        have qt : decide (cmpP x z ≤ 0) = true := decide_eq_true ht
        generalize cmpP x z = t at qt ⊢
        go_wp2_with fail
        go_at_call 14
        refine (HZ.out _).mono ?_
        rintro e w9 ⟨rfl, b9⟩
        replace HS := Lib.hid (HS.out.on b9)
        clear b9
        go_wp2_with fail
        go_ret
        exact ⟨rfl, HS.out.below⟩
      · go_wp2_with fail
        go_at_call 17
        refine (HC.out x z _).mono ?_
        rintro e wA ⟨rfl, b5⟩
        replace HS := Lib.hid (HS.out.on b5)
        clear b5
        have ht : cmpP x z ≤ 0 := HTR.out (by decide) (by decide)
        have qt : decide (cmpP x z ≤ 0) = true := decide_eq_true ht
        generalize cmpP x z = t at qt ⊢
        go_wp2_with fail
        go_at_call 14
        refine (HZ.out _).mono ?_
        rintro e w9 ⟨rfl, b9⟩
        replace HS := Lib.hid (HS.out.on b9)
        clear b9
        go_wp2_with fail
        go_ret
        exact ⟨rfl, HS.out.below⟩
      · go_wp2_with fail
        go_at_call 14
        refine (HZ.out _).mono ?_
        rintro e w9 ⟨rfl, b9⟩
        replace HS := Lib.hid (HS.out.on b9)
        clear b9
        go_wp2_with fail
        go_ret
        exact ⟨rfl, HS.out.below⟩
  · obtain rfl := HZE.out.1 rfl
    rcases hm with rfl | rfl | rfl
    · go_wp2_with fail
      go_at_call 17
      refine (HC.out x z _).mono ?_
      rintro e wA ⟨rfl, b5⟩
      replace HS := Lib.hid (HS.out.on b5)
      clear b5
      have ht : cmpP x z ≤ 0 := HTR.out (by decide) (by decide)
      have qt : decide (cmpP x z ≤ 0) = true := decide_eq_true ht
      generalize cmpP x z = t at qt ⊢
      go_wp2_with fail
      go_at_call 14
      refine (HZ.out _).mono ?_
      rintro e w9 ⟨rfl, b9⟩
      replace HS := Lib.hid (HS.out.on b9)
      clear b9
      go_wp2_with fail
      go_ret
      exact ⟨rfl, HS.out.below⟩
    · go_wp2_with fail
      go_at_call 17
      refine (HC.out x z _).mono ?_
      rintro e wA ⟨rfl, b5⟩
      replace HS := Lib.hid (HS.out.on b5)
      clear b5
      have ht : cmpP x z ≤ 0 := HTR.out (by decide) (by decide)
      have qt : decide (cmpP x z ≤ 0) = true := decide_eq_true ht
      generalize cmpP x z = t at qt ⊢
      go_wp2_with fail
      go_at_call 14
      refine (HZ.out _).mono ?_
      rintro e w9 ⟨rfl, b9⟩
      replace HS := Lib.hid (HS.out.on b9)
      clear b9
      go_wp2_with fail
      go_ret
      exact ⟨rfl, HS.out.below⟩
    · go_wp2_with fail
      go_at_call 14
      refine (HZ.out _).mono ?_
      rintro e w9 ⟨rfl, b9⟩
      replace HS := Lib.hid (HS.out.on b9)
      clear b9
      go_wp2_with fail
      go_ret
      exact ⟨rfl, HS.out.below⟩
  · have hne : ¬ x = y := fun e => absurd (HZE.out.2 e) (by decide)
    by_cases hd : x.depth = y.depth
    · have qd : (x.depth == y.depth) = true := by rw [beq_iff_eq]; exact hd
      have hni : ¬ x.id = y.id := fun e => hne (by cases x; cases y; simp only at hd e; rw [hd, e])
      have qi : (x.id.toList == y.id.toList) = false := by rw [keyB]; exact decide_eq_false hni
      clear hd hne hni
      rcases hm with rfl | rfl | rfl
      · go_wp2_with fail
        go_at_call 14
        refine (HZ.out _).mono ?_
        rintro e w9 ⟨rfl, b9⟩
        replace HS := Lib.hid (HS.out.on b9)
        clear b9
        go_wp2_with fail
        go_ret
        exact ⟨rfl, HS.out.below⟩
      · go_wp2_with fail
        go_at_call 14
        refine (HZ.out _).mono ?_
        rintro e w9 ⟨rfl, b9⟩
        replace HS := Lib.hid (HS.out.on b9)
        clear b9
        go_wp2_with fail
        go_ret
        exact ⟨rfl, HS.out.below⟩
      · go_wp2_with fail
        go_at_call 14
        refine (HZ.out _).mono ?_
        rintro e w9 ⟨rfl, b9⟩
        replace HS := Lib.hid (HS.out.on b9)
        clear b9
        go_wp2_with fail
        go_ret
        exact ⟨rfl, HS.out.below⟩
    · have qd : (x.depth == y.depth) = false := by rw [beq_eq_false_iff_ne]; exact hd
      clear hd hne
      rcases hm with rfl | rfl | rfl
      · go_wp2_with fail
        go_at_call 14
        refine (HZ.out _).mono ?_
        rintro e w9 ⟨rfl, b9⟩
        replace HS := Lib.hid (HS.out.on b9)
        clear b9
        go_wp2_with fail
        go_ret
        exact ⟨rfl, HS.out.below⟩
      · go_wp2_with fail
        go_at_call 14
        refine (HZ.out _).mono ?_
        rintro e w9 ⟨rfl, b9⟩
        replace HS := Lib.hid (HS.out.on b9)
        clear b9
        go_wp2_with fail
        go_ret
        exact ⟨rfl, HS.out.below⟩
      · go_wp2_with fail
        go_at_call 14
        refine (HZ.out _).mono ?_
        rintro e w9 ⟨rfl, b9⟩
        replace HS := Lib.hid (HS.out.on b9)
        clear b9
        go_wp2_with fail
        go_ret
        exact ⟨rfl, HS.out.below⟩
end Go.Proofs.Ytgeinmokkmipjaa
