/-
  ClockPlays' walk.
-/
import Derived.Test.YtnehcmlaoginiaaClkLives
import Derived.Test.YtnehcmlaoginiaaClkRef
import Derived.Deep.DeepCutAuto
import Derived.Deep.RegionHeld3
import Derived.OpenShut
import Derived.ProofKit
namespace Go.Proofs.Ytnehcmlaoginiaa
set_option maxRecDepth 20000
open Go.RowKit Go.ChangeShapes Go.WideShapes Go.ChangeAt
set_option linter.unusedVariables false
set_option linter.unusedSimpArgs false

/-- The two rows of two numbers that the statement makes, and all that was. -/
def Two (B : Nat) (f a m b : Int) (w wx : World) : Prop := Below B w wx ∧ wx.heap[B]? = some (.cells #[.int .i64 f, .int .i64 a] 3 (0, 0)) ∧ wx.heap[B + 1]? = some (.cells #[.int .i64 m, .int .i64 b] 3 (0, 0))
section
variable {B g : Nat} {f a m b : Int} {w wx wy : World} {k : Nat} {F M : Int} {l : List (Nat × Int × Int)}
theorem Two.big (h : Two B f a m b w wx) : B + 1 < wx.heap.size := heap_lt h.2.2
theorem Two.later (h : Two B f a m b w wx) (hb : Below wx.heap.size wx wy) : Two B f a m b w wy := by
  have := h.big
  exact ⟨h.1.trans (hb.mono (by omega)), (hb.block _ (by omega)).trans h.2.1, (hb.block _ (by omega)).trans h.2.2⟩
theorem Two.drew (h : Two B f a m b w wx) : Two B f a m b w wx.drew := ⟨h.1.drew, h.2⟩
theorem Two.drewN (h : Two B f a m b w wx) (d : Nat) : Two B f a m b w (wx.drewN d) := ⟨below_drewN h.1 d, h.2⟩
theorem Two.grown (h : Two B f a m b w wx) (hb : wx.grownBy wy (some g)) (hg : B + 1 < g) : Two B f a m b w wy := by
  have := h.big
  exact ⟨h.1.grown hb (by omega) (fun k hk => by injection hk with hk; omega), (hb.block _ (by omega) (fun e => by injection e with e; omega)).trans h.2.1, (hb.block _ (by omega) (fun e => by injection e with e; omega)).trans h.2.2⟩
theorem Two.cells (h : Two B f a m b w wx) (k : Nat) (hk : k < 2) : wx.cell? ⟨B, k, none⟩ = some (.int .i64 (if k = 0 then f else a)) ∧ wx.cell? ⟨B + 1, k, none⟩ = some (.int .i64 (if k = 0 then m else b)) := by
  rw [cell_at h.2.1, cell_at h.2.2]
  have : k = 0 ∨ k = 1 := by omega
  rcases this with rfl | rfl <;> exact ⟨rfl, rfl⟩
/-- So, what lies at k, and counters. -/
def TwoL (B : Nat) (f a m b : Int) (w : World) (l : List (Nat × Int × Int)) (wx : World) : Prop := Two B f a m b w wx ∧ ∀ p ∈ l, B + 1 < p.1 ∧ Cnt wx p.1 48 p.2.1 p.2.2
theorem TwoL.later (h : TwoL B f a m b w l wx) (hb : Below wx.heap.size wx wy) : TwoL B f a m b w l wy := ⟨h.1.later hb, fun p hp => ⟨(h.2 p hp).1, (h.2 p hp).2.below hb⟩⟩
theorem TwoL.drew (h : TwoL B f a m b w l wx) : TwoL B f a m b w l wx.drew := ⟨h.1.drew, h.2⟩
theorem TwoL.grown (h : TwoL B f a m b w l wx) (hb : wx.grownBy wy (some g)) (hg : B + 1 < g) (hl : ∀ p ∈ l, p.1 ≠ g) : TwoL B f a m b w l wy := ⟨h.1.grown hb hg, fun p hp => ⟨(h.2 p hp).1, (h.2 p hp).2.grown hb (hl p hp)⟩⟩
theorem twoL_drew (h : wx.cell? ⟨B, k, none⟩ = some (.int .i64 F) ∧ wx.cell? ⟨B + 1, k, none⟩ = some (.int .i64 M) ∧ TwoL B f a m b w l wx) : wx.drew.cell? ⟨B, k, none⟩ = some (.int .i64 F) ∧ wx.drew.cell? ⟨B + 1, k, none⟩ = some (.int .i64 M) ∧ TwoL B f a m b w l wx.drew := ⟨h.1, h.2.1, h.2.2.drew⟩
theorem twoL_call (h : wx.cell? ⟨B, k, none⟩ = some (.int .i64 F) ∧ wx.cell? ⟨B + 1, k, none⟩ = some (.int .i64 M) ∧ TwoL B f a m b w l wx) (hb : Below wx.heap.size wx wy) : wy.cell? ⟨B, k, none⟩ = some (.int .i64 F) ∧ wy.cell? ⟨B + 1, k, none⟩ = some (.int .i64 M) ∧ TwoL B f a m b w l wy := by
  have := h.2.2.1.big
  exact ⟨(hb.cell (p := ⟨B, k, none⟩) (by show B < _; omega)).trans h.1, (hb.cell (p := ⟨B + 1, k, none⟩) (by show B + 1 < _; omega)).trans h.2.1, h.2.2.later hb⟩
theorem twoL_set (h : wx.cell? ⟨B, k, none⟩ = some (.int .i64 F) ∧ wx.cell? ⟨B + 1, k, none⟩ = some (.int .i64 M) ∧ TwoL B f a m b w l wx) (u v : Value) (hg : B + 1 < g) (hl : ∀ p ∈ l, p.1 ≠ g) :
    ((wx.setCell ⟨g, 0, none⟩ u).setCell ⟨g, 1, none⟩ v).cell? ⟨B, k, none⟩ = some (.int .i64 F) ∧ ((wx.setCell ⟨g, 0, none⟩ u).setCell ⟨g, 1, none⟩ v).cell? ⟨B + 1, k, none⟩ = some (.int .i64 M) ∧ TwoL B f a m b w l ((wx.setCell ⟨g, 0, none⟩ u).setCell ⟨g, 1, none⟩ v) := by
  have hb := grown_trans (grown_set wx g 0 u) (grown_set _ g 1 v)
  exact ⟨hb.cell h.1 (fun e => by injection e with e; simp at e; omega), hb.cell h.2.1 (fun e => by injection e with e; simp at e; omega), h.2.2.grown hb hg hl⟩
end
theorem quiet_left {P : Program} {f : FuncId} {args : Array Value} {w : World} {n : Nat} {v : Value} (h : Calls P f args (w.drewN n) fun e w' => e = .returned v ∧ w.drewN n = w') : Calls P f args (w.drewN n) fun e w'' => e = .returned v ∧ ∃ m, w'' = w.drewN m :=
  h.mono fun _ _ ⟨he, hm⟩ => ⟨he, n, hm.symm⟩

set_option maxHeartbeats 3200000 in
theorem clockPlays_walk (f m : Int) (A : Option Addr) (len cap : Nat) (w : World) (hcell : ∀ j : Nat, j < len → ∃ g off z, A = some ⟨g, off, none⟩ ∧ g < w.heap.size ∧ w.cell? ⟨g, off + j, none⟩ = some (.int .i64 z) ∧ -9223372036854775808 ≤ z ∧ z ≤ 9223372036854775807) (h0 : -9223372036854775808 ≤ f) (h1 : f ≤ 9223372036854775807) (h2 : -9223372036854775808 ≤ m) (h3 : m ≤ 9223372036854775807) (hl : len ≤ 9223372036854775807) :
    Calls Try.prog 3 #[.int .i64 f, .int .i64 m, .slice A len cap] w fun e w' => e = .returned (.bool true) ∧ Below w.heap.size w w' := by
  have ha := aroundI_bd f 31 (by decide)
  have hr := aroundI_bd m 30 (by decide)
  replace hcell := Lib.hid hcell
  go_enter Try.func3, Try.ntmps3
  go_wp2_with fail
  go_at_call 7
  refine (around_any f 31 _ h0 h1 (by decide) (by decide)).mono ?_
  rintro e wz ⟨rfl, rfl⟩
  generalize aroundI f 31 = a at ha ⊢
  go_wp2_with fail
  go_at_call 7
  refine (around_any m 30 _ h2 h3 (by decide) (by decide)).mono ?_
  rintro e wz ⟨rfl, rfl⟩
  generalize aroundI m 30 = b at hr ⊢
  obtain ⟨a0, a1⟩ := ha
  obtain ⟨b0, b1⟩ := hr
  go_wp2_with fail
  have HT : Hid (Two w.heap.size f a m (1 + b) w ((w.alloc (.cells #[.int .i64 f, .int .i64 a] 3)).alloc (.cells #[.int .i64 m, .int .i64 (1 + b)] 3))) :=
    Lib.hid ⟨((Below.refl w.heap.size w).alloc (Nat.le_refl _) _).alloc (by simp) _, by rw [Below.heap_alloc _ _ _ (by simp)]; exact heap_alloc_new w _, by have := heap_alloc_new (w.alloc (.cells #[.int .i64 f, .int .i64 a] 3)) (.cells #[.int .i64 m, .int .i64 (1 + b)] 3); simpa using this⟩
  generalize hB : w.heap.size = B at HT ⊢
  generalize World.alloc _ _ = w1 at HT ⊢
  generalize hb' : 1 + b = b' at HT ⊢
  have hF : ∀ k : Nat, -9223372036854775808 ≤ (if k = 0 then f else a) ∧ (if k = 0 then f else a) ≤ 9223372036854775807 := fun k => by split <;> omega
  have hM : ∀ k : Nat, -9223372036854775808 ≤ (if k = 0 then m else b') ∧ (if k = 0 then m else b') ≤ 9223372036854775807 := fun k => by split <;> omega
  replace hB := Lib.hid hB
  replace hF := Lib.hid hF
  replace hM := Lib.hid hM
  clear hb'
  go_loopw [9] (fun i wr => ∃ k : Nat, k ≤ 2 ∧ i = .int .i64 (k : Int) ∧ Hid (Two B f a m b' w wr)) (fun i _ => 2 - (intOf i).toNat)
  case atStart => exact ⟨0, by omega, rfl, HT⟩
  case round =>
    obtain ⟨k, hk, rfl, HT⟩ := hrel
    by_cases hk2 : k < 2
    · have i0 : (0 : Int) ≤ (k : Int) := by omega
      have i1 : (k : Int) < 2 := by omega
      obtain ⟨cF, cM⟩ := HT.out.cells k hk2
      have bF := hF.out k
      have bM := hM.out k
      generalize (if k = 0 then f else a) = F at cF bF
      generalize (if k = 0 then m else b') = M at cM bM
      obtain ⟨f0, f1⟩ := bF
      obtain ⟨m0, m1⟩ := bM
      have hkeep : wr.cell? ⟨B, k, none⟩ = some (.int .i64 F) ∧ wr.cell? ⟨B + 1, k, none⟩ = some (.int .i64 M) ∧ TwoL B f a m b' w [] wr := ⟨cF, cM, HT.out, fun _ h => (List.not_mem_nil h).elim⟩
      by_cases hfit : fitB F M = false
      · go_wp2_with fail
        go_region_held3 (fun w' => w'.cell? ⟨B, k, none⟩ = some (.int .i64 F) ∧ w'.cell? ⟨B + 1, k, none⟩ = some (.int .i64 M) ∧ TwoL B f a m b' w [] w') (first | exact twoL_drew (by assumption) | exact twoL_call (by assumption) (by assumption) | assumption | (refine twoL_call ?_ ((Below.refl _ _).alloc (Nat.le_refl _) _); assumption) | (refine twoL_drew (twoL_call ?_ ((Below.refl _ _).alloc (Nat.le_refl _) _)); assumption) | exact twoL_set (by assumption) _ _ hbig (hne.out) | (refine twoL_call (twoL_call (twoL_drew ?_) (by assumption)) ((Below.refl _ _).alloc (Nat.le_refl _) _); assumption))
          (first | (go_at_call 8; refine (new_no F M _ hfit).mono ?_; rintro e w1 ⟨rfl, rfl⟩))
        rename_i hH
        replace hH := Lib.hid hH
        obtain ⟨cF, cM, HT⟩ := hH.out
        replace HT := Lib.hid HT
        clear hkeep
        have hkeep := hH.out
        have hbig := HT.out.1.big
        clear hH
        generalize wr.drew = w2 at cF cM HT hkeep hbig ⊢
        have hne : Hid (∀ p ∈ ([] : List (Nat × Int × Int)), p.1 ≠ w2.heap.size) := Lib.hid (fun _ h => (List.not_mem_nil h).elim)
        go_upto_region 7 with (fail)
        go_cut [12, 13] (fun s12 s13 wx => (∃ g, s12 = .pointer (some ⟨g, 0, none⟩)) ∧ s13 = .int .i64 1 ∧ Hid (Two B f a m b' w wx))
        case first =>
          go_region_held3 (fun w' => w'.cell? ⟨B, k, none⟩ = some (.int .i64 F) ∧ w'.cell? ⟨B + 1, k, none⟩ = some (.int .i64 M) ∧ TwoL B f a m b' w [] w') (first | exact twoL_drew (by assumption) | exact twoL_call (by assumption) (by assumption) | assumption | (refine twoL_call ?_ ((Below.refl _ _).alloc (Nat.le_refl _) _); assumption) | (refine twoL_drew (twoL_call ?_ ((Below.refl _ _).alloc (Nat.le_refl _) _)); assumption) | exact twoL_set (by assumption) _ _ hbig (hne.out) | (refine twoL_call (twoL_call (twoL_drew ?_) (by assumption)) ((Below.refl _ _).alloc (Nat.le_refl _) _); assumption))
            (first
              | (go_at_call 9; refine (refNew_no F M _ hfit).mono ?_; rintro e w3 ⟨rfl, b3⟩; try (have hz : w3.heap[w2.heap.size]? = some (.cells #[.int .i64 0, .int .i64 0] 29 (0, 0)) := (b3.block w2.heap.size (by simp)).trans (heap_alloc_new w2 _); have z0 := cell_at hz 0; have z1 := cell_at hz 1; have z2 := free_at hz 0; have z3 := free_at hz 1; simp at z0 z1)))
          all_goals
            rename_i hH
            replace hH := Lib.hid hH.2.2
            go_wp2_with fail
            go_meet
            exact ⟨⟨_, rfl⟩, rfl, Lib.hid hH.out.1⟩
        case rest =>
          clear HT cF cM hkeep hne hbig
          obtain ⟨⟨g, rfl⟩, rfl, HT⟩ := hcut
          go_wp2_with fail
          refine ⟨⟨k + 1, by omega, by go_num, HT⟩, ?_⟩
          simp [intOf]; omega
      · replace hfit : fitB F M = true := by cases h : fitB F M; exact absurd h hfit; rfl
        go_wp2_with fail
        go_region_held3 (fun w' => w'.cell? ⟨B, k, none⟩ = some (.int .i64 F) ∧ w'.cell? ⟨B + 1, k, none⟩ = some (.int .i64 M) ∧ TwoL B f a m b' w [] w') (first | exact twoL_drew (by assumption) | exact twoL_call (by assumption) (by assumption) | assumption | (refine twoL_call ?_ ((Below.refl _ _).alloc (Nat.le_refl _) _); assumption) | (refine twoL_drew (twoL_call ?_ ((Below.refl _ _).alloc (Nat.le_refl _) _)); assumption) | exact twoL_set (by assumption) _ _ hbig (hne.out) | (refine twoL_call (twoL_call (twoL_drew ?_) (by assumption)) ((Below.refl _ _).alloc (Nat.le_refl _) _); assumption))
          (first | (go_at_call 8; refine (new_yes F M _ hfit).mono ?_; rintro e w2 ⟨rfl, hC, b2⟩))
        rename_i hH
        replace hH := Lib.hid hH
        have hgc : B + 1 < wr.heap.size := hkeep.2.2.1.big
        replace hC : Cnt w2 wr.heap.size 48 F M := hC
        have hlt := hC.lt
        clear hkeep cF cM HT b2
        obtain ⟨cF, cM, HT⟩ := hH.out
        have hT := HT.1
        clear HT hH
        generalize wr.heap.size = gc at hgc hC hlt ⊢
        have HT : Hid (TwoL B f a m b' w [(gc, F, M)] w2) := Lib.hid ⟨hT, fun p hp => by rw [List.mem_singleton.1 hp]; exact ⟨hgc, hC⟩⟩
        have hkeep := And.intro cF (And.intro cM HT.out)
        have hbig := HT.out.1.big
        clear hT hC
        have hne : Hid (∀ p ∈ [(gc, F, M)], p.1 ≠ w2.heap.size) := Lib.hid (fun p hp => by rw [List.mem_singleton.1 hp]; exact Nat.ne_of_lt hlt)
        go_upto_region 7 with (fail)
        go_cut [12, 13] (fun s12 s13 wx => (∃ g, s12 = .pointer (some ⟨g, 0, none⟩) ∧ gc < g ∧ Hid (Cnt wx g 29 F M)) ∧ s13 = .int .i64 0 ∧ Hid (TwoL B f a m b' w [(gc, F, M)] wx))
        case first =>
          go_region_held3 (fun w' => w'.cell? ⟨B, k, none⟩ = some (.int .i64 F) ∧ w'.cell? ⟨B + 1, k, none⟩ = some (.int .i64 M) ∧ TwoL B f a m b' w [(gc, F, M)] w') (first | exact twoL_drew (by assumption) | exact twoL_call (by assumption) (by assumption) | assumption | (refine twoL_call ?_ ((Below.refl _ _).alloc (Nat.le_refl _) _); assumption) | (refine twoL_drew (twoL_call ?_ ((Below.refl _ _).alloc (Nat.le_refl _) _)); assumption) | exact twoL_set (by assumption) _ _ hbig (hne.out) | (refine twoL_call (twoL_call (twoL_drew ?_) (by assumption)) ((Below.refl _ _).alloc (Nat.le_refl _) _); assumption))
            (first
              | (go_at_call 9; refine (refNew_yes F M _ hfit).mono ?_; rintro e w3 ⟨rfl, b3⟩; try (have hz : w3.heap[w2.heap.size]? = some (.cells #[.int .i64 0, .int .i64 0] 29 (0, 0)) := (b3.block w2.heap.size (by simp)).trans (heap_alloc_new w2 _); have z0 := cell_at hz 0; have z1 := cell_at hz 1; have z2 := free_at hz 0; have z3 := free_at hz 1; simp at z0 z1)))
          all_goals
            rename_i hH
            replace hH := Lib.hid hH.2.2
            go_wp2_with fail
            go_meet
          · exact ⟨⟨_, rfl, Nat.lt_of_lt_of_le hlt b3.size, Lib.hid (heap_alloc_new _ _)⟩, rfl, hH⟩
          · exact ⟨⟨_, rfl, hlt, Lib.hid (heap_set (heap_set hz 0 _) 1 _)⟩, rfl, hH⟩
        case rest =>
          clear HT cF cM hkeep hne hbig hlt
          obtain ⟨⟨g, rfl, hgg, HR⟩, rfl, HT⟩ := hcut
          have HC := Lib.hid (HT.out.2 _ (List.mem_singleton.2 rfl)).2
          have HF := Lib.hid (fitB_fit.1 hfit)
          replace HT := Lib.hid HT.out.1
          go_wp2_with fail
          clear hfit f0 f1 m0 m1 i0 i1
          go_loopw [14] (fun kk wq => ∃ (j : Nat) (n : Int), j ≤ 12 ∧ j ≤ len ∧ kk = .int .i64 (j : Int) ∧ Hid (Fit n M) ∧ Hid (Cnt wq gc 48 n M) ∧ Hid (Cnt wq g 29 n M) ∧ Hid (Two B f a m b' w wq)) (fun kk _ => 12 - (intOf kk).toNat)
          case atStart => exact ⟨0, F, by omega, by omega, rfl, HF, HC, HR, HT⟩
          case round =>
            clear HT HC HR HF
            obtain ⟨j, n, hj, hjl, rfl, HF, HC, HR, HT⟩ := hrel
            by_cases hin : j < len ∧ j < 12
            · obtain ⟨hj1, hj2⟩ := hin
              obtain ⟨ga, off, z, rfl, hga, hc, z0, z1⟩ := hcell.out j hj1
              rw [hB.out] at hga
              have HA : Hid (∀ wx, Two B f a m b' w wx → wx.cell? ⟨ga, off + j, none⟩ = some (.int .i64 z)) := Lib.hid (fun wx h => (h.1.cell (p := ⟨ga, off + j, none⟩) hga).trans hc)
              clear hc
              have j0 : (0 : Int) ≤ (j : Int) := by omega
              have j1 : (j : Int) < (len : Int) := by omega
              have j2 : (j : Int) < 12 := by omega
              obtain ⟨X, E, N', HX, HE, HN⟩ : ∃ X E N' : Int, Hid (addX n M z = X) ∧ Hid (addE n M z = E) ∧ Hid (addN n M z = N') := ⟨_, _, _, Lib.hid rfl, Lib.hid rfl, Lib.hid rfl⟩
              have HF2 : Hid (Fit N' M) := Lib.hid (HN.out ▸ HF.out.add z)
              have c1 := HA.out _ HT.out
              go_wp2_with fail
              go_at_call 10
              refine (told (add_any gc n M z _ HC.out HF.out z0 z1) X E N' HX.out HE.out HN.out).mono ?_
              rintro e wa ⟨rfl, hN, gN⟩
              replace HT := Lib.hid (HT.out.grown gN (by omega))
              replace HR := Lib.hid (HR.out.grown gN (by omega))
              replace HC := Lib.hid hN
              clear hN gN c1
              have c1 := HA.out _ HT.out
              go_wp2_with fail
              go_at_call 11
              refine (told (refAdd_any g n M z _ HR.out HF.out z0 z1) X E N' HX.out HE.out HN.out).mono ?_
              rintro e wb ⟨rfl, hN, gN⟩
              replace HT := Lib.hid (HT.out.grown gN (by omega))
              replace HC := Lib.hid (HC.out.grown gN (by omega))
              replace HR := Lib.hid hN
              clear hN gN c1
              have c1 := HA.out _ HT.out
              by_cases hz : z = -1
              · have q3 : (z == -1) = true := by rw [beq_iff_eq]; exact hz
                obtain ⟨X, E, N2, HX, HE, HN⟩ : ∃ X E N2 : Int, Hid (addX N' M 1 = X) ∧ Hid (addE N' M 1 = E) ∧ Hid (addN N' M 1 = N2) := ⟨_, _, _, Lib.hid rfl, Lib.hid rfl, Lib.hid rfl⟩
                have HF3 : Hid (Fit N2 M) := Lib.hid (HN.out ▸ HF2.out.add 1)
                go_wp2_with fail
                go_at_call 12
                refine (told (next_any gc N' M _ HC.out HF2.out) X E N2 HX.out HE.out HN.out).mono ?_
                rintro e wc2 ⟨rfl, hN, gN⟩
                replace HT := Lib.hid (HT.out.grown gN (by omega))
                replace HR := Lib.hid (HR.out.grown gN (by omega))
                replace HC := Lib.hid hN
                clear hN gN
                clear c1
                go_wp2_with fail
                go_at_call 11
                refine (told (refAdd_any g N' M 1 _ HR.out HF2.out (by decide) (by decide)) X E N2 HX.out HE.out HN.out).mono ?_
                rintro e wd ⟨rfl, hN, gN⟩
                replace HT := Lib.hid (HT.out.grown gN (by omega))
                replace HC := Lib.hid (HC.out.grown gN (by omega))
                replace HR := Lib.hid hN
                clear hN gN
                have r0 : wd.cell? ⟨g, 0, none⟩ = some (.int .i64 N2) := cell_at HR.out 0
                have r1 : wd.cell? ⟨g, 1, none⟩ = some (.int .i64 M) := cell_at HR.out 1
                go_wp2_with fail
                go_quiet (first
                  | (go_at_call 13; exact quiet_left (at_any gc N2 M _ (HC.out.drewN _)))
                  | (go_at_call 14; exact quiet_left (most_any gc N2 M _ (HC.out.drewN _))))
                go_wp2_with fail
                refine ⟨⟨j + 1, N2, by omega, by omega, by go_num, HF3, Lib.hid (HC.out.drewN _), Lib.hid (HR.out.drewN _), Lib.hid (HT.out.drewN _)⟩, ?_⟩
                simp [intOf]; omega
              · have q3 : (z == -1) = false := by rw [beq_eq_false_iff_ne]; exact hz
                have r0 : wb.cell? ⟨g, 0, none⟩ = some (.int .i64 N') := cell_at HR.out 0
                have r1 : wb.cell? ⟨g, 1, none⟩ = some (.int .i64 M) := cell_at HR.out 1
                go_wp2_with fail
                go_quiet (first
                  | (go_at_call 13; exact quiet_left (at_any gc N' M _ (HC.out.drewN _)))
                  | (go_at_call 14; exact quiet_left (most_any gc N' M _ (HC.out.drewN _))))
                go_wp2_with fail
                refine ⟨⟨j + 1, N', by omega, by omega, by go_num, HF2, Lib.hid (HC.out.drewN _), Lib.hid (HR.out.drewN _), Lib.hid (HT.out.drewN _)⟩, ?_⟩
                simp [intOf]; omega
            · have hend : decide ((j : Int) < (len : Int)) = false ∨ (decide ((j : Int) < (len : Int)) = true ∧ decide ((j : Int) < 12) = false) := by simp; omega
              rcases hend with q1 | ⟨q1, q2⟩
              · go_wp2_with fail
                all_goals (refine ⟨⟨k + 1, by omega, by go_num, HT⟩, ?_⟩; simp [intOf]; omega)
              · go_wp2_with fail
                all_goals (refine ⟨⟨k + 1, by omega, by go_num, HT⟩, ?_⟩; simp [intOf]; omega)
    · have q1 : decide ((k : Int) < 2) = false := decide_eq_false (by omega)
      go_wp2_with fail
      go_at_call 15
      refine (lives_any _).mono ?_
      rintro e w7 ⟨rfl, b7⟩
      replace HT := Lib.hid (HT.out.later b7)
      clear b7
      go_wp2_with fail
      go_ret
      exact ⟨rfl, by rw [hB.out]; exact HT.out.1⟩

/-- A row of numbers that was handed in. -/
def RowI (w : World) (a : Option Addr) (len cap : Nat) (zs : List Int) : Prop :=
  (a = none ∧ len = 0 ∧ cap = 0 ∧ zs = []) ∨
  ∃ x, a = some x ∧ len ≤ cap ∧ cap ≤ maxLen ∧ zs.length = cap ∧ (∀ i, i < zs.length → w.cell? (x.add i) = some (.int .i64 (zs.getD i 0))) ∧ ∀ n ∈ zs, (Lit.int .i64 n).wf = true
theorem RowI.cells {w : World} {a : Option Addr} {len cap : Nat} {zs : List Int} (h : RowI w a len cap zs) : ∀ j : Nat, j < len → ∃ g off z, a = some ⟨g, off, none⟩ ∧ g < w.heap.size ∧ w.cell? ⟨g, off + j, none⟩ = some (.int .i64 z) ∧ -9223372036854775808 ≤ z ∧ z ≤ 9223372036854775807 := by
  rcases h with ⟨_, rfl, _⟩ | ⟨x, rfl, h1, h2, h3, h4, h5⟩
  · intro j hj; omega
  · intro j hj
    have hz : j < zs.length := by omega
    have hc := h4 j hz
    have hc0 := h4 0 (by omega)
    rw [Addr.add_zero'] at hc0
    obtain ⟨_, _, _, _, hs⟩ := World.shape?_of_cell? hc0
    obtain ⟨g, off, sp⟩ := x
    obtain rfl : sp = none := hs
    rw [Addr.add_lit] at hc
    have hb := bounds_i64 (h5 (zs.getD j 0) (by rw [List.getD_eq_getElem?_getD, List.getElem?_eq_getElem hz]; exact List.getElem_mem _))
    exact ⟨g, off, zs.getD j 0, rfl, World.block_lt_of_cell? w _ hc, hc, hb.1, hb.2⟩
theorem RowI.len {w : World} {a : Option Addr} {len cap : Nat} {zs : List Int} (h : RowI w a len cap zs) : len ≤ 9223372036854775807 := by
  rcases h with ⟨_, rfl, _⟩ | ⟨x, rfl, h1, h2, _⟩
  · omega
  · unfold maxLen at h2; omega
end Go.Proofs.Ytnehcmlaoginiaa
