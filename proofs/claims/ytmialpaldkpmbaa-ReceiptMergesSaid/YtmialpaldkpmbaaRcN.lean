/-
  The law's of, like, lives.
-/
import Derived.Test.YtmialpaldkpmbaaRcL
namespace Go.Proofs.Ytmialpaldkpmbaa
set_option maxRecDepth 20000
open Go.RowKit Go.Maps Go.ChangeMaps
set_option linter.unusedVariables false
set_option linter.unusedSimpArgs false

set_option maxHeartbeats 800000 in
theorem of_any (k : Rk) (w : World) : Calls Try.prog 19 #[k.val] w fun e w' => e = .returned k.val ∧ Gr w w' := by
  have HT := Lib.hid (TwoB.start w (.cells #[.string k.room, .string k.user, .string k.thread, .bool k.priv] 34 (0, 0)) (.cells #[.string ⟨#[]⟩, .string ⟨#[]⟩, .string ⟨#[]⟩, .bool false] 43 (0, 0)))
  unfold Rk.val
  go_enter Try.func19, Try.ntmps19
  go_upto_region 1 with (fail)
  generalize World.alloc _ _ = w1 at HT ⊢
  generalize w.heap.size + 1 = B2 at HT ⊢
  generalize hB1 : w.heap.size = B1 at HT ⊢
  have a0 : w1.cell? ⟨B1, 0, none⟩ = some (.string k.room) := cell_at HT.out.bo.box 0
  have a1 : w1.cell? ⟨B1, 1, none⟩ = some (.string k.user) := cell_at HT.out.bo.box 1
  have a2 : w1.cell? ⟨B1, 2, none⟩ = some (.string k.thread) := cell_at HT.out.bo.box 2
  have a3 : w1.cell? ⟨B1, 3, none⟩ = some (.bool k.priv) := cell_at HT.out.bo.box 3
  have r0 : w1.cell? ⟨B2, 0, none⟩ = some (.string ⟨#[]⟩) := cell_at HT.out.res 0
  have z0 : w1.frozen? ⟨B2, 0, none⟩ = false := free_at HT.out.res 0
  have r1 : w1.cell? ⟨B2, 1, none⟩ = some (.string ⟨#[]⟩) := cell_at HT.out.res 1
  have z1 : w1.frozen? ⟨B2, 1, none⟩ = false := free_at HT.out.res 1
  have r2 : w1.cell? ⟨B2, 2, none⟩ = some (.string ⟨#[]⟩) := cell_at HT.out.res 2
  have z2 : w1.frozen? ⟨B2, 2, none⟩ = false := free_at HT.out.res 2
  have r3 : w1.cell? ⟨B2, 3, none⟩ = some (.bool false) := cell_at HT.out.res 3
  have z3 : w1.frozen? ⟨B2, 3, none⟩ = false := free_at HT.out.res 3
  have HAN := stored HT.out.res [.string k.room, .string k.user, .string k.thread, .bool k.priv] rfl _ rfl
  have HG : Gr w ((((w1.setCell ⟨B2, 0, none⟩ (.string k.room)).setCell ⟨B2, 1, none⟩ (.string k.user)).setCell ⟨B2, 2, none⟩ (.string k.thread)).setCell ⟨B2, 3, none⟩ (.bool k.priv)) := (((HT.out.gr.setCell HT.out.lo2 0 _).setCell HT.out.lo2 1 _).setCell HT.out.lo2 2 _).setCell HT.out.lo2 3 _
  simp only [World.setCells] at HAN
  go_wp2_with fail
  generalize World.setCell _ _ _ = w9 at HAN HG ⊢
  have k0 := cell_at HAN.1 0
  have k1 := cell_at HAN.1 1
  have k2 := cell_at HAN.1 2
  have k3 := cell_at HAN.1 3
  simp only [List.getElem?_toArray, List.getElem?_cons_succ, List.getElem?_cons_zero] at k0 k1 k2 k3
  refine bodyPost_ret (v := .agg #[.string k.room, .string k.user, .string k.thread, .bool k.priv]) ?_ rfl ⟨rfl, HG⟩
  simp [results, Try.results19, go_sem, k0, k1, k2, k3]

set_option maxHeartbeats 1600000 in
theorem like_any (v u : Value) (xs ys : List Mk) (w : World) (h : LR.Slice w v xs) (hu : LM.Slice w u ys) :
    Calls Try.prog 10 #[v, u] w fun e w' => e = .returned (.bool (decide (xs = ys))) ∧ Gr w w' := by
  obtain ⟨A, cap, rfl, h1, h2, -⟩ := id h
  obtain ⟨A', cap', rfl, h1', h2', -⟩ := id hu
  unfold maxLen at h2 h2'
  have HX := Lib.hid h
  have HY := Lib.hid hu
  clear h hu
  by_cases hl : xs.length = ys.length
  · have q0 : ((xs.length : Int) != (ys.length : Int)) = false := by rw [hl, bne_self_eq_false]
    have HL := Lib.hid hl
    clear hl
    go_enter Try.func10, Try.ntmps10
    go_wp2_with fail
    go_loopw [5] (fun i wr => ∃ a : Nat, i = .int .i64 (a : Int) ∧ a ≤ xs.length ∧ Hid (Gr w wr) ∧ Hid (∀ (j : Nat) x y, j < a → xs[j]? = some x → ys[j]? = some y → x = y)) (fun i _ => xs.length - (intOf i).toNat)
    case atStart => exact ⟨0, rfl, Nat.zero_le _, Lib.hid (Gr.refl w), Lib.hid (fun j x y hj => by omega)⟩
    case round =>
      obtain ⟨a, rfl, ha, HA, HN⟩ := hrel
      by_cases hax : a < xs.length
      · have q1 : decide ((a : Int) < (xs.length : Int)) = true := decide_eq_true (by omega)
        have hay : a < ys.length := HL.out ▸ hax
        have hx : xs[a]? = some xs[a] := List.getElem?_eq_getElem hax
        have hy : ys[a]? = some ys[a] := List.getElem?_eq_getElem hay
        generalize xs[a] = x at hx
        generalize ys[a] = y at hy
        have HXA := Lib.hid hx
        have HYA := Lib.hid hy
        obtain ⟨bo, oo, rfl, hbo, hco⟩ := (HX.out.below HA.out.below).at hx
        obtain ⟨bp, op, rfl, hbp, hcp⟩ := (HY.out.below HA.out.below).at hy
        have hix := index_any (P := Try.prog) knR (by decide) (b := bo) (off := oo) (cap := cap) hax
        have hiy := index_any (P := Try.prog) knM (by decide) (b := bp) (off := op) (cap := cap') hay
        simp only [LR, LM] at hix hiy hco hcp
        obtain ⟨a0, a1, a2, a3, a4, a5⟩ := range6 hco
        obtain ⟨b0, b1, b2, b3, b4, b5⟩ := range6 hcp
        clear hx hy hco hcp
        have hqk := eqlK x.k y.k
        have hqp := eqlP x.po y.po
        by_cases hxy : x = y
        · have HN2 : Hid (∀ (j : Nat) x y, j < a + 1 → xs[j]? = some x → ys[j]? = some y → x = y) := Lib.hid (fun j x' y' hj hx hy => by
            by_cases hja : j = a
            · subst hja
              rw [HXA.out] at hx
              rw [HYA.out] at hy
              injection hx with hx
              injection hy with hy
              rw [← hx, ← hy, hxy]
            · exact HN.out j x' y' (by omega) hx hy)
          subst hxy
          rw [decide_eq_true rfl] at hqk hqp
          have q3 : (x.k.user.toList != x.k.user.toList) = false := bne_self_eq_false _
          have q4 : (x.k.user.toList == x.k.user.toList) = true := beq_self_eq_true _
          go_upto_region 6 with (fail)
          go_quiet (fail)
          clear hqk hqp a0 a1 a2 a3 a4 a5 b0 b1 b2 b3 b4 b5 hix hiy HXA HYA
          have HA2 : ∀ d, Hid (Gr w (wr.drewN d)) := fun d => Lib.hid (HA.out.drewN d)
          go_wp2_with fail
          refine ⟨⟨a + 1, by go_num, by omega, HA2 _, HN2⟩, ?_⟩
          simp [intOf]; omega
        · have HF : Hid (decide (xs = ys) = false) := Lib.hid (decide_eq_false (fun e => hxy (by
            have h1 := HXA.out
            rw [e, HYA.out] at h1
            injection h1 with h1
            exact h1.symm)))
          by_cases hk : x.k = y.k
          · have hp : ¬ x.po = y.po := fun hp => hxy (by cases x; cases y; simp_all)
            rw [decide_eq_true hk] at hqk
            rw [decide_eq_false hp] at hqp
            clear hxy hk hp
            go_upto_region 6 with (fail)
            go_quiet (fail)
            go_wp2_with fail
            go_ret
            exact ⟨by rw [HF.out]; rfl, HA.out.drewN _⟩
          · rw [decide_eq_false hk] at hqk
            clear hxy hk hqp
            go_upto_region 6 with (fail)
            go_quiet (fail)
            go_wp2_with fail
            go_ret
            exact ⟨by rw [HF.out]; rfl, HA.out.drewN _⟩
      · have q1 : decide ((a : Int) < (xs.length : Int)) = false := decide_eq_false (by omega)
        have HF : Hid (decide (xs = ys) = true) := Lib.hid (decide_eq_true (List.ext_getElem? (fun j => by
          by_cases hj : j < xs.length
          · rw [List.getElem?_eq_getElem hj, List.getElem?_eq_getElem (HL.out ▸ hj)]
            rw [HN.out j xs[j] (ys[j]'(HL.out ▸ hj)) (by omega) (List.getElem?_eq_getElem hj) (List.getElem?_eq_getElem (HL.out ▸ hj))]
          · rw [List.getElem?_eq_none (by omega), List.getElem?_eq_none (by have := HL.out; omega)])))
        go_wp2_with fail
        go_ret
        exact ⟨by rw [HF.out]; rfl, HA.out⟩
  · have q0 : ((xs.length : Int) != (ys.length : Int)) = true := by
      rw [bne_iff_ne]
      omega
    have HF : Hid (decide (xs = ys) = false) := Lib.hid (decide_eq_false (fun e => hl (by rw [e])))
    clear hl
    go_enter Try.func10, Try.ntmps10
    go_wp2_with fail
    go_ret
    exact ⟨by rw [HF.out]; rfl, Gr.refl w⟩
def exKey : Rk := ⟨⟨#[33, 114, 58, 115]⟩, ⟨#[64, 97, 58, 115]⟩, ⟨#[]⟩, false⟩
def exB : Po := ⟨2, ⟨#[36, 98]⟩⟩
def exA : Po := ⟨1, ⟨#[36, 97]⟩⟩
def exC : Po := ⟨2, ⟨#[36, 99]⟩⟩
theorem ex_puts : onM [] ⟨exKey, exB⟩ = true ∧ onM (putM [] ⟨exKey, exB⟩) ⟨exKey, exA⟩ = false ∧ onM (putM (putM [] ⟨exKey, exB⟩) ⟨exKey, exA⟩) ⟨exKey, exC⟩ = true := by decide +kernel
theorem ex_ok : exKey.ok ∧ (⟨exKey, exB⟩ : Mk).ok ∧ (⟨exKey, exA⟩ : Mk).ok ∧ (⟨exKey, exC⟩ : Mk).ok := by
  refine ⟨⟨?_, ?_, ?_⟩, ⟨⟨?_, ?_, ?_⟩, ?_⟩, ⟨⟨?_, ?_, ?_⟩, ?_⟩, ⟨?_, ?_, ?_⟩, ?_⟩ <;> decide +kernel

set_option maxHeartbeats 1600000 in
theorem lives_any (w : World) : Calls Try.prog 15 #[] w fun e w' => e = .returned (.bool true) ∧ Below w.heap.size w w' := by
  have HX := Lib.hid ex_puts
  have HO := Lib.hid ex_ok
  go_enter Try.func15, Try.ntmps15
  go_wp2_with fail
  go_at_call 21
  refine (rcNew_any w).mono ?_
  rintro e w1 ⟨r, rfl, hl, hc, hb, ho⟩
  have HC := Lib.hid hc
  have HB := Lib.hid hb
  have HL := Lib.hid hl
  have HN := Lib.hid ho
  clear hc hb hl ho
  go_upto_region 5 with (fail)
  have HK := Lib.hid (heap_alloc_new w1 (.cells #[.string ⟨#[33, 114, 58, 115]⟩, .string ⟨#[64, 97, 58, 115]⟩, .string ⟨#[]⟩, .bool false] 43))
  have hbn := below_new w1 (.cells #[.string ⟨#[33, 114, 58, 115]⟩, .string ⟨#[64, 97, 58, 115]⟩, .string ⟨#[]⟩, .bool false] 43)
  replace HC := Lib.hid (HC.out.below hbn)
  replace HB := Lib.hid (HB.out.trans (hbn.mono HB.out.size))
  clear hbn
  generalize World.alloc _ _ = w2 at HK HC HB ⊢
  have HKN : Hid (w1.heap.size ≠ r.g ∧ w1.heap.size ≠ r.mb) := Lib.hid (by
    constructor
    · intro e
      have h1 := HC.out.hd
      have h2 := HK.out
      rw [e, h1] at h2
      injection h2 with h2
      injection h2 with _ h2
      exact absurd h2 (by decide)
    · intro e
      obtain ⟨xs, clock, h1, _⟩ := HC.out.map
      have h2 := HK.out
      rw [e, h1] at h2
      cases h2)
  generalize w1.heap.size = B2 at HK HKN ⊢
  have a0 : w2.cell? ⟨B2, 0, none⟩ = some (.string ⟨#[33, 114, 58, 115]⟩) := cell_at HK.out 0
  have a1 : w2.cell? ⟨B2, 1, none⟩ = some (.string ⟨#[64, 97, 58, 115]⟩) := cell_at HK.out 1
  have a2 : w2.cell? ⟨B2, 2, none⟩ = some (.string ⟨#[]⟩) := cell_at HK.out 2
  have a3 : w2.cell? ⟨B2, 3, none⟩ = some (.bool false) := cell_at HK.out 3
  have HP := Lib.hid (rcPut_any HC.out (by rw [HL.out]; exact Nat.zero_le _) exKey exB HO.out.2.1)
  rw [HL.out, HX.out.1] at HP
  simp only [exKey, exB, Rk.val, Po.val] at HP
  go_wp2_with fail
  go_at_call 22
  refine HP.out.mono ?_
  rintro e w3 ⟨rfl, hp⟩
  obtain ⟨r1, e1, e2, e3, hc, ht⟩ := hp
  replace HK := Lib.hid ((ht.block B2 (smem_lt HK.out) (fun ho => by rcases ho with ho | ho; exact HKN.out.1 ho; exact HKN.out.2 ho)).trans HK.out)
  replace HC := Lib.hid hc
  replace HB := Lib.hid (HB.out.trans (ht.below (B := w.heap.size) (fun k hk => by exact HN.out k hk) HB.out.size))
  have HG : Hid (r1.g = r.g ∧ r1.mb = r.mb) := Lib.hid ⟨e1, e2⟩
  replace HL := Lib.hid (show r1.l = putM ([]) ⟨exKey, exB⟩ by rw [e3, HL.out]; rfl)
  clear e1 e2 e3 hc ht HP a0 a1 a2 a3
  have a0 : w3.cell? ⟨B2, 0, none⟩ = some (.string ⟨#[33, 114, 58, 115]⟩) := cell_at HK.out 0
  have a1 : w3.cell? ⟨B2, 1, none⟩ = some (.string ⟨#[64, 97, 58, 115]⟩) := cell_at HK.out 1
  have a2 : w3.cell? ⟨B2, 2, none⟩ = some (.string ⟨#[]⟩) := cell_at HK.out 2
  have a3 : w3.cell? ⟨B2, 3, none⟩ = some (.bool false) := cell_at HK.out 3
  have HP := Lib.hid (rcPut_any HC.out (by rw [HL.out]; exact of_decide_eq_true (by decide +kernel)) exKey exA HO.out.2.2.1)
  rw [HL.out, HX.out.2.1, HG.out.1] at HP
  simp only [exKey, exA, Rk.val, Po.val] at HP
  go_wp2_with fail
  go_at_call 22
  refine HP.out.mono ?_
  rintro e w4 ⟨rfl, hp⟩
  obtain ⟨r2, e1, e2, e3, hc, ht⟩ := hp
  replace HK := Lib.hid ((ht.block B2 (smem_lt HK.out) (fun ho => by rcases ho with ho | ho; exact HKN.out.1 (ho.trans HG.out.1); exact HKN.out.2 (ho.trans HG.out.2))).trans HK.out)
  replace HC := Lib.hid hc
  replace HB := Lib.hid (HB.out.trans (ht.below (B := w.heap.size) (fun k hk => by exact HN.out k (by unfold RI.own at *; rw [HG.out.1, HG.out.2] at hk; exact hk)) HB.out.size))
  replace HG : Hid (r2.g = r.g ∧ r2.mb = r.mb) := Lib.hid ⟨e1.trans HG.out.1, e2.trans HG.out.2⟩
  replace HL := Lib.hid (show r2.l = putM (putM [] ⟨exKey, exB⟩) ⟨exKey, exA⟩ by rw [e3, HL.out]; rfl)
  clear e1 e2 e3 hc ht HP a0 a1 a2 a3
  have a0 : w4.cell? ⟨B2, 0, none⟩ = some (.string ⟨#[33, 114, 58, 115]⟩) := cell_at HK.out 0
  have a1 : w4.cell? ⟨B2, 1, none⟩ = some (.string ⟨#[64, 97, 58, 115]⟩) := cell_at HK.out 1
  have a2 : w4.cell? ⟨B2, 2, none⟩ = some (.string ⟨#[]⟩) := cell_at HK.out 2
  have a3 : w4.cell? ⟨B2, 3, none⟩ = some (.bool false) := cell_at HK.out 3
  have HP := Lib.hid (rcPut_any HC.out (by rw [HL.out]; exact of_decide_eq_true (by decide +kernel)) exKey exC HO.out.2.2.2)
  rw [HL.out, HX.out.2.2, HG.out.1] at HP
  simp only [exKey, exC, Rk.val, Po.val] at HP
  go_wp2_with fail
  go_at_call 22
  refine HP.out.mono ?_
  rintro e w5 ⟨rfl, hp⟩
  obtain ⟨r3, e1, e2, e3, hc, ht⟩ := hp
  replace HK := Lib.hid ((ht.block B2 (smem_lt HK.out) (fun ho => by rcases ho with ho | ho; exact HKN.out.1 (ho.trans HG.out.1); exact HKN.out.2 (ho.trans HG.out.2))).trans HK.out)
  replace HC := Lib.hid hc
  replace HB := Lib.hid (HB.out.trans (ht.below (B := w.heap.size) (fun k hk => by exact HN.out k (by unfold RI.own at *; rw [HG.out.1, HG.out.2] at hk; exact hk)) HB.out.size))
  replace HG : Hid (r3.g = r.g ∧ r3.mb = r.mb) := Lib.hid ⟨e1.trans HG.out.1, e2.trans HG.out.2⟩
  replace HL := Lib.hid (show r3.l = putM (putM (putM [] ⟨exKey, exB⟩) ⟨exKey, exA⟩) ⟨exKey, exC⟩ by rw [e3, HL.out]; rfl)
  clear e1 e2 e3 hc ht HP a0 a1 a2 a3
  go_wp2_with fail
  go_ret
  exact ⟨rfl, HB.out⟩
end Go.Proofs.Ytmialpaldkpmbaa
