/-
  What the statements stand on, part ZA8.
-/
import Derived.Test.YtnnapkakbdpkaaaGreatZA7
set_option linter.unusedVariables false
set_option linter.unusedSimpArgs false
namespace Go.Proofs.YtnnapkakbdpkaaaGreat
set_option maxRecDepth 20000
open Go.RowKit
def LI2 : Lies Int := ⟨3, 1, fun x => [.int .i64 x], fun _ => rfl, fun x u hu => by
 simp only [List.mem_cons, List.not_mem_nil, or_false] at hu
 subst hu; rfl⟩
theorem knI2 : Kn Tryz.prog LI2 78 (.int .i64 0) 8 := ⟨Tryz.underlying78, by kernel_rfl, rfl, by decide⟩
def orI (a b : Int) : Int := if a = 0 then b else a
set_option maxHeartbeats 800000 in
theorem or_any (a b : Int) (B : Nat) (w : World) (c0 : w.cell? ⟨B, 0, none⟩ = some (.int .i64 a)) (c1 : w.cell? ⟨B, 1, none⟩ = some (.int .i64 b)) :
  Calls Tryz.prog 113 #[.slice (some ⟨B, 0, none⟩) 2 2] w fun e w' => e = .returned (.int .i64 (orI a b)) ∧ w' = w := by
 have hi0 : ∀ W : World, (Instr.indexAt 78 (.slice (some ⟨B, 0, none⟩) 2 2) (.int .i64 (0 : Nat))).run Tryz.prog W = .ok (.pointer (some ⟨B, 0, none⟩)) W := by
  have := index_any (P := Tryz.prog) knI2 (by decide) (b := B) (off := 0) (cap := 2) (len := 2) (i := 0) (by decide)
  simpa [LI2] using this
 have hi1 : ∀ W : World, (Instr.indexAt 78 (.slice (some ⟨B, 0, none⟩) 2 2) (.int .i64 (1 : Nat))).run Tryz.prog W = .ok (.pointer (some ⟨B, 1, none⟩)) W := by
  have := index_any (P := Tryz.prog) knI2 (by decide) (b := B) (off := 0) (cap := 2) (len := 2) (i := 1) (by decide)
  simpa [LI2] using this
 by_cases ha : a = 0
 ·subst ha
  have HR : Hid (orI 0 b = b) := Lib.hid (if_pos rfl)
  go_enter Tryz.func113, Tryz.ntmps113
  go_wp2_with fail
  go_loopw [8] (fun i wr => wr = w ∧ ∃ (k : Nat), i = .int .i64 (k : Int) ∧ (k = 0 ∨ k = 1 ∨ (k = 2 ∧ b = 0))) (fun i _ => 2 - (intOf i).toNat)
  case atStart => exact ⟨rfl, 0, rfl, .inl rfl⟩
  case round =>
   obtain ⟨rfl, k, rfl, hk⟩ := hrel
   rcases hk with rfl | rfl | ⟨rfl, rfl⟩
   ·go_wp2_with fail
    exact ⟨⟨trivial, 1, rfl, .inr (.inl rfl)⟩, by simp [intOf]⟩
   ·by_cases hb : b = 0
    ·subst hb
     go_wp2_with fail
     exact ⟨⟨trivial, 2, rfl, .inr (.inr ⟨rfl, trivial⟩)⟩, by simp [intOf]⟩
    ·have q : (b == 0) = false := by rw [beq_eq_false_iff_ne]; exact hb
     go_wp2_with fail
     go_ret
     exact ⟨by rw [HR.out]; rfl, rfl⟩
   ·go_wp2_with fail
    go_ret
    exact ⟨by rw [HR.out]; rfl, rfl⟩
 ·have HR : Hid (orI a b = a) := Lib.hid (if_neg ha)
  have q : (a == 0) = false := by rw [beq_eq_false_iff_ne]; exact ha
  go_enter Tryz.func113, Tryz.ntmps113
  go_wp2_with fail
  go_loopw [8] (fun i wr => wr = w ∧ i = .int .i64 ((0 : Nat) : Int)) (fun i _ => 2 - (intOf i).toNat)
  case atStart => exact ⟨rfl, rfl⟩
  case round =>
   obtain ⟨rfl, rfl⟩ := hrel
   go_wp2_with fail
   go_ret
   exact ⟨by rw [HR.out]; rfl, rfl⟩
theorem cmpB_lt : ∀ a b : List UInt8, Lib.compareBytes a b = (bif Op.bytesLess a b then -1 else bif Op.bytesLess b a then 1 else 0)
 | [], [] => by simp [Lib.compareBytes, Op.bytesLess]
 | [], _ :: _ => by simp [Lib.compareBytes, Op.bytesLess]
 | _ :: _, [] => by simp [Lib.compareBytes, Op.bytesLess]
 | a :: x, b :: y => by
  unfold Lib.compareBytes Op.bytesLess
  by_cases h : a < b
  ·simp [h]
  ·by_cases h2 : b < a
   ·have : ¬ a = b := fun e => by rw [e] at h2; exact absurd h2 (by rw [e] at h; exact h)
    have hq : (a == b) = false := by rw [beq_eq_false_iff_ne]; exact this
    simp [h, h2, hq]
   ·have : a = b := by
     apply UInt8.toNat_inj.1
     rw [UInt8.lt_iff_toNat_lt] at h h2
     omega
    subst this
    simp [h, cmpB_lt x y]
theorem cmpP_code (a b : Po) : orI (Lib.compareInt a.depth b.depth) (Lib.compareBytes a.id.data.toList b.id.data.toList) = cmpP a b := by
 unfold orI cmpP beforeP Lib.compareInt
 rw [cmpB_lt, ByteArray.toList_eq, ByteArray.toList_eq]
 by_cases h : a.depth < b.depth
 ·have h2 : ¬ b.depth < a.depth := by omega
  have h3 : ¬ b.depth = a.depth := by omega
  simp [h]
 ·by_cases h2 : b.depth < a.depth
  ·have h3 : ¬ a.depth = b.depth := by omega
   simp [h, h2, h3]
  ·have h3 : a.depth = b.depth := by omega
   simp [h3]
set_option maxHeartbeats 1600000 in
theorem compare_any (a b : Po) (w : World) : Calls Tryz.prog 102 #[.agg #[.int .i64 a.depth, .string a.id], .agg #[.int .i64 b.depth, .string b.id]] w fun e w' => e = .returned (.int .i64 (cmpP a b)) ∧ Below w.heap.size w w' := by
 have hs1 : (w.alloc (.cells #[.int .i64 a.depth, .string a.id] 83)).heap.size = w.heap.size + 1 := by simp
 have H3 := Lib.hid (heap_alloc_new (w.alloc (.cells #[.int .i64 a.depth, .string a.id] 83)) (.cells #[.int .i64 b.depth, .string b.id] 83))
 have H2 := Lib.hid ((heap_alloc_old (w.alloc (.cells #[.int .i64 a.depth, .string a.id] 83)) (.cells #[.int .i64 b.depth, .string b.id] 83) (r := w.heap.size) (by rw [hs1]; omega)).trans (heap_alloc_new w _))
 have HB := Lib.hid (((Gr.refl w).alloc (.cells #[.int .i64 a.depth, .string a.id] 83)).alloc (.cells #[.int .i64 b.depth, .string b.id] 83)).below
 rw [hs1] at H3
 clear hs1
 have HQ1 := Lib.hid (fun W => Tryz.cmp_Compare_int a.depth b.depth W)
 have HQ2 := Lib.hid (fun W => Tryz.strings_Compare a.id b.id W)
 have HU := Lib.hid (cmpP_code a b)
 generalize Lib.compareInt a.depth b.depth = x at HQ1 HU
 generalize Lib.compareBytes a.id.data.toList b.id.data.toList = y at HQ2 HU
 go_enter Tryz.func102, Tryz.ntmps102
 go_upto_region 1 with (fail)
 generalize World.alloc _ _ = w1 at H2 H3 HB ⊢
 generalize w.heap.size + 1 = B3 at H3 ⊢
 generalize hB2 : w.heap.size = B2 at H2 ⊢
 have HS : w1.drew.cell? ⟨B2, 0, none⟩ = some (.int .i64 a.depth) ∧ w1.drew.cell? ⟨B2, 1, none⟩ = some (.string a.id) ∧ w1.drew.cell? ⟨B3, 0, none⟩ = some (.int .i64 b.depth) ∧ w1.drew.cell? ⟨B3, 1, none⟩ = some (.string b.id) ∧ Below w.heap.size w w1.drew := ⟨cell_at H2.out 0, cell_at H2.out 1, cell_at H3.out 0, cell_at H3.out 1, HB.out.drew⟩
 refine wp_region_held_drew (S := fun w' => w'.cell? ⟨B2, 0, none⟩ = some (.int .i64 a.depth) ∧ w'.cell? ⟨B2, 1, none⟩ = some (.string a.id) ∧ w'.cell? ⟨B3, 0, none⟩ = some (.int .i64 b.depth) ∧ w'.cell? ⟨B3, 1, none⟩ = some (.string b.id) ∧ Below w.heap.size w w') (by kernel_rfl) HS (fun hHeld => ?_)
 clear HS H2 H3 HB
 generalize w1.drew = wd at hHeld ⊢
 refine wpAnyH_take (i := 0) (oi := ⟨some 5, _, _, _, _, _⟩) (v := ?vc0) rfl (by kernel_rfl) (by kernel_rfl) (by kernel_rfl) (fun _ _ _ h => h) (Or.inl ⟨by rfl, ?yc0⟩) hHeld ?rc0
 case yc0 =>
  intro wx hSx
  go_simp
  try with_reducible rfl
 try simp only [actS]
 refine wpAnyH_take (i := 2) (oi := ⟨some 7, _, _, _, _, _⟩) (v := ?vc2) rfl (by kernel_rfl) (by kernel_rfl) (by kernel_rfl) (fun _ _ _ h => h) (Or.inl ⟨by rfl, ?yc2⟩) hHeld ?rc2
 case yc2 =>
  intro wx hSx
  go_simp
  try with_reducible rfl
 try simp only [actS]
 refine wpAnyH_take (i := 5) (oi := ⟨some 10, _, _, _, _, _⟩) (v := ?vc5) rfl (by kernel_rfl) (by kernel_rfl) (by kernel_rfl) (fun _ _ _ h => h) (Or.inl ⟨by rfl, ?yc5⟩) hHeld ?rc5
 case yc5 =>
  intro wx hSx
  go_simp
  try with_reducible rfl
 try simp only [actS]
 refine wpAnyH_take (i := 7) (oi := ⟨some 12, _, _, _, _, _⟩) (v := ?vc7) rfl (by kernel_rfl) (by kernel_rfl) (by kernel_rfl) (fun _ _ _ h => h) (Or.inl ⟨by rfl, ?yc7⟩) hHeld ?rc7
 case yc7 =>
  intro wx hSx
  go_simp
  try with_reducible rfl
 try simp only [actS]
 refine wpAnyH_take (i := 1) (oi := ⟨some 6, _, _, _, _, _⟩) (v := ?vc1) rfl (by kernel_rfl) (by kernel_rfl) (by kernel_rfl) (fun _ _ _ h => h) (Or.inl ⟨by rfl, ?yc1⟩) hHeld ?rc1
 case yc1 =>
  intro wx hSx
  obtain ⟨z1, z2, z3, z4, -⟩ := hSx
  go_simp
  try with_reducible rfl
 try simp only [actS]
 refine wpAnyH_take (i := 3) (oi := ⟨some 8, _, _, _, _, _⟩) (v := ?vc3) rfl (by kernel_rfl) (by kernel_rfl) (by kernel_rfl) (fun _ _ _ h => h) (Or.inl ⟨by rfl, ?yc3⟩) hHeld ?rc3
 case yc3 =>
  intro wx hSx
  obtain ⟨z1, z2, z3, z4, -⟩ := hSx
  go_simp
  try with_reducible rfl
 try simp only [actS]
 refine wpAnyH_take (i := 6) (oi := ⟨some 11, _, _, _, _, _⟩) (v := ?vc6) rfl (by kernel_rfl) (by kernel_rfl) (by kernel_rfl) (fun _ _ _ h => h) (Or.inl ⟨by rfl, ?yc6⟩) hHeld ?rc6
 case yc6 =>
  intro wx hSx
  obtain ⟨z1, z2, z3, z4, -⟩ := hSx
  go_simp
  try with_reducible rfl
 try simp only [actS]
 refine wpAnyH_take (i := 8) (oi := ⟨some 13, _, _, _, _, _⟩) (v := ?vc8) rfl (by kernel_rfl) (by kernel_rfl) (by kernel_rfl) (fun _ _ _ h => h) (Or.inl ⟨by rfl, ?yc8⟩) hHeld ?rc8
 case yc8 =>
  intro wx hSx
  obtain ⟨z1, z2, z3, z4, -⟩ := hSx
  go_simp
  try with_reducible rfl
 try simp only [actS]
 refine anyH_asks (i := 4) (oi := ⟨some 9, _, _, _, _, _⟩) (v := .int .i64 x) rfl (by kernel_rfl) (by kernel_rfl) (by kernel_rfl) (fun _ _ _ h => h) ⟨by rfl, fun wx hSx => ⟨_, _, ?ec4, (HQ1.out _).mono (fun _ _ h => ⟨h.1, h.2.symm⟩)⟩⟩ hHeld ?rc4
 case ec4 => go_simp
 try simp only [actS]
 refine anyH_asks (i := 9) (oi := ⟨some 14, _, _, _, _, _⟩) (v := .int .i64 y) rfl (by kernel_rfl) (by kernel_rfl) (by kernel_rfl) (fun _ _ _ h => h) ⟨by rfl, fun wx hSx => ⟨_, _, ?ec9, (HQ2.out _).mono (fun _ _ h => ⟨h.1, h.2.symm⟩)⟩⟩ hHeld ?rc9
 case ec9 => go_simp
 try simp only [actS]
 refine wpAnyH_ready (rs := [10]) (by kernel_rfl) (by simp) ?_
 refine AllReadyH.cons (o := ⟨some 15, _, _, _, _, _⟩) rfl (fun K hK => ?_) AllReadyH.nil
 have hNW : (wd.alloc (.cells #[.int .i64 x, .int .i64 y] 3)).cell? ⟨B2, 0, none⟩ = some (.int .i64 a.depth) ∧ (wd.alloc (.cells #[.int .i64 x, .int .i64 y] 3)).cell? ⟨B2, 1, none⟩ = some (.string a.id) ∧ (wd.alloc (.cells #[.int .i64 x, .int .i64 y] 3)).cell? ⟨B3, 0, none⟩ = some (.int .i64 b.depth) ∧ (wd.alloc (.cells #[.int .i64 x, .int .i64 y] 3)).cell? ⟨B3, 1, none⟩ = some (.string b.id) ∧ Below w.heap.size w (wd.alloc (.cells #[.int .i64 x, .int .i64 y] 3)) := by
  obtain ⟨z1, z2, z3, z4, z5⟩ := hHeld
  have bn := below_new wd (.cells #[.int .i64 x, .int .i64 y] 3)
  exact ⟨(bn.cell (World.block_lt_of_cell? _ _ z1)).trans z1, (bn.cell (World.block_lt_of_cell? _ _ z2)).trans z2, (bn.cell (World.block_lt_of_cell? _ _ z3)).trans z3, (bn.cell (World.block_lt_of_cell? _ _ z4)).trans z4, z5.trans (bn.mono z5.size)⟩
 have hn := heap_alloc_new wd (.cells #[.int .i64 x, .int .i64 y] 3)
 go_simp
 refine hK.out _ _ hNW (fun hHeld => ?_)
 clear hK K hNW
 try simp only [actS]
 refine wpAnyH_ready (rs := [11]) (by kernel_rfl) (by simp) ?_
 refine AllReadyH.cons (o := ⟨some 16, _, _, _, _, _⟩) rfl (fun K hK => ?_) AllReadyH.nil
 go_simp
 refine (or_any x y wd.heap.size _ (cell_at hn 0) (cell_at hn 1)).mono ?_
 rintro e wn ⟨rfl, rfl⟩
 refine hK.out _ _ hHeld (fun hHeld => ?_)
 clear hK K
 try simp only [actS]
 refine wpAnyH_take (i := 12) (oi := ⟨some 4, _, _, _, _, _⟩) (v := ?vc12) rfl (by kernel_rfl) (by kernel_rfl) (by kernel_rfl) (fun _ _ _ h => h) (Or.inl ⟨by rfl, ?yc12⟩) hHeld ?rc12
 case yc12 =>
  intro wx hSx
  go_simp
  try with_reducible rfl
 try simp only [actS]
 refine wpAnyH_done (by kernel_rfl) ?_ _
 go_wp2_with fail
 go_ret
 exact ⟨by rw [← HU.out]; rfl, hHeld.2.2.2.2⟩
end Go.Proofs.YtnnapkakbdpkaaaGreat

namespace Go.Proofs.YtnnapkakbdpkaaaGreat
open Go.Joins Go.ChangeShapes Go.WideShapes Go.RowKit Go.Deep
section
variable {H : Type} {enc : TypeId × Value → H} {P : Program} {w : World} {base : Nat} {spare : Nat → Bool} {held : Bool} {α : Type}
theorem lies_vs_at {L : Lies α} : ∀ {xs : List α} {q : Nat} {u : Value}, 0 < L.c → (L.vs xs)[q]? = some u → ∃ i j y, q = i * L.c + j ∧ xs[i]? = some y ∧ (L.cl y)[j]? = some u
 | [], q, u, _, h => by simp [Lies.vs] at h
 | x :: xs, q, u, hp, h => by
  rw [L.vs_cons] at h
  by_cases hq : q < L.c
  ·rw [List.getElem?_append_left (by rw [L.len]; exact hq)] at h
   exact ⟨0, q, x, by omega, rfl, h⟩
  ·rw [List.getElem?_append_right (by rw [L.len]; omega), L.len] at h
   obtain ⟨i, j, y, h1, h2, h3⟩ := lies_vs_at hp h
   exact ⟨i + 1, j, y, by rw [Nat.succ_mul]; omega, h2, h3⟩
theorem open_lies {L : Lies α} {ok : α → Prop} (dflt : α) {t : TypeId} {fuel : Nat} {cs : List Value} {x : DataW H × List MemPlace} (ht : P.underlying t = some (.slice L.e)) (hC : P.cellsOf L.e = L.c) (hp : 0 < L.c)
  (rd : ∀ (fuel : Nat) (cs : List Value) (x : DataW H × List MemPlace), cs.length = L.c → DataW.trod enc P w base spare held fuel L.e cs = some x → ∃ y, cs = L.cl y ∧ ok y)
  (hf : DataW.trod enc P w base spare held fuel t cs = some x) : ∃ A cap xs, cs = [.slice A xs.length cap] ∧ L.Slice w (.slice A xs.length cap) xs ∧ ∀ y ∈ xs, ok y := by
 rcases open_slice ht hf with ⟨hcs, _⟩ | ⟨a, l, c, m, n, D, Pl, hcs, _, hl, hm, hmm, _, hi⟩
 ·exact ⟨none, 0, [], hcs, Lies.Slice.nil w, fun y hy => (List.not_mem_nil hy).elim⟩
 ·have hml : l ≤ m := by rw [hmm]; split <;> omega
  have hone' : ∀ i, ∃ e : α, i < l → ok e ∧ ∀ j u, (L.cl e)[j]? = some u → w.cell? ((a.add (i * L.c)).add j) = some u := by
   intro i
   by_cases hil : i < l
   ·obtain ⟨cs', hc, ht'⟩ := hi i (by omega)
    rw [hC] at hc
    obtain ⟨_, hcl, hat⟩ := World.cells?_some hc
    obtain ⟨e, rfl, hw⟩ := rd _ _ _ hcl ht'
    refine ⟨e, fun _ => ⟨hw, fun j u hu => ?_⟩⟩
    have hj : j < L.c := by have := (List.getElem?_eq_some_iff.1 hu).1; rw [hcl] at this; exact this
    rw [hat j hj, hu]
   ·exact ⟨dflt, fun h => absurd h hil⟩
  obtain ⟨f, hf'⟩ := Classical.axiomOfChoice hone'
  have hlen : ((List.range l).map f).length = l := by simp
  have hget : ∀ i e, ((List.range l).map f)[i]? = some e → i < l ∧ e = f i := by
   intro i e he
   rw [List.getElem?_map] at he
   have hil : i < l := by
    rcases Nat.lt_or_ge i l with h | h
    ·exact h
    ·rw [List.getElem?_eq_none (by simpa using h)] at he
     cases he
   rw [List.getElem?_range hil] at he
   injection he with he
   exact ⟨hil, he.symm⟩
  refine ⟨some a, c, (List.range l).map f, by rw [hlen]; exact hcs, ⟨some a, c, rfl, by rw [hlen]; exact hl, hm, (fun h => by cases h), fun h0 => ?_⟩, ?_⟩
  ·rw [hlen] at h0
   obtain ⟨b, off, spot⟩ := a
   have hc0 : ∃ u, (L.cl (f 0))[0]? = some u := ⟨_, List.getElem?_eq_getElem (by rw [L.len]; exact hp)⟩
   obtain ⟨u0, hu0⟩ := hc0
   have h00 := (hf' 0 h0).2 0 u0 hu0
   have hspot : spot = none := by simpa [Addr.add] using World.cell?_spot h00
   subst hspot
   refine ⟨b, off, rfl, ?_, fun q u hu => ?_⟩
   ·have := World.block_lt_of_cell? w _ h00
    simpa [Addr.add] using this
   ·obtain ⟨i, j, y, rfl, hy, hu'⟩ := lies_vs_at hp hu
    obtain ⟨hil, rfl⟩ := hget i y hy
    have := (hf' i hil).2 j u hu'
    rw [Go.WideShapes.add_plain, Go.WideShapes.add_plain, Nat.add_assoc] at this
    exact this
  ·intro e he
   obtain ⟨i, hi', rfl⟩ := List.mem_map.1 he
   exact (hf' i (List.mem_range.1 hi')).1
end
end Go.Proofs.YtnnapkakbdpkaaaGreat

namespace Go.Proofs.YtnnapkakbdpkaaaGreat
set_option maxRecDepth 20000
open Go.Joins Go.ChangeShapes Go.WideShapes Go.RowKit Go.Deep
structure GV where
 g : Gp
 A : Option Addr
 cap : Nat
def GV.pv (x : GV) : Value := .slice x.A x.g.parents.length x.cap
def GV.cells (x : GV) : List Value := [.int .i64 x.g.user, .int .i64 x.g.does, x.pv, .int .i64 x.g.thread]
def LG : Lies GV := ⟨135, 4, GV.cells, fun _ => rfl, fun x u hu => by
 simp only [GV.cells, GV.pv, List.mem_cons, List.not_mem_nil, or_false] at hu
 rcases hu with rfl | rfl | rfl | rfl <;> rfl⟩
def i64B (n : Int) : Prop := -9223372036854775808 ≤ n ∧ n ≤ 9223372036854775807
def GV.at (x : GV) (w : World) : Prop := LI.Slice w x.pv x.g.parents ∧ i64B x.g.user ∧ i64B x.g.does ∧ i64B x.g.thread ∧ ∀ p ∈ x.g.parents, i64B p
def GsS (w : World) (v : Value) (gs : List GV) : Prop := LG.Slice w v gs ∧ ∀ x ∈ gs, x.at w
theorem GV.at.below {x : GV} {w w' : World} (h : x.at w) (hb : Below w.heap.size w w') : x.at w' := ⟨h.1.below hb, h.2⟩
theorem GsS.below {w w' : World} {v : Value} {gs : List GV} (h : GsS w v gs) (hb : Below w.heap.size w w') : GsS w' v gs := ⟨h.1.below hb, fun x hx => (h.2 x hx).below hb⟩
section
variable {H : Type} {enc : TypeId × Value → H} {w : World} {base : Nat} {spare : Nat → Bool} {held : Bool}
theorem open_nums {fuel : Nat} {cs : List Value} {x : DataW H × List MemPlace} (hf : DataW.trod enc Tryz.prog w base spare held fuel 78 cs = some x) :
  ∃ A cap xs, cs = [.slice A xs.length cap] ∧ LI.Slice w (.slice A xs.length cap) xs ∧ ∀ y ∈ xs, i64B y :=
 open_lies (L := LI) (ok := i64B) 0 Tryz.underlying78 (by kernel_rfl) (by decide) (fun fuel cs x hl ht => by
  obtain ⟨s, e, _, hw⟩ := DataW.trod_int Tryz.underlying3 ht
  exact ⟨s, e, bounds_i64 hw⟩) hf
theorem g_of_cells {f0 f1 f2 f3 : Field} {fuel : Nat} {cs : List Value} {x : DataW H × List MemPlace} (hs : Tryz.prog.underlying 135 = some (.struct #[f0, f1, f2, f3])) (hone : oneCellFields Tryz.prog #[f0, f1, f2, f3] = true) (hl : cs.length = 4)
  (u0 : f0.type = 3) (u1 : f1.type = 3) (u2 : f2.type = 78) (u3 : f3.type = 3)
  (hf : DataW.trod enc Tryz.prog w base spare held fuel 135 cs = some x) : ∃ y : GV, cs = LG.cl y ∧ y.at w := by
 match cs, hl with
 | [c0, c1, c2, c3], _ =>
  obtain ⟨xs, n, _, hx, _, hlen, hg⟩ := DataW.trod_struct hs hf
  obtain ⟨o0, k0⟩ := hone_of hone 0 f0 rfl
  obtain ⟨o1, k1⟩ := hone_of hone 1 f1 rfl
  obtain ⟨o2, k2⟩ := hone_of hone 2 f2 rfl
  obtain ⟨o3, k3⟩ := hone_of hone 3 f3 rfl
  match xs, hlen with
  | [y0, y1, y2, y3], _ =>
   have t0 : DataW.trod enc Tryz.prog w base spare held n f0.type [c0] = some y0 := by simpa [o0, k0] using hg 0 f0 rfl
   have t1 : DataW.trod enc Tryz.prog w base spare held n f1.type [c1] = some y1 := by simpa [o1, k1] using hg 1 f1 rfl
   have t2 : DataW.trod enc Tryz.prog w base spare held n f2.type [c2] = some y2 := by simpa [o2, k2] using hg 2 f2 rfl
   have t3 : DataW.trod enc Tryz.prog w base spare held n f3.type [c3] = some y3 := by simpa [o3, k3] using hg 3 f3 rfl
   rw [u0] at t0
   rw [u1] at t1
   rw [u2] at t2
   rw [u3] at t3
   obtain ⟨x0, e0, _, w0⟩ := DataW.trod_int Tryz.underlying3 t0
   obtain ⟨x1, e1, _, w1⟩ := DataW.trod_int Tryz.underlying3 t1
   obtain ⟨A, cap, ps, e2, s2, w2⟩ := open_nums t2
   obtain ⟨x3, e3, _, w3⟩ := DataW.trod_int Tryz.underlying3 t3
   simp only [List.cons.injEq, and_true] at e0 e1 e2 e3
   subst e0 e1 e2 e3
   exact ⟨⟨⟨x0, x1, ps, x3⟩, A, cap⟩, rfl, s2, bounds_i64 w0, bounds_i64 w1, bounds_i64 w3, w2⟩
theorem open_gs {fuel : Nat} {cs : List Value} {x : DataW H × List MemPlace} (hf : DataW.trod enc Tryz.prog w base spare held fuel 22 cs = some x) :
  ∃ A cap xs, cs = [.slice A xs.length cap] ∧ GsS w (.slice A xs.length cap) xs :=
 open_lies (L := LG) (ok := fun y => y.at w) ⟨⟨0, 0, [], 0⟩, none, 0⟩ Tryz.underlying22 (by kernel_rfl) (by decide) (fun fuel cs x hl ht => g_of_cells Tryz.underlying135 (by kernel_rfl) hl rfl rfl rfl rfl ht) hf
end
end Go.Proofs.YtnnapkakbdpkaaaGreat

namespace Go.Proofs.YtnnapkakbdpkaaaGreat
set_option maxRecDepth 20000
open Go.RowKit
set_option linter.unusedVariables false
set_option linter.unusedSimpArgs false
/-- A list stays where its block stays. -/
theorem Lies.Slice.stay0 {α : Type} {L : Lies α} {w w' : World} {v : Value} {xs : List α} (h : L.Slice w v xs) (hs : w.heap.size ≤ w'.heap.size) (hb : ∀ k, k < w.heap.size → 0 < xs.length → v.ownBlock = some k → w'.heap[k]? = w.heap[k]?) : L.Slice w' v xs := by
  obtain ⟨A, cap, rfl, h1, h2, h3, h4⟩ := h
  refine ⟨A, cap, rfl, h1, h2, h3, fun h0 => ?_⟩
  obtain ⟨b, off, rfl, hl, hr⟩ := h4 h0
  refine ⟨b, off, rfl, Nat.lt_of_lt_of_le hl hs, fun j u hu => ?_⟩
  exact (World.cell?_of_block (a := ⟨b, off + j, none⟩) (hb b hl h0 rfl)).trans (hr j u hu)
theorem Lies.Slice.stay {α : Type} {L : Lies α} {w w' : World} {v : Value} {xs : List α} (h : L.Slice w v xs) (hs : w.heap.size ≤ w'.heap.size) (hb : ∀ k, k < w.heap.size → v.ownBlock = some k → w'.heap[k]? = w.heap[k]?) : L.Slice w' v xs :=
  h.stay0 hs (fun k hk _ hv => hb k hk hv)
theorem Lies.Slice.foot {α : Type} {L : Lies α} {w : World} {v : Value} {xs : List α} (h : L.Slice w v xs) {k : Nat} (h0 : 0 < xs.length) (hk : v.ownBlock = some k) : k < w.heap.size := by
  obtain ⟨A, cap, rfl, h1, h2, h3, h4⟩ := h
  obtain ⟨b, off, rfl, hl, hr⟩ := h4 h0
  have h5 : b = k := by simpa [Value.ownBlock] using hk
  rw [← h5]; exact hl
/-- The blocks that an event, a list of events lies in. -/
def footV (x : EvV) (k : Nat) : Prop := 0 < x.ev.parents.length ∧ x.pv.ownBlock = some k
def footE (v : Value) (xs : List EvV) (k : Nat) : Prop := (0 < xs.length ∧ v.ownBlock = some k) ∨ ∃ x ∈ xs, footV x k
theorem EvV.at.foot {x : EvV} {w : World} (h : x.at w) {k : Nat} (hk : footV x k) : k < w.heap.size := h.1.foot hk.1 hk.2
theorem EvsS.foot {w : World} {v : Value} {xs : List EvV} (h : EvsS w v xs) {k : Nat} (hk : footE v xs k) : k < w.heap.size := by
  rcases hk with hk | ⟨x, hx, hk⟩
  · exact h.1.foot hk.1 hk.2
  · exact (h.2 x hx).foot hk
theorem EvV.at.stay0 {x : EvV} {w w' : World} (h : x.at w) (hs : w.heap.size ≤ w'.heap.size) (hb : ∀ k, k < w.heap.size → footV x k → w'.heap[k]? = w.heap[k]?) : x.at w' := ⟨h.1.stay0 hs (fun k hk h0 hv => hb k hk ⟨h0, hv⟩), h.2⟩
theorem EvV.at.stay {x : EvV} {w w' : World} (h : x.at w) (hs : w.heap.size ≤ w'.heap.size) (hb : ∀ k, k < w.heap.size → x.pv.ownBlock = some k → w'.heap[k]? = w.heap[k]?) : x.at w' := ⟨h.1.stay hs hb, h.2⟩
theorem EvsS.stay {w w' : World} {v : Value} {xs : List EvV} (h : EvsS w v xs) (hs : w.heap.size ≤ w'.heap.size) (hb : ∀ k, k < w.heap.size → footE v xs k → w'.heap[k]? = w.heap[k]?) : EvsS w' v xs :=
  ⟨h.1.stay0 hs (fun k hk h0 hv => hb k hk (.inl ⟨h0, hv⟩)), fun x hx => (h.2 x hx).stay0 hs (fun k hk hv => hb k hk (.inr ⟨x, hx, hv⟩))⟩
/-- From w to w' only the dag's own blocks have turned, and new ones have come. -/
structure TurnD (own : World → Nat → Nat → Prop) (w w' : World) (g : Nat) : Prop where
  os : w'.os = w.os
  tape : w'.tape = w.tape
  output : w'.output = w.output
  size : w.heap.size ≤ w'.heap.size
  block : ∀ k, k < w.heap.size → ¬ own w g k → w'.heap[k]? = w.heap[k]?
  owns : ∀ k, own w' g k → own w g k ∨ w.heap.size ≤ k
theorem TurnD.trans {own : World → Nat → Nat → Prop} {w w' w'' : World} {g : Nat} (h : TurnD own w w' g) (h' : TurnD own w' w'' g) : TurnD own w w'' g :=
  ⟨h'.os.trans h.os, h'.tape.trans h.tape, h'.output.trans h.output, Nat.le_trans h.size h'.size,
   fun k hk ho => (h'.block k (Nat.lt_of_lt_of_le hk h.size) (fun hh => by rcases h.owns k hh with hh | hh; exact ho hh; omega)).trans (h.block k hk ho),
   fun k hk => by
    rcases h'.owns k hk with hh | hh
    · exact h.owns k hh
    · exact .inr (Nat.le_trans h.size hh)⟩
theorem TurnD.below {own : World → Nat → Nat → Prop} {w w' : World} {g B : Nat} (h : TurnD own w w' g) (hf : ∀ k, own w g k → B ≤ k) (hB : B ≤ w.heap.size) : Below B w w' :=
  ⟨h.os, h.tape, h.output, h.size, fun k hk => h.block k (Nat.lt_of_lt_of_le hk hB) (fun ho => by have := hf k ho; omega)⟩
/-- What is told is new memory, and not the dag's. -/
def ToldD (own : World → Nat → Nat → Prop) (w : World) (g : Nat) (v : Value) : Prop := ∀ k, v.ownBlock = some k → ¬ own w g k

structure Dags where
  CD : World → Nat → ByteArray → List Ev → Prop
  own : World → Nat → Nat → Prop
  old : ∀ {w g room l k}, CD w g room l → own w g k → k < w.heap.size
  valid : ∀ {w g room l}, CD w g room l → Valid room l
  keep : ∀ {w w' : World} {g room l}, CD w g room l → w.heap.size ≤ w'.heap.size → (∀ k, own w g k → w'.heap[k]? = w.heap[k]?) → CD w' g room l ∧ ∀ k, own w' g k → own w g k
  new : ∀ w (room : ByteArray), room.size ≤ maxLen → namedB 33 room = true → Calls Tryz.prog 75 #[.string room] w fun e w' => ∃ g, e = .returned (.pointer (some ⟨g, 0, none⟩)) ∧ CD w' g room [] ∧ Below w.heap.size w w' ∧ ∀ k, own w' g k → w.heap.size ≤ k
  new40 : ∀ w (room : ByteArray), room.size ≤ 40 → Calls Tryz.prog 75 #[.string room] w fun e w' => ∃ g, e = .returned (.pointer (some ⟨g, 0, none⟩)) ∧ CD w' g room [] ∧ Below w.heap.size w w' ∧ ∀ k, own w' g k → w.heap.size ≤ k
  add : ∀ {w g room l} (x : EvV), CD w g room l → l.length ≤ 100 → x.at w → Calls Tryz.prog 48 #[.pointer (some ⟨g, 0, none⟩), x.val] w fun e w' => e = .returned (.int .i64 (errA room l x.ev)) ∧ CD w' g room (addA room l x.ev) ∧ TurnD own w w' g
  has : ∀ {w g room l} (k : ByteArray), CD w g room l → l.length ≤ 100 → k.size ≤ maxLen → Calls Tryz.prog 77 #[.pointer (some ⟨g, 0, none⟩), .string k] w fun e w' => e = .returned (.bool (hasE l k)) ∧ CD w' g room l ∧ TurnD own w w' g
  event : ∀ {w g room l} (k : ByteArray), CD w g room l → l.length ≤ 100 → k.size ≤ maxLen → Calls Tryz.prog 100 #[.pointer (some ⟨g, 0, none⟩), .string k] w fun e w' => ∃ y : EvV, e = .returned (.tuple #[y.val, .bool (hasE l k)]) ∧ y.at w' ∧ LT.Mine w' w.heap.size y.pv y.ev.parents ∧ ToldD own w' g y.pv ∧ (hasE l k = true → y.ev ∈ l ∧ y.ev.id = k) ∧ CD w' g room l ∧ TurnD own w w' g
  position : ∀ {w g room l} (k : ByteArray), CD w g room l → l.length ≤ 100 → k.size ≤ maxLen → Calls Tryz.prog 57 #[.pointer (some ⟨g, 0, none⟩), .string k] w fun e w' => ∃ p : Po, e = .returned (.tuple #[p.val, .bool (hasE l k)]) ∧ (hasE l k = true → p = posL l k) ∧ (hasE l k = false → p = ⟨0, ⟨#[]⟩⟩) ∧ CD w' g room l ∧ TurnD own w w' g
  may : ∀ {w} (x : EvV), x.at w → Calls Tryz.prog 76 #[x.val] w fun e w' => e = .returned (.bool (mayE x.ev)) ∧ Below w.heap.size w w'
  compare : ∀ {w} (p q : Po), Calls Tryz.prog 102 #[p.val, q.val] w fun e w' => e = .returned (.int .i64 (cmpP p q)) ∧ Below w.heap.size w w'
structure DagRms (C : Dags) : Prop where
  room : ∀ {w g room l}, C.CD w g room l → l.length ≤ 100 → Calls Tryz.prog 49 #[.pointer (some ⟨g, 0, none⟩)] w fun e w' => e = .returned (.string room) ∧ C.CD w' g room l ∧ TurnD C.own w w' g
variable {C : Dags}
/-- The document's memory beside a dag of the code: it stays, whatever is called. -/
theorem Dags.stays {w w' : World} {g : Nat} {v : Value} {xs : List EvV} (h : EvsS w v xs) (ha : ∀ k, footE v xs k → ¬ C.own w g k) (ht : TurnD C.own w w' g) : EvsS w' v xs ∧ ∀ k, k < w.heap.size → footE v xs k → ¬ C.own w' g k :=
  ⟨h.stay ht.size (fun k hk hf => ht.block k hk (ha k hf)), fun k hk hf ho => by
    rcases ht.owns k ho with hh | hh
    · exact ha k hf hh
    · omega⟩
end Go.Proofs.YtnnapkakbdpkaaaGreat
namespace Go.Proofs.YtnnapkakbdpkaaaGreat
set_option maxRecDepth 20000
open Go.RowKit Go.Maps Go.ChangeMaps
structure NdV where
 x : EvV
 d : Nat
def NdV.cells (n : NdV) : List Value := [.string n.x.ev.id, .string n.x.ev.room, n.x.pv, .string n.x.ev.thread, .string n.x.ev.user, .int .i64 n.x.ev.does, .int .i64 (n.d : Int)]
def NdV.val (n : NdV) : Value := .agg #[.string n.x.ev.id, .string n.x.ev.room, n.x.pv, .string n.x.ev.thread, .string n.x.ev.user, .int .i64 n.x.ev.does, .int .i64 (n.d : Int)]
def zeroN : Value := .agg #[.string ⟨#[]⟩, .string ⟨#[]⟩, .slice none 0 0, .string ⟨#[]⟩, .string ⟨#[]⟩, .int .i64 0, .int .i64 0]
abbrev nevs (ns : List NdV) : List Ev := ns.map (fun n => n.x.ev)
abbrev Dv := DataW Value
def heldR (v : Value) : Option (Dv × List MemPlace) := some (.held v, [])
def kl (k : ByteArray) : Lit := .string k.data.toList
theorem kl_inj {a b : ByteArray} (h : kl a = kl b) : a = b := by
 unfold kl at h
 injection h with h
 exact (key_eq a b).2 h
theorem kl_key (k : ByteArray) : WideAt.IsKeyLit (kl k) := by simp [kl, WideAt.IsKeyLit]
def NdV.entry (n : NdV) : Lit × Dv := (kl n.x.ev.id, .held n.val)
def NdM (D : Dv) (ns : List NdV) : Prop := ∃ es, D = .map es ∧ es.Perm (ns.map NdV.entry)
abbrev OwnN (w : World) (mb n : Nat) (D : Dv) : Prop := w.ownsMap Tryz.prog 9 heldR mb n D
theorem keyed : Maps.Keyed Tryz.prog 9 := Maps.string_keyed Tryz.underlying9
theorem keyIs {k : ByteArray} (h : k.size ≤ maxLen) : keyOf Tryz.prog 9 (.string k) = some (kl k) := WideMaps.keyOf_string_mk Tryz.underlying9 h
theorem zeroIs (w : World) : (zeroValue 161).run Tryz.prog w = .ok zeroN w := by kernel_rfl
theorem OwnN.keep {w w' : World} {mb n : Nat} {D : Dv} (h : OwnN w mb n D) (hb : w'.heap[mb]? = w.heap[mb]?) : OwnN w' mb n D := by
 obtain ⟨xs, clock, hb', h'⟩ := h
 exact ⟨xs, clock, hb.trans hb', h'⟩
theorem OwnN.same {w : World} {mb n n' : Nat} {D D' : Dv} (h : OwnN w mb n D) (h' : OwnN w mb n' D') : D = D' := by
 obtain ⟨xs, clock, hb, _, _, rfl⟩ := h
 obtain ⟨ys, clock', hb', _, _, rfl⟩ := h'
 rw [hb] at hb'
 injection hb' with hb'
 injection hb' with h1 h2
 rw [h1]
theorem OwnN.lt {w : World} {mb n : Nat} {D : Dv} (h : OwnN w mb n D) : mb < w.heap.size := World.ownsMap.lt h
theorem valid_nodup {room : ByteArray} {l : List Ev} (h : Valid room l) : (l.map Ev.id).Nodup := by
 rw [List.nodup_iff_pairwise_ne, List.pairwise_iff_getElem]
 intro i j hi hj hij
 rw [List.length_map] at hi hj
 rw [List.getElem_map, List.getElem_map]
 intro he
 have h1 := (err_zero (h j l[j] (List.getElem?_eq_getElem hj))).2.2.1
 have h2 : hasE (l.take j) l[j].id = true := has_iff.2 ⟨l[i], by
  rw [List.mem_take_iff_getElem]
  exact ⟨i, by omega, rfl⟩, he⟩
 rw [h2] at h1
 cases h1
theorem entries_apart {ns : List NdV} {es : List (Lit × Dv)} (hp : es.Perm (ns.map NdV.entry)) (hn : ((nevs ns).map Ev.id).Nodup) : es.Pairwise (fun p q => p.1 ≠ q.1) := by
 have h1 : (ns.map NdV.entry).Pairwise (fun p q => p.1 ≠ q.1) := by
  rw [List.pairwise_map]
  rw [List.nodup_iff_pairwise_ne, List.map_map, List.pairwise_map] at hn
  exact hn.imp (fun h e => h (kl_inj e))
 exact (hp.pairwise_iff (fun h e => h e.symm)).2 h1
theorem NdM.has {D : Dv} {ns : List NdV} (h : NdM D ns) (k : ByteArray) : Maps.has D (kl k) = hasE (nevs ns) k := by
 obtain ⟨es, rfl, hp⟩ := h
 rw [Bool.eq_iff_iff, has_iff, Maps.has_eq, List.any_eq_true]
 constructor
 ·rintro ⟨p, hm, hk⟩
  obtain ⟨n, hn, rfl⟩ := List.mem_map.1 (hp.mem_iff.1 hm)
  refine ⟨n.x.ev, List.mem_map.2 ⟨n, hn, rfl⟩, ?_⟩
  simp only [NdV.entry, kl, Lit.sameKey, beq_iff_eq] at hk
  exact (key_eq _ _).2 hk
 ·rintro ⟨e, hm, rfl⟩
  obtain ⟨n, hn, rfl⟩ := List.mem_map.1 hm
  exact ⟨n.entry, hp.mem_iff.2 (List.mem_map.2 ⟨n, hn, rfl⟩), WideAt.sameKey_self (kl_key _)⟩
theorem NdM.at_ {D : Dv} {ns : List NdV} (h : NdM D ns) (hn : ((nevs ns).map Ev.id).Nodup) {n : NdV} (hm : n ∈ ns) (zd : Dv) : D.atKey (kl n.x.ev.id) zd = .held n.val := by
 obtain ⟨es, rfl, hp⟩ := h
 exact WideAt.atKey_mem zd (kl_key _) (entries_apart hp hn) (hp.mem_iff.2 (List.mem_map.2 ⟨n, hm, rfl⟩))
theorem NdM.put {D : Dv} {ns : List NdV} (h : NdM D ns) (n : NdV) (hno : hasE (nevs ns) n.x.ev.id = false) : NdM (D.put (kl n.x.ev.id) (.held n.val)) (ns ++ [n]) := by
 have hh := h.has n.x.ev.id
 obtain ⟨es, rfl, hp⟩ := h
 refine ⟨_, DataW.put_eq _ _ _, ?_⟩
 unfold putKey
 refine (WideShapes.insert_perm _ _).trans ?_
 have hf : es.filter (notKey (kl n.x.ev.id)) = es := by
  rw [List.filter_eq_self]
  intro p hm
  unfold notKey
  rw [hno, Maps.has_eq, List.any_eq_false] at hh
  have := hh p hm
  simpa using this
 rw [hf, List.map_append]
 exact (List.Perm.cons _ hp).trans (List.perm_append_comm (l₁ := [n.entry]))
theorem NdM.nil : NdM (.map []) [] := ⟨[], rfl, List.Perm.refl _⟩
theorem NdM.mem {D : Dv} {ns : List NdV} (h : NdM D ns) {es : List (Lit × Dv)} (hD : D = .map es) (p : Lit × Dv) : p ∈ es ↔ ∃ n ∈ ns, p = n.entry := by
 obtain ⟨es', rfl, hp⟩ := h
 injection hD with hD
 subst hD
 rw [hp.mem_iff, List.mem_map]
 exact ⟨fun ⟨n, h1, h2⟩ => ⟨n, h1, h2.symm⟩, fun ⟨n, h1, h2⟩ => ⟨n, h1, h2.symm⟩⟩
structure DgS (w : World) (g : Nat) (room : ByteArray) (mb : Nat) (ns : List NdV) (D : Dv) : Prop where
 hd : w.heap[g]? = some (.cells #[.string room, .map (some mb)] 157 (0, 0))
 map : OwnN w mb ns.length D
 is : NdM D ns
 par : ∀ n ∈ ns, LT.Mine w 0 n.x.pv n.x.ev.parents
 dep : ns.map NdV.d = deps (nevs ns)
 val : Valid room (nevs ns)
 rs : room.size ≤ 40
def blkV : Value → Option Nat
 | .agg cs => match cs[2]? with
  | some pv => pv.ownBlock
  | none => none
 | _ => none
def blkD : Dv → Option Nat
 | .held v => blkV v
 | _ => none
def ownC (w : World) (g k : Nat) : Prop := ∃ room mb n D, w.heap[g]? = some (.cells #[.string room, .map (some mb)] 157 (0, 0)) ∧ OwnN w mb n D ∧ (k = g ∨ k = mb ∨ ∃ es, D = .map es ∧ ∃ p ∈ es, blkD p.2 = some k)
section
variable {w w' : World} {g mb : Nat} {room : ByteArray} {ns : List NdV} {D : Dv}
theorem DgS.own (h : DgS w g room mb ns D) (k : Nat) : ownC w g k ↔ (k = g ∨ k = mb ∨ ∃ n ∈ ns, n.x.pv.ownBlock = some k) := by
 constructor
 ·rintro ⟨room', mb', n', D', h1, h2, h3⟩
  rw [h.hd] at h1
  injection h1 with h1
  injection h1 with h1
  have e1 := congrArg (fun a : Array Value => a[1]?) h1
  simp only [List.getElem?_toArray, List.getElem?_cons_succ, List.getElem?_cons_zero, Option.some.injEq, Value.map.injEq] at e1
  subst e1
  have e2 := h.map.same h2
  subst e2
  rcases h3 with h3 | h3 | ⟨es, hD, p, hp, hk⟩
  ·exact .inl h3
  ·exact .inr (.inl h3)
  ·obtain ⟨n, hn, rfl⟩ := (h.is.mem hD p).1 hp
   exact .inr (.inr ⟨n, hn, hk⟩)
 ·rintro (h3 | h3 | ⟨n, hn, hk⟩)
  ·exact ⟨_, _, _, _, h.hd, h.map, .inl h3⟩
  ·exact ⟨_, _, _, _, h.hd, h.map, .inr (.inl h3)⟩
  ·obtain ⟨es, hD, hp⟩ := id h.is
   exact ⟨_, _, _, _, h.hd, h.map, .inr (.inr ⟨es, hD, n.entry, (h.is.mem hD _).2 ⟨n, hn, rfl⟩, hk⟩)⟩
theorem DgS.old (h : DgS w g room mb ns D) {k : Nat} (ho : ownC w g k) : k < w.heap.size := by
 rcases (h.own k).1 ho with rfl | rfl | ⟨n, hn, hk⟩
 ·exact smem_lt h.hd
 ·exact h.map.lt
 ·exact ((h.par n hn).lt k hk).2
theorem DgS.keep (h : DgS w g room mb ns D) (hk : ∀ k, ownC w g k → w'.heap[k]? = w.heap[k]?) : DgS w' g room mb ns D :=
 ⟨(hk g ((h.own g).2 (.inl rfl))).trans h.hd, h.map.keep (hk mb ((h.own mb).2 (.inr (.inl rfl)))), h.is, fun n hn => (h.par n hn).keep fun k hv => hk k ((h.own k).2 (.inr (.inr ⟨n, hn, hv⟩))), h.dep, h.val, h.rs⟩
theorem DgS.below (h : DgS w g room mb ns D) (hb : Below w.heap.size w w') : DgS w' g room mb ns D := h.keep fun k hk => hb.block k (h.old hk)
theorem DgS.drewN (h : DgS w g room mb ns D) (n : Nat) : DgS (w.drewN n) g room mb ns D := h.keep fun _ _ => rfl
theorem DgS.drew (h : DgS w g room mb ns D) : DgS w.drew g room mb ns D := h.keep fun _ _ => rfl
theorem DgS.ids (h : DgS w g room mb ns D) : ((nevs ns).map Ev.id).Nodup := valid_nodup h.val
theorem DgS.c0 (h : DgS w g room mb ns D) : w.cell? ⟨g, 0, none⟩ = some (.string room) := cell_at h.hd 0
theorem DgS.c1 (h : DgS w g room mb ns D) : w.cell? ⟨g, 1, none⟩ = some (.map (some mb)) := cell_at h.hd 1
theorem DgS.gm (h : DgS w g room mb ns D) : g ≠ mb := fun e => by
 subst e
 obtain ⟨xs, clock, hb, _⟩ := h.map
 rw [h.hd] at hb
 cases hb
theorem DgS.node (h : DgS w g room mb ns D) {n : NdV} (hn : n ∈ ns) : mayE n.x.ev = true ∧ n.x.ev.room = room := by
 obtain ⟨i, hi, he⟩ := List.getElem_of_mem hn
 have := err_zero (h.val i n.x.ev (by rw [List.getElem?_map, List.getElem?_eq_getElem hi, he]; rfl))
 exact ⟨this.1, this.2.1⟩
theorem DgS.look (h : DgS w g room mb ns D) (k : ByteArray) (hk : k.size ≤ maxLen) (b : Bool) :
  (hasE (nevs ns) k = false ∧ (Instr.lookup 155 (.map (some mb)) (.string k) true).run Tryz.prog w = .ok (.tuple #[zeroN, .bool false]) w)
  ∨ (hasE (nevs ns) k = true ∧ ∃ n ∈ ns, n.x.ev.id = k ∧ (Instr.lookup 155 (.map (some mb)) (.string k) true).run Tryz.prog w = .ok (.tuple #[n.val, .bool true]) w) := by
 obtain ⟨v, ps, hr, hv⟩ := World.ownsMap.look_ok h.map keyed Tryz.underlying155 (zeroIs w) (zd := .held zeroN) (zp := []) rfl (keyIs hk)
 rw [h.is.has k] at hr
 cases hh : hasE (nevs ns) k
 ·refine .inl ⟨rfl, ?_⟩
  have hz := Maps.atKey_of_not_has (D := D) (k := kl k) (by rw [h.is.has k]; exact hh) (.held zeroN)
  rw [hz] at hv
  injection hv with hv
  injection hv with hv _
  injection hv with hv
  rw [hr, hh, hv]
 ·obtain ⟨e, hm, he⟩ := has_iff.1 hh
  obtain ⟨n, hn, rfl⟩ := List.mem_map.1 hm
  refine .inr ⟨rfl, n, hn, he, ?_⟩
  rw [← he, h.is.at_ h.ids hn] at hv
  injection hv with hv
  injection hv with hv _
  injection hv with hv
  rw [hr, hh, hv]
end
theorem may_short {e : Ev} (h : mayE e = true) : e.id.size ≤ 40 ∧ e.room.size ≤ 40 ∧ e.thread.size ≤ 40 ∧ e.user.size ≤ 40 ∧ (∀ p ∈ e.parents, p.size ≤ 40) ∧ 0 ≤ e.does ∧ e.does ≤ 2 ∧ e.parents.length ≤ 4 := by
 rw [mayE_code] at h
 simp only [Bool.and_eq_true] at h
 obtain ⟨⟨⟨⟨⟨h1, h2⟩, h3⟩, h4⟩, h5⟩, h6⟩ := h
 unfold behB at h4
 unfold doB at h5
 rw [Bool.and_eq_true, decide_eq_true_eq] at h4
 rw [Bool.and_eq_true, decide_eq_true_eq, decide_eq_true_eq] at h5
 refine ⟨Nat.le_trans (event_size h1) (by omega), named_size h2, ?_, named_size h3, fun p hp => ?_, h5.1, h5.2, h4.1⟩
 ·unfold thrB at h6
  rw [Bool.or_eq_true] at h6
  rcases h6 with h6 | h6
  ·rw [of_decide_eq_true h6]; decide
  ·simp only [Bool.and_eq_true] at h6
   exact Nat.le_trans (event_size h6.1.1) (by omega)
 ·obtain ⟨i, hi, he⟩ := List.getElem_of_mem hp
  have h7 := (List.all_eq_true.1 h4.2) i (by rw [List.mem_range]; exact hi)
  rw [parB_code (List.getElem?_eq_getElem hi)] at h7
  simp only [Bool.and_eq_true] at h7
  rw [he] at h7
  exact Nat.le_trans (event_size h7.1.1) (by omega)
theorem may_ok {e : Ev} (h : mayE e = true) : e.ok := by
 obtain ⟨h1, h2, h3, h4, h5, h6, h7, _⟩ := may_short h
 have hm : (40 : Nat) ≤ maxLen := by unfold maxLen; omega
 exact ⟨Nat.le_trans h1 hm, Nat.le_trans h2 hm, Nat.le_trans h3 hm, Nat.le_trans h4 hm, fun p hp => Nat.le_trans (h5 p hp) hm, by omega, by omega⟩
end Go.Proofs.YtnnapkakbdpkaaaGreat
