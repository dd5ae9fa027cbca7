/-
  What the statements stand on, part ZB2.
-/
import Derived.Test.YtnnapkakbdpkaaaGreatZA29
import Derived.Test.YtnnapkakbdpkaaaGreatZB1
set_option linter.unusedVariables false
set_option linter.unusedSimpArgs false
namespace Go.Proofs.YtnnapkakbdpkaaaGreat
set_option maxRecDepth 20000
open Go.RowKit Go.Maps Go.ChangeMaps
theorem mine_setPo {w : World} {B b off n cap i : Nat} {xs : List Mk} {y : Mk} (h : LM.Mine w B (.slice (some ⟨b, off, none⟩) n cap) xs) (hy : xs[i]? = some y) (p : Po) : LM.Mine ((w.setCell ⟨b, off + i * 6 + 4, none⟩ (.int .i64 p.depth)).setCell ⟨b, off + i * 6 + 5, none⟩ (.string p.id)) B (.slice (some ⟨b, off, none⟩) n cap) (xs.set i ⟨y.k, p⟩) ∧ w.grownBy ((w.setCell ⟨b, off + i * 6 + 4, none⟩ (.int .i64 p.depth)).setCell ⟨b, off + i * 6 + 5, none⟩ (.string p.id)) (some b) := by
 refine ⟨?_, sm_grown w b (off + i * 6 + 4) [.int .i64 p.depth, .string p.id]⟩
 have hi := (List.getElem?_eq_some_iff.1 hy).1
 have hs := h.set hi ⟨y.k, p⟩
 obtain ⟨c0, c1, c2, c3, -, -⟩ := range6 (h.slice.cells hy)
 obtain ⟨cur, hh⟩ : ∃ cur, w.heap[b]? = some (.cells cur 132 (0, 0)) := by
  rcases h with ⟨hv, _⟩ | ⟨g, off', cap', cur, hv, hg, hh, _⟩
  ·cases hv
  ·injection hv with e1 e2 e3
   injection e1 with e1
   injection e1 with e4 e5 _
   subst e4
   exact ⟨cur, hh⟩
 have hc : ∀ (o : Nat) (u : Value), w.cell? ⟨b, o, none⟩ = some u → w.setCell ⟨b, o, none⟩ u = w := fun o u hu => by
  rw [cell_of_row w b o cur _ _ hh] at hu
  exact setCell_idem hh hu
 have he : w.setCells b (off + i * LM.c) (LM.cl ⟨y.k, p⟩) = (w.setCell ⟨b, off + i * 6 + 4, none⟩ (.int .i64 p.depth)).setCell ⟨b, off + i * 6 + 5, none⟩ (.string p.id) := by
  show World.setCells w b (off + i * 6) [.string y.k.room, .string y.k.user, .string y.k.thread, .bool y.k.priv, .int .i64 p.depth, .string p.id] = _
  have d0 : w.cell? ⟨b, off + i * 6, none⟩ = some (.string y.k.room) := c0
  have d1 : w.cell? ⟨b, off + i * 6 + 1, none⟩ = some (.string y.k.user) := c1
  have d2 : w.cell? ⟨b, off + i * 6 + 1 + 1, none⟩ = some (.string y.k.thread) := c2
  have d3 : w.cell? ⟨b, off + i * 6 + 1 + 1 + 1, none⟩ = some (.bool y.k.priv) := c3
  simp only [World.setCells]
  rw [hc _ _ d0, hc _ _ d1, hc _ _ d2, hc _ _ d3]
 rw [he] at hs
 exact hs
theorem ins_atM {x : Mk} : ∀ {l : List Mk} {i : Nat}, (∀ (j : Nat) y, j < i → l[j]? = some y → beforeK y.k x.k = true) → i ≤ l.length → (∀ y, l[i]? = some y → beforeK y.k x.k = false) → insM x l = l.take i ++ ([x] ++ l.drop i)
 | [], i, _, hi, _ => by
  obtain rfl : i = 0 := by simpa using hi
  rfl
 | y :: r, 0, _, _, h => by
  unfold insM
  rw [h y rfl]
  rfl
 | y :: r, i + 1, h, hi, hs => by
  unfold insM
  rw [h 0 y (by omega) rfl, cond_true, ins_atM (l := r) (i := i) (fun j z hj hz => h (j + 1) z (by omega) hz) (by simpa using hi) (fun z hz => hs z hz)]
  rfl
theorem put_setM {l : List Mk} {i : Nat} {y : Mk} {p : Po} (hr : RowM l) (hy : l[i]? = some y) (hb : beforeP y.po p = true) : putM l ⟨y.k, p⟩ = l.set i ⟨y.k, p⟩ := by
 have hg : getM l y.k = some y.po := (getM_some hr).2 (List.mem_of_getElem? hy)
 unfold putM
 rw [hg]
 simp only [hb, cond_true]
 unfold setM
 apply List.ext_getElem?
 intro j
 rw [List.getElem?_map, List.getElem?_set]
 obtain ⟨hi, hiy⟩ := List.getElem?_eq_some_iff.1 hy
 by_cases e : i = j
 ·subst e
  rw [if_pos rfl, if_pos hi, hy]
  simp
 ·rw [if_neg e]
  cases hj : l[j]? with
  | none => rfl
  | some z =>
   simp only [Option.map_some, Option.some.injEq]
   refine if_neg (fun hk => ?_)
   obtain ⟨hjl, hjz⟩ := List.getElem?_eq_some_iff.1 hj
   rw [RowM, List.pairwise_iff_getElem] at hr
   rcases Nat.lt_or_gt_of_ne e with hl | hl
   ·have := hr i j hi hjl hl
    rw [hiy, hjz, hk, bk_irrefl] at this
    cases this
   ·have := hr j i hjl hi hl
    rw [hiy, hjz, hk, bk_irrefl] at this
    cases this
def PutL (w w' : World) (v v' : Value) (l : List Mk) (x : Mk) : Prop := (v' = v ∧ onM l x = false) ∨ LM.Mine w' w.heap.size v' (putM l x)
set_option maxHeartbeats 3200000 in
theorem refPutM_any (v : Value) (l : List Mk) (k : Rk) (p : Po) (w : World) (h : LM.Slice w v l) (hr : RowM l) (hl : l.length ≤ 900) :
  Calls Tryz.prog 43 #[v, k.val, p.val] w fun e w' => ∃ v', e = .returned (.tuple #[v', .bool (onM l ⟨k, p⟩)]) ∧ PutL w w' v v' l ⟨k, p⟩ ∧ Below w.heap.size w w' := by
 have HT := Lib.hid (TwoB.start w (.cells #[.string k.room, .string k.user, .string k.thread, .bool k.priv] 97 (0, 0)) (.cells #[.int .i64 p.depth, .string p.id] 83 (0, 0)))
 have HS := Lib.hid h
 have HR := Lib.hid hr
 have HL := Lib.hid hl
 have HGT := Lib.hid (fun W (hh : LM.Slice W v l) => refGetM_any v l k W hh)
 obtain ⟨A, cap, rfl, h1, h2, h3⟩ := id h
 unfold maxLen at h2
 unfold Rk.val at HGT ⊢
 unfold Po.val
 clear h hr h3
 go_enter Tryz.func43, Tryz.ntmps43
 go_upto_region 1 with (fail)
 have H0 := Lib.hid (PuS.mk (HS.out.below HT.out.gr.below) HT.out.tw)
 clear HT
 generalize World.alloc _ _ = w1 at H0 ⊢
 generalize w.heap.size + 1 = B5 at H0 ⊢
 generalize hB4 : w.heap.size = B4 at H0 ⊢
 have b0 : w1.cell? ⟨B4, 0, none⟩ = some (.string k.room) := cell_at H0.out.tw.b1 0
 have b1 : w1.cell? ⟨B4, 1, none⟩ = some (.string k.user) := cell_at H0.out.tw.b1 1
 have b2 : w1.cell? ⟨B4, 2, none⟩ = some (.string k.thread) := cell_at H0.out.tw.b1 2
 have b3 : w1.cell? ⟨B4, 3, none⟩ = some (.bool k.priv) := cell_at H0.out.tw.b1 3
 go_wp2_with fail
 go_at_call 66
 refine (HGT.out _ H0.out.row).mono ?_
 rintro e w2 ⟨rfl, hg⟩
 have H2 := Lib.hid (H0.out.on hg)
 clear hg b0 b1 b2 b3 H0 HGT
 rcases idxM_cases l k with ⟨he, hn⟩ | ⟨i, y, he, hy, hyk, hgy⟩
 ·rw [he]
  have HN := Lib.hid hn
  clear he hn
  go_wp2_with fail
  go_loopw [11] (fun i wr => ∃ a : Nat, i = .int .i64 (a : Int) ∧ a ≤ l.length ∧ Hid (PuS w wr (.slice A l.length cap) l B4 (.cells #[.string k.room, .string k.user, .string k.thread, .bool k.priv] 97 (0, 0)) B5 (.cells #[.int .i64 p.depth, .string p.id] 83 (0, 0))) ∧ Hid (∀ (j : Nat) y, j < a → l[j]? = some y → beforeK y.k k = true)) (fun i _ => l.length - (intOf i).toNat)
  case atStart => exact ⟨0, rfl, Nat.zero_le _, H2, Lib.hid (fun j y hj => by omega)⟩
  case round =>
   obtain ⟨a, rfl, ha, HA, HLT⟩ := hrel
   clear H2
   by_cases hax : a < l.length
   ·have q1 : decide ((a : Int) < (l.length : Int)) = true := decide_eq_true (by omega)
    have hx : l[a]? = some l[a] := List.getElem?_eq_getElem hax
    generalize l[a] = x at hx
    have HX := Lib.hid hx
    obtain ⟨bo, oo, rfl, hbo, hco⟩ := HA.out.row.at hx
    have hiy := index_any (P := Tryz.prog) knM (by decide) (b := bo) (off := oo) (cap := cap) hax
    simp only [LM] at hiy
    clear hx hco
    have HBQ := Lib.hid (fun W => refBk_any x.k k W)
    unfold Rk.val at HBQ
    go_upto_region 11 with (fail)
    refine wp_region_held_drew (S := fun W => PuS w W (.slice (some ⟨bo, oo, none⟩) l.length cap) l B4 (.cells #[.string k.room, .string k.user, .string k.thread, .bool k.priv] 97 (0, 0)) B5 (.cells #[.int .i64 p.depth, .string p.id] 83 (0, 0))) (by kernel_rfl) (HA.out.on ((Gr.refl _).drew)) (fun hHeld => ?_)
    clear HA
    generalize wr.drew = wd at hHeld ⊢
    refine wpAnyH_take (i := 0) (oi := ⟨some 36, _, _, _, _, _⟩) (v := ?vla0) rfl (by kernel_rfl) (by kernel_rfl) (by kernel_rfl) (fun _ _ _ h => h) (Or.inl ⟨by rfl, ?yla0⟩) hHeld ?rla0
    case yla0 =>
     intro wx hSx
     go_simp
     try with_reducible rfl
    try simp only [actS]
    refine wpAnyH_take (i := 1) (oi := ⟨some 37, _, _, _, _, _⟩) (v := ?vla1) rfl (by kernel_rfl) (by kernel_rfl) (by kernel_rfl) (fun _ _ _ h => h) (Or.inl ⟨by rfl, ?yla1⟩) hHeld ?rla1
    case yla1 =>
     intro wx hSx
     go_simp
     try with_reducible rfl
    try simp only [actS]
    refine wpAnyH_take (i := 2) (oi := ⟨some 38, _, _, _, _, _⟩) (v := ?vla2) rfl (by kernel_rfl) (by kernel_rfl) (by kernel_rfl) (fun _ _ _ h => h) (Or.inl ⟨by rfl, ?yla2⟩) hHeld ?rla2
    case yla2 =>
     intro wx hSx
     go_simp
     try with_reducible rfl
    try simp only [actS]
    refine wpAnyH_take (i := 3) (oi := ⟨some 39, _, _, _, _, _⟩) (v := ?vla3) rfl (by kernel_rfl) (by kernel_rfl) (by kernel_rfl) (fun _ _ _ h => h) (Or.inl ⟨by rfl, ?yla3⟩) hHeld ?rla3
    case yla3 =>
     intro wx hSx
     go_simp
     try with_reducible rfl
    try simp only [actS]
    refine wpAnyH_take (i := 4) (oi := ⟨some 40, _, _, _, _, _⟩) (v := ?vla4) rfl (by kernel_rfl) (by kernel_rfl) (by kernel_rfl) (fun _ _ _ h => h) (Or.inl ⟨by rfl, ?yla4⟩) hHeld ?rla4
    case yla4 =>
     intro wx hSx
     go_simp
     try with_reducible rfl
    try simp only [actS]
    refine wpAnyH_take (i := 5) (oi := ⟨some 41, _, _, _, _, _⟩) (v := ?vla5) rfl (by kernel_rfl) (by kernel_rfl) (by kernel_rfl) (fun _ _ _ h => h) (Or.inl ⟨by rfl, ?yla5⟩) hHeld ?rla5
    case yla5 =>
     intro wx hSx
     go_simp
     try with_reducible rfl
    try simp only [actS]
    refine wpAnyH_take (i := 6) (oi := ⟨some 42, _, _, _, _, _⟩) (v := ?vla6) rfl (by kernel_rfl) (by kernel_rfl) (by kernel_rfl) (fun _ _ _ h => h) (Or.inl ⟨by rfl, ?yla6⟩) hHeld ?rla6
    case yla6 =>
     intro wx hSx
     go_simp
     try with_reducible rfl
    try simp only [actS]
    refine wpAnyH_take (i := 7) (oi := ⟨some 43, _, _, _, _, _⟩) (v := ?vla7) rfl (by kernel_rfl) (by kernel_rfl) (by kernel_rfl) (fun _ _ _ h => h) (Or.inl ⟨by rfl, ?yla7⟩) hHeld ?rla7
    case yla7 =>
     intro wx hSx
     go_simp
     try with_reducible rfl
    try simp only [actS]
    refine wpAnyH_take (i := 8) (oi := ⟨some 44, _, _, _, _, _⟩) (v := ?vla8) rfl (by kernel_rfl) (by kernel_rfl) (by kernel_rfl) (fun _ _ _ h => h) (Or.inl ⟨by rfl, ?yla8⟩) hHeld ?rla8
    case yla8 =>
     intro wx hSx
     go_simp
     try with_reducible rfl
    try simp only [actS]
    refine wpAnyH_take (i := 9) (oi := ⟨some 45, _, _, _, _, _⟩) (v := ?vla9) rfl (by kernel_rfl) (by kernel_rfl) (by kernel_rfl) (fun _ _ _ h => h) (Or.inl ⟨by rfl, ?yla9⟩) hHeld ?rla9
    case yla9 =>
     intro wx hSx
     obtain ⟨z0, z1, z2, z3, -, -⟩ := range6 (hSx.row.cells HX.out)
     simp only [LM] at z0 z1 z2 z3
     go_simp
     try with_reducible rfl
    try simp only [actS]
    refine wpAnyH_take (i := 10) (oi := ⟨some 46, _, _, _, _, _⟩) (v := ?vla10) rfl (by kernel_rfl) (by kernel_rfl) (by kernel_rfl) (fun _ _ _ h => h) (Or.inl ⟨by rfl, ?yla10⟩) hHeld ?rla10
    case yla10 =>
     intro wx hSx
     have y0 := cell_at hSx.tw.b1 0
     have y1 := cell_at hSx.tw.b1 1
     have y2 := cell_at hSx.tw.b1 2
     have y3 := cell_at hSx.tw.b1 3
     simp only [List.getElem?_toArray, List.getElem?_cons_succ, List.getElem?_cons_zero] at y0 y1 y2 y3
     go_simp
     try with_reducible rfl
    try simp only [actS]
    refine wpAnyH_ready (rs := [11]) (by kernel_rfl) (by simp) ?_
    refine AllReadyH.cons (o := ⟨some 47, _, _, _, _, _⟩) rfl (fun K hK => ?_) AllReadyH.nil
    go_simp
    refine (HBQ.out _).mono ?_
    rintro e wn ⟨rfl, hgn⟩
    refine hK.out _ _ (hHeld.on hgn) (fun hHeld => ?_)
    clear hK K hgn
    try simp only [actS]
    refine wpAnyH_take (i := 12) (oi := ⟨some 48, _, _, _, _, _⟩) (v := ?vla12) rfl (by kernel_rfl) (by kernel_rfl) (by kernel_rfl) (fun _ _ _ h => h) (Or.inl ⟨by rfl, ?yla12⟩) hHeld ?rla12
    case yla12 =>
     intro wx hSx
     go_simp
     try with_reducible rfl
    try simp only [actS]
    refine wpAnyH_done (by kernel_rfl) ?_ _
    have HH := Lib.hid hHeld
    clear hHeld HBQ
    cases hbk : beforeK x.k k
    ·have HST : Hid (putM l ⟨k, p⟩ = l.take a ++ ([⟨k, p⟩] ++ l.drop a) ∧ onM l ⟨k, p⟩ = true) := Lib.hid (by
      refine ⟨?_, by unfold onM; rw [HN.out]⟩
      unfold putM
      rw [HN.out]
      exact ins_atM (fun j y hj hy => HLT.out j y hj hy) ha (fun y hy => by rw [HX.out] at hy; injection hy with hy; rw [← hy]; exact hbk))
     clear hbk hiy
     have hsz : w.heap.size ≤ wn.heap.size := HH.out.tw.gr.below.size
     have hs1 := slice_high (P := Tryz.prog) knM (some ⟨bo, oo, none⟩) l.length cap a (by omega)
     have hs2 := slice_low (P := Tryz.prog) knM (some ⟨bo, oo, none⟩) l.length cap a (by omega)
     have HS1 := Lib.hid (HS.out.sub 0 a (Nat.zero_le _) ha)
     have HS2 := Lib.hid (HS.out.sub a l.length (by omega) (Nat.le_refl _))
     rw [List.drop_zero] at HS1
     rw [List.take_length] at HS2
     have hl1 : (l.take a).length = a := by rw [List.length_take]; omega
     have hl2 : (l.drop a).length = l.length - a := by rw [List.length_drop]
     obtain ⟨A1, c1, e1, -⟩ := id HS1.out
     obtain ⟨A2, c2, e2, -⟩ := id HS2.out
     rw [hl1] at e1
     rw [hl2] at e2
     rw [e1] at HS1 hs1
     rw [e2] at HS2 hs2
     clear e1 e2
     have HS1n := Lib.hid (HS1.out.below HH.out.tw.gr.below)
     have HS2n := Lib.hid (HS2.out.below HH.out.tw.gr.below)
     go_upto_region 14 with (at_builtin; refine wpList_puts rfl knM (.tmp 51) (.tmp 54) 34 rfl (v := .slice none 0 0) rfl (Lies.Mine.nil (L := LM) wn w.heap.size) hsz (.slice A1 a c1) (l.take a) a hl1 rfl (HS1n.out.srcN knM hl1) (by rw [List.length_nil, Nat.zero_add]; have := HL.out; omega) ?_; rw [List.nil_append, List.length_nil, Nat.zero_add]; intro A5 cap5 w5 m5 g5 o5)
     have HM5 := Lib.hid m5
     have HB5 := Lib.hid (HH.out.tw.gr.below.grown g5 hsz (fun k hk => by cases hk))
     have HK5 := Lib.hid ((g5.block B4 (smem_lt HH.out.tw.b1) (fun e => by cases e)).trans HH.out.tw.b1)
     have HP5 := Lib.hid ((g5.block B5 (smem_lt HH.out.tw.b2) (fun e => by cases e)).trans HH.out.tw.b2)
     have HS25 := Lib.hid (HS2n.out.below (show Below wn.heap.size wn w5 from ⟨g5.os, g5.tape, g5.output, g5.size, fun k hk => g5.block k hk (fun e => by cases e)⟩))
     clear m5 g5 o5 hsz HS1 HS1n HS2n
     have y0 : w5.cell? ⟨B5, 0, none⟩ = some (.int .i64 p.depth) := cell_at HP5.out 0
     have y1 : w5.cell? ⟨B5, 1, none⟩ = some (.string p.id) := cell_at HP5.out 1
     have x0 : w5.cell? ⟨B4, 0, none⟩ = some (.string k.room) := cell_at HK5.out 0
     have x1 : w5.cell? ⟨B4, 1, none⟩ = some (.string k.user) := cell_at HK5.out 1
     have x2 : w5.cell? ⟨B4, 2, none⟩ = some (.string k.thread) := cell_at HK5.out 2
     have x3 : w5.cell? ⟨B4, 3, none⟩ = some (.bool k.priv) := cell_at HK5.out 3
     have hlit := Lib.hid (lit_slice (L := LM) w5 ⟨k, p⟩ w5.heap.size rfl #[.string k.room, .string k.user, .string k.thread, .bool k.priv, .int .i64 p.depth, .string p.id] rfl)
     replace hlit := Lib.hid (show LM.Slice (w5.alloc (.cells #[.string k.room, .string k.user, .string k.thread, .bool k.priv, .int .i64 p.depth, .string p.id] 132)) (.slice (some ⟨w5.heap.size, 0, none⟩) 1 1) [⟨k, p⟩] from hlit.out)
     have hbn := below_new w5 (.cells #[.string k.room, .string k.user, .string k.thread, .bool k.priv, .int .i64 p.depth, .string p.id] 132)
     have HM6 := Lib.hid (HM5.out.below hbn)
     have HB6 := Lib.hid (HB5.out.trans (hbn.mono HB5.out.size))
     have HS26 := Lib.hid (HS25.out.below hbn)
     have hsz6 := HB6.out.size
     clear hbn HM5 HB5 HK5 HP5 HS25
     go_upto_region 15 with (at_builtin; refine wpList_puts rfl knM (.tmp 56) (.tmp 60) 34 rfl (v := .slice A5 a cap5) rfl HM6.out hsz6 (.slice (some ⟨w5.heap.size, 0, none⟩) 1 1) [⟨k, p⟩] 1 rfl rfl (hlit.out.srcN knM rfl) (by rw [hl1]; have := HL.out; omega) ?_; rw [hl1]; intro A7 cap7 w7 m7 g7 o7)
     have HM7 := Lib.hid m7
     have HB7 := Lib.hid (HB6.out.grown g7 hsz6 (fun k hk => (HM6.out.lt k hk).1))
     have HS27 : Hid (LM.Slice w7 (.slice A2 (l.length - a) c2) (l.drop a)) := Lib.hid (HS26.out.stay0 g7.size (fun q hq h0 hv => g7.block q hq (fun e => by
      have h5 := (HM6.out.lt q e.symm).1
      have h6 := HS2.out.foot h0 hv
      omega)))
     have hsz7 := HB7.out.size
     clear m7 g7 o7 hsz6 HM6 HB6 HS26 hlit x0 x1 x2 x3 y0 y1
     have hl7 : (l.take a ++ [(⟨k, p⟩ : Mk)]).length = a + 1 := by rw [List.length_append, hl1]; rfl
     go_wp2_with (at_builtin; refine wpList_puts rfl knM (.tmp 62) (.tmp 65) 34 rfl (v := .slice A7 (a + 1) cap7) rfl HM7.out hsz7 (.slice A2 (l.length - a) c2) (l.drop a) (l.length - a) hl2 rfl (HS27.out.srcN knM hl2) (by rw [hl7]; have := HL.out; omega) ?_; rw [hl7, List.append_assoc]; intro A8 cap8 w8 m8 g8 o8)
     have HM8 := Lib.hid m8
     have HB8 := Lib.hid (HB7.out.grown g8 hsz7 (fun k hk => (HM7.out.lt k hk).1))
     clear m8 g8 o8
     go_wp2_with fail
     refine bodyPost_ret (v := .tuple #[.slice A8 (a + 1 + (l.length - a)) cap8, .bool true]) ?_ rfl ⟨_, by rw [HST.out.2], .inr (by rw [HST.out.1]; exact HM8.out), HB8.out⟩
     simp [results, Tryz.results43, go_sem]
    ·have HLT2 : Hid (∀ (j : Nat) y, j < a + 1 → l[j]? = some y → beforeK y.k k = true) := Lib.hid (fun j y hj hy => by
      by_cases hja : j = a
      ·subst hja
       rw [HX.out] at hy
       injection hy with hy
       rw [← hy]; exact hbk
      ·exact HLT.out j y (by omega) hy)
     clear hbk hiy
     go_wp2_with fail
     refine ⟨⟨a + 1, by go_num, by omega, HH, HLT2⟩, ?_⟩
     simp [intOf]; omega
   ·have q1 : decide ((a : Int) < (l.length : Int)) = false := decide_eq_false (by omega)
    go_upto_region 11 with (fail)
    refine wp_region_held_drew (S := fun W => PuS w W (.slice A l.length cap) l B4 (.cells #[.string k.room, .string k.user, .string k.thread, .bool k.priv] 97 (0, 0)) B5 (.cells #[.int .i64 p.depth, .string p.id] 83 (0, 0))) (by kernel_rfl) (HA.out.on ((Gr.refl _).drew)) (fun hHeld => ?_)
    clear HA
    generalize wr.drew = wd at hHeld ⊢
    refine wpAnyH_take (i := 0) (oi := ⟨some 36, _, _, _, _, _⟩) (v := ?vlb0) rfl (by kernel_rfl) (by kernel_rfl) (by kernel_rfl) (fun _ _ _ h => h) (Or.inl ⟨by rfl, ?ylb0⟩) hHeld ?rlb0
    case ylb0 =>
     intro wx hSx
     go_simp
     try with_reducible rfl
    try simp only [actS]
    refine wpAnyH_take (i := 1) (oi := ⟨some 37, _, _, _, _, _⟩) (v := ?vlb1) rfl (by kernel_rfl) (by kernel_rfl) (by kernel_rfl) (fun _ _ _ h => h) (Or.inl ⟨by rfl, ?ylb1⟩) hHeld ?rlb1
    case ylb1 =>
     intro wx hSx
     go_simp
     try with_reducible rfl
    try simp only [actS]
    refine wpAnyH_take (i := 2) (oi := ⟨some 38, _, _, _, _, _⟩) (v := ?vlb2) rfl (by kernel_rfl) (by kernel_rfl) (by kernel_rfl) (fun _ _ _ h => h) (Or.inl ⟨by rfl, ?ylb2⟩) hHeld ?rlb2
    case ylb2 =>
     intro wx hSx
     go_simp
     try with_reducible rfl
    try simp only [actS]
    refine wpAnyH_take (i := 3) (oi := ⟨some 39, _, _, _, _, _⟩) (v := ?vlb3) rfl (by kernel_rfl) (by kernel_rfl) (by kernel_rfl) (fun _ _ _ h => h) (Or.inl ⟨by rfl, ?ylb3⟩) hHeld ?rlb3
    case ylb3 =>
     intro wx hSx
     go_simp
     try with_reducible rfl
    try simp only [actS]
    refine wpAnyH_take (i := 4) (oi := ⟨some 40, _, _, _, _, _⟩) (v := ?vlb4) rfl (by kernel_rfl) (by kernel_rfl) (by kernel_rfl) (fun _ _ _ h => h) (Or.inl ⟨by rfl, ?ylb4⟩) hHeld ?rlb4
    case ylb4 =>
     intro wx hSx
     go_simp
     try with_reducible rfl
    try simp only [actS]
    refine wpAnyH_take (i := 5) (oi := ⟨some 41, _, _, _, _, _⟩) (v := undef) rfl (by kernel_rfl) (by kernel_rfl) (by kernel_rfl) (fun _ _ _ h => h) (Or.inr ⟨by rfl, rfl⟩) hHeld ?rlb5
    try simp only [actS]
    refine wpAnyH_take (i := 6) (oi := ⟨some 42, _, _, _, _, _⟩) (v := undef) rfl (by kernel_rfl) (by kernel_rfl) (by kernel_rfl) (fun _ _ _ h => h) (Or.inr ⟨by rfl, rfl⟩) hHeld ?rlb6
    try simp only [actS]
    refine wpAnyH_take (i := 7) (oi := ⟨some 43, _, _, _, _, _⟩) (v := undef) rfl (by kernel_rfl) (by kernel_rfl) (by kernel_rfl) (fun _ _ _ h => h) (Or.inr ⟨by rfl, rfl⟩) hHeld ?rlb7
    try simp only [actS]
    refine wpAnyH_take (i := 8) (oi := ⟨some 44, _, _, _, _, _⟩) (v := undef) rfl (by kernel_rfl) (by kernel_rfl) (by kernel_rfl) (fun _ _ _ h => h) (Or.inr ⟨by rfl, rfl⟩) hHeld ?rlb8
    try simp only [actS]
    refine wpAnyH_take (i := 9) (oi := ⟨some 45, _, _, _, _, _⟩) (v := undef) rfl (by kernel_rfl) (by kernel_rfl) (by kernel_rfl) (fun _ _ _ h => h) (Or.inr ⟨by rfl, rfl⟩) hHeld ?rlb9
    try simp only [actS]
    refine wpAnyH_take (i := 10) (oi := ⟨some 46, _, _, _, _, _⟩) (v := undef) rfl (by kernel_rfl) (by kernel_rfl) (by kernel_rfl) (fun _ _ _ h => h) (Or.inr ⟨by rfl, rfl⟩) hHeld ?rlb10
    try simp only [actS]
    refine wpAnyH_take (i := 11) (oi := ⟨some 47, _, _, _, _, _⟩) (v := undef) rfl (by kernel_rfl) (by kernel_rfl) (by kernel_rfl) (fun _ _ _ h => h) (Or.inr ⟨by rfl, rfl⟩) hHeld ?rlb11
    try simp only [actS]
    refine wpAnyH_take (i := 12) (oi := ⟨some 48, _, _, _, _, _⟩) (v := ?vlb12) rfl (by kernel_rfl) (by kernel_rfl) (by kernel_rfl) (fun _ _ _ h => h) (Or.inl ⟨by rfl, ?ylb12⟩) hHeld ?rlb12
    case ylb12 =>
     intro wx hSx
     go_simp
     try with_reducible rfl
    try simp only [actS]
    refine wpAnyH_done (by kernel_rfl) ?_ _
    have HH := Lib.hid hHeld
    have HST : Hid (putM l ⟨k, p⟩ = l.take a ++ ([⟨k, p⟩] ++ l.drop a) ∧ onM l ⟨k, p⟩ = true) := Lib.hid (by
      refine ⟨?_, by unfold onM; rw [HN.out]⟩
      unfold putM
      rw [HN.out]
      exact ins_atM (fun j y hj hy => HLT.out j y hj hy) ha (fun y hy => by have := (List.getElem?_eq_some_iff.1 hy).1; omega))
    clear hHeld
    have hsz : w.heap.size ≤ wd.heap.size := HH.out.tw.gr.below.size
    have hs1 := slice_high (P := Tryz.prog) knM (A) l.length cap a (by omega)
    have hs2 := slice_low (P := Tryz.prog) knM (A) l.length cap a (by omega)
    have HS1 := Lib.hid (HS.out.sub 0 a (Nat.zero_le _) ha)
    have HS2 := Lib.hid (HS.out.sub a l.length (by omega) (Nat.le_refl _))
    rw [List.drop_zero] at HS1
    rw [List.take_length] at HS2
    have hl1 : (l.take a).length = a := by rw [List.length_take]; omega
    have hl2 : (l.drop a).length = l.length - a := by rw [List.length_drop]
    obtain ⟨A1, c1, e1, -⟩ := id HS1.out
    obtain ⟨A2, c2, e2, -⟩ := id HS2.out
    rw [hl1] at e1
    rw [hl2] at e2
    rw [e1] at HS1 hs1
    rw [e2] at HS2 hs2
    clear e1 e2
    have HS1n := Lib.hid (HS1.out.below HH.out.tw.gr.below)
    have HS2n := Lib.hid (HS2.out.below HH.out.tw.gr.below)
    go_upto_region 14 with (at_builtin; refine wpList_puts rfl knM (.tmp 51) (.tmp 54) 34 rfl (v := .slice none 0 0) rfl (Lies.Mine.nil (L := LM) wd w.heap.size) hsz (.slice A1 a c1) (l.take a) a hl1 rfl (HS1n.out.srcN knM hl1) (by rw [List.length_nil, Nat.zero_add]; have := HL.out; omega) ?_; rw [List.nil_append, List.length_nil, Nat.zero_add]; intro A5 cap5 w5 m5 g5 o5)
    have HM5 := Lib.hid m5
    have HB5 := Lib.hid (HH.out.tw.gr.below.grown g5 hsz (fun k hk => by cases hk))
    have HK5 := Lib.hid ((g5.block B4 (smem_lt HH.out.tw.b1) (fun e => by cases e)).trans HH.out.tw.b1)
    have HP5 := Lib.hid ((g5.block B5 (smem_lt HH.out.tw.b2) (fun e => by cases e)).trans HH.out.tw.b2)
    have HS25 := Lib.hid (HS2n.out.below (show Below wd.heap.size wd w5 from ⟨g5.os, g5.tape, g5.output, g5.size, fun k hk => g5.block k hk (fun e => by cases e)⟩))
    clear m5 g5 o5 hsz HS1 HS1n HS2n
    have y0 : w5.cell? ⟨B5, 0, none⟩ = some (.int .i64 p.depth) := cell_at HP5.out 0
    have y1 : w5.cell? ⟨B5, 1, none⟩ = some (.string p.id) := cell_at HP5.out 1
    have x0 : w5.cell? ⟨B4, 0, none⟩ = some (.string k.room) := cell_at HK5.out 0
    have x1 : w5.cell? ⟨B4, 1, none⟩ = some (.string k.user) := cell_at HK5.out 1
    have x2 : w5.cell? ⟨B4, 2, none⟩ = some (.string k.thread) := cell_at HK5.out 2
    have x3 : w5.cell? ⟨B4, 3, none⟩ = some (.bool k.priv) := cell_at HK5.out 3
    have hlit := Lib.hid (lit_slice (L := LM) w5 ⟨k, p⟩ w5.heap.size rfl #[.string k.room, .string k.user, .string k.thread, .bool k.priv, .int .i64 p.depth, .string p.id] rfl)
    replace hlit := Lib.hid (show LM.Slice (w5.alloc (.cells #[.string k.room, .string k.user, .string k.thread, .bool k.priv, .int .i64 p.depth, .string p.id] 132)) (.slice (some ⟨w5.heap.size, 0, none⟩) 1 1) [⟨k, p⟩] from hlit.out)
    have hbn := below_new w5 (.cells #[.string k.room, .string k.user, .string k.thread, .bool k.priv, .int .i64 p.depth, .string p.id] 132)
    have HM6 := Lib.hid (HM5.out.below hbn)
    have HB6 := Lib.hid (HB5.out.trans (hbn.mono HB5.out.size))
    have HS26 := Lib.hid (HS25.out.below hbn)
    have hsz6 := HB6.out.size
    clear hbn HM5 HB5 HK5 HP5 HS25
    go_upto_region 15 with (at_builtin; refine wpList_puts rfl knM (.tmp 56) (.tmp 60) 34 rfl (v := .slice A5 a cap5) rfl HM6.out hsz6 (.slice (some ⟨w5.heap.size, 0, none⟩) 1 1) [⟨k, p⟩] 1 rfl rfl (hlit.out.srcN knM rfl) (by rw [hl1]; have := HL.out; omega) ?_; rw [hl1]; intro A7 cap7 w7 m7 g7 o7)
    have HM7 := Lib.hid m7
    have HB7 := Lib.hid (HB6.out.grown g7 hsz6 (fun k hk => (HM6.out.lt k hk).1))
    have HS27 : Hid (LM.Slice w7 (.slice A2 (l.length - a) c2) (l.drop a)) := Lib.hid (HS26.out.stay0 g7.size (fun q hq h0 hv => g7.block q hq (fun e => by
     have h5 := (HM6.out.lt q e.symm).1
     have h6 := HS2.out.foot h0 hv
     omega)))
    have hsz7 := HB7.out.size
    clear m7 g7 o7 hsz6 HM6 HB6 HS26 hlit x0 x1 x2 x3 y0 y1
    have hl7 : (l.take a ++ [(⟨k, p⟩ : Mk)]).length = a + 1 := by rw [List.length_append, hl1]; rfl
    go_wp2_with (at_builtin; refine wpList_puts rfl knM (.tmp 62) (.tmp 65) 34 rfl (v := .slice A7 (a + 1) cap7) rfl HM7.out hsz7 (.slice A2 (l.length - a) c2) (l.drop a) (l.length - a) hl2 rfl (HS27.out.srcN knM hl2) (by rw [hl7]; have := HL.out; omega) ?_; rw [hl7, List.append_assoc]; intro A8 cap8 w8 m8 g8 o8)
    have HM8 := Lib.hid m8
    have HB8 := Lib.hid (HB7.out.grown g8 hsz7 (fun k hk => (HM7.out.lt k hk).1))
    clear m8 g8 o8
    go_wp2_with fail
    refine bodyPost_ret (v := .tuple #[.slice A8 (a + 1 + (l.length - a)) cap8, .bool true]) ?_ rfl ⟨_, by rw [HST.out.2], .inr (by rw [HST.out.1]; exact HM8.out), HB8.out⟩
    simp [results, Tryz.results43, go_sem]
 ·rw [he]
  have HY := Lib.hid hy
  have HPM := Lib.hid (fun hb => put_setM (p := p) HR.out hy hb)
  have HON : Hid (onM l ⟨k, p⟩ = beforeP y.po p) := Lib.hid (by unfold onM; rw [hgy])
  have hil := (List.getElem?_eq_some_iff.1 hy).1
  rw [hyk] at HPM
  clear he hgy hy
  obtain ⟨bo, oo, rfl, hbo, hco⟩ := H2.out.row.at HY.out
  have hiy := index_any (P := Tryz.prog) knM (by decide) (b := bo) (off := oo) (cap := cap) hil
  simp only [LM] at hiy
  have HBP := Lib.hid (fun W => refBefore_any y.po p W)
  have q1 : decide ((0 : Int) ≤ (i : Int)) = true := decide_eq_true (by omega)
  clear hco
  go_upto_region 4 with (fail)
  refine wp_region_held_drew (S := fun W => PuS w W (.slice (some ⟨bo, oo, none⟩) l.length cap) l B4 (.cells #[.string k.room, .string k.user, .string k.thread, .bool k.priv] 97 (0, 0)) B5 (.cells #[.int .i64 p.depth, .string p.id] 83 (0, 0))) (by kernel_rfl) (H2.out.on ((Gr.refl _).drew)) (fun hHeld => ?_)
  clear H2
  generalize w2.drew = wd at hHeld ⊢
  refine wpAnyH_take (i := 0) (oi := ⟨some 17, _, _, _, _, _⟩) (v := ?vb0) rfl (by kernel_rfl) (by kernel_rfl) (by kernel_rfl) (fun _ _ _ h => h) (Or.inl ⟨by rfl, ?yb0⟩) hHeld ?rb0
  case yb0 =>
   intro wx hSx
   go_simp
   try with_reducible rfl
  try simp only [actS]
  refine wpAnyH_take (i := 1) (oi := ⟨some 18, _, _, _, _, _⟩) (v := ?vb1) rfl (by kernel_rfl) (by kernel_rfl) (by kernel_rfl) (fun _ _ _ h => h) (Or.inl ⟨by rfl, ?yb1⟩) hHeld ?rb1
  case yb1 =>
   intro wx hSx
   go_simp
   try with_reducible rfl
  try simp only [actS]
  refine wpAnyH_take (i := 2) (oi := ⟨some 19, _, _, _, _, _⟩) (v := ?vb2) rfl (by kernel_rfl) (by kernel_rfl) (by kernel_rfl) (fun _ _ _ h => h) (Or.inl ⟨by rfl, ?yb2⟩) hHeld ?rb2
  case yb2 =>
   intro wx hSx
   go_simp
   try with_reducible rfl
  try simp only [actS]
  refine wpAnyH_take (i := 3) (oi := ⟨some 20, _, _, _, _, _⟩) (v := ?vb3) rfl (by kernel_rfl) (by kernel_rfl) (by kernel_rfl) (fun _ _ _ h => h) (Or.inl ⟨by rfl, ?yb3⟩) hHeld ?rb3
  case yb3 =>
   intro wx hSx
   go_simp
   try with_reducible rfl
  try simp only [actS]
  refine wpAnyH_take (i := 4) (oi := ⟨some 21, _, _, _, _, _⟩) (v := ?vb4) rfl (by kernel_rfl) (by kernel_rfl) (by kernel_rfl) (fun _ _ _ h => h) (Or.inl ⟨by rfl, ?yb4⟩) hHeld ?rb4
  case yb4 =>
   intro wx hSx
   obtain ⟨-, -, -, -, z4, z5⟩ := range6 (hSx.row.cells HY.out)
   simp only [LM] at z4 z5
   go_simp
   try with_reducible rfl
  try simp only [actS]
  refine wpAnyH_take (i := 5) (oi := ⟨some 22, _, _, _, _, _⟩) (v := ?vb5) rfl (by kernel_rfl) (by kernel_rfl) (by kernel_rfl) (fun _ _ _ h => h) (Or.inl ⟨by rfl, ?yb5⟩) hHeld ?rb5
  case yb5 =>
   intro wx hSx
   have y0 := cell_at hSx.tw.b2 0
   have y1 := cell_at hSx.tw.b2 1
   simp only [List.getElem?_toArray, List.getElem?_cons_succ, List.getElem?_cons_zero] at y0 y1
   go_simp
   try with_reducible rfl
  try simp only [actS]
  refine wpAnyH_ready (rs := [6]) (by kernel_rfl) (by simp) ?_
  refine AllReadyH.cons (o := ⟨some 23, _, _, _, _, _⟩) rfl (fun K hK => ?_) AllReadyH.nil
  go_simp
  refine (HBP.out _).mono ?_
  rintro e wn ⟨rfl, hgn⟩
  refine hK.out _ _ (hHeld.on hgn) (fun hHeld => ?_)
  clear hK K hgn
  try simp only [actS]
  refine wpAnyH_take (i := 7) (oi := ⟨some 10, _, _, _, _, _⟩) (v := ?vb7) rfl (by kernel_rfl) (by kernel_rfl) (by kernel_rfl) (fun _ _ _ h => h) (Or.inl ⟨by rfl, ?yb7⟩) hHeld ?rb7
  case yb7 =>
   intro wx hSx
   go_simp
   try with_reducible rfl
  try simp only [actS]
  refine wpAnyH_done (by kernel_rfl) ?_ _
  have HH := Lib.hid hHeld
  clear hHeld HBP hiy
  generalize hbb : beforeP y.po p = bb at HON
  cases bb
  ·go_wp2_with fail
   refine bodyPost_ret (v := .tuple #[.slice (some ⟨bo, oo, none⟩) l.length cap, .bool false]) ?_ rfl ⟨_, by rw [HON.out], .inl ⟨rfl, HON.out⟩, HH.out.tw.gr.below⟩
   simp [results, Tryz.results43, go_sem]
  ·have HPL := Lib.hid (HPM.out hbb)
   clear hbb HPM
   have hsz : w.heap.size ≤ wn.heap.size := HH.out.tw.gr.below.size
   go_upto_region 8 with (at_builtin; refine wpList_puts rfl knM (.tmp 27) (.tmp 28) 34 rfl (v := .slice none 0 0) rfl (Lies.Mine.nil (L := LM) wn w.heap.size) hsz (.slice (some ⟨bo, oo, none⟩) l.length cap) l l.length rfl rfl (HH.out.row.srcN knM rfl) (by rw [List.length_nil, Nat.zero_add]; have := HL.out; omega) ?_; rw [List.nil_append, List.length_nil, Nat.zero_add]; intro A5 cap5 w5 m5 g5 o5)
   have HM5 := Lib.hid m5
   have HB5 := Lib.hid (HH.out.tw.gr.below.grown g5 hsz (fun k hk => by cases hk))
   have HP5 := Lib.hid ((g5.block B5 (smem_lt HH.out.tw.b2) (fun e => by cases e)).trans HH.out.tw.b2)
   obtain ⟨b6, o6, rfl⟩ : ∃ b6 o6, A5 = some ⟨b6, o6, none⟩ := by
    rcases m5 with ⟨hv, _⟩ | ⟨b6, o6, _, _, hv, _⟩
    ·injection hv with _ e _
     omega
    ·injection hv with e _ _
     exact ⟨b6, o6, e⟩
   clear m5 g5 o5 hsz
   have hiz := index_any (P := Tryz.prog) knM (by decide) (b := b6) (off := o6) (cap := cap5) hil
   have hth := HM5.out.there (i := i) hil
   have hca := HM5.out.slice.cells HY.out
   simp only [LM] at hiz hth hca
   obtain ⟨-, -, -, -, r4, r5⟩ := range6 hca
   have z4 := (hth 4 (by omega)).2
   have z5 := (hth 5 (by omega)).2
   have y0 : w5.cell? ⟨B5, 0, none⟩ = some (.int .i64 p.depth) := cell_at HP5.out 0
   have y1 : w5.cell? ⟨B5, 1, none⟩ = some (.string p.id) := cell_at HP5.out 1
   obtain ⟨hm6, hg6⟩ := mine_setPo HM5.out HY.out p
   rw [hyk, ← HPL.out] at hm6
   have HM6 := Lib.hid hm6
   have HB6 := Lib.hid (HB5.out.grown hg6 HB5.out.size (fun q hq => by injection hq with hq; have := (HM5.out.lt b6 rfl).1; omega))
   clear hth hca hm6 hg6
   go_wp2_with fail
   refine bodyPost_ret (v := .tuple #[.slice (some ⟨b6, o6, none⟩) l.length cap5, .bool true]) ?_ rfl ⟨_, by rw [HON.out], .inr HM6.out, HB6.out⟩
   simp [results, Tryz.results43, go_sem]
end Go.Proofs.YtnnapkakbdpkaaaGreat

namespace Go.Proofs.YtnnapkakbdpkaaaGreat
set_option maxRecDepth 20000
open Go.RowKit
section
variable {w w' wr : World} {B b : Nat} {v v' : Value} {p p' : Pk} {ts ts' : List Th} {t : Th}
end
set_option maxHeartbeats 800000 in
theorem pkLost_any {w : World} {B b : Nat} {v : Value} {p : Pk} (h : CPk w B b v p) : Calls Tryz.prog 186 #[.pointer (some ⟨b, 0, none⟩)] w fun e w' => e = .returned (.int .i64 (p.lost : Int)) ∧ Below w.heap.size w w' := by
 have c0 := cell_at h.hd 0
 have c1 := cell_at h.hd 1
 have c2 := cell_at h.hd 2
 simp only [List.getElem?_toArray, List.getElem?_cons_succ, List.getElem?_cons_zero] at c0 c1 c2
 clear h
 go_enter Tryz.func186, Tryz.ntmps186
 go_wp2_with fail
 go_ret
 exact ⟨rfl, Below.refl _ _⟩
end Go.Proofs.YtnnapkakbdpkaaaGreat
