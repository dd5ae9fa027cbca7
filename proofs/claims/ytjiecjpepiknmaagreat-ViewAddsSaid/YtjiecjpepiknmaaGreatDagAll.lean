/-
  The document's All: events by their positions.
-/
import Derived.Test.YtjiecjpepiknmaaGreatDagPos
namespace Go.Proofs.YtjiecjpepiknmaaGreat
set_option maxRecDepth 20000
open Go.RowKit
set_option linter.unusedVariables false
set_option linter.unusedSimpArgs false

/-- An event is put where it belongs. -/
def insP (l : List Ev) (e : Ev) : List Ev → List Ev
  | [] => [e]
  | y :: r => bif beforeP (posL l y.id) (posL l e.id) then y :: insP l e r else e :: y :: r
def allTo (l : List Ev) (n : Nat) : List Ev := (l.take n).foldl (fun out e => insP l e out) []
def allL (l : List Ev) : List Ev := l.foldl (fun out e => insP l e out) []
theorem allTo_succ {l : List Ev} {n : Nat} {e : Ev} (h : l[n]? = some e) : allTo l (n + 1) = insP l e (allTo l n) := by
  unfold allTo
  rw [List.take_add_one, h, List.foldl_append]
  rfl
theorem allTo_all (l : List Ev) : allTo l l.length = allL l := by
  unfold allTo allL
  rw [List.take_length]
theorem insP_at {l : List Ev} {e : Ev} : ∀ {out : List Ev} {i : Nat}, (∀ (j : Nat) y, j < i → out[j]? = some y → beforeP (posL l y.id) (posL l e.id) = true) → i ≤ out.length → (∀ y, out[i]? = some y → beforeP (posL l y.id) (posL l e.id) = false) → insP l e out = out.take i ++ (e :: out.drop i)
  | [], i, _, hi, _ => by
    obtain rfl : i = 0 := by simpa using hi
    rfl
  | y :: r, 0, _, _, h => by
    unfold insP
    rw [h y rfl]
    rfl
  | y :: r, i + 1, h, hi, hs => by
    unfold insP
    rw [h 0 y (by omega) rfl, cond_true, insP_at (out := r) (i := i) (fun j z hj hz => h (j + 1) z (by omega) hz) (by simpa using hi) (fun z hz => hs z hz)]
    rfl
theorem insP_len (l : List Ev) (e : Ev) : ∀ out : List Ev, (insP l e out).length = out.length + 1
  | [] => rfl
  | y :: r => by
    unfold insP
    cases beforeP (posL l y.id) (posL l e.id)
    · rfl
    · simp [insP_len l e r]
/-- While events are put in their row. -/
structure AllS (w wr : World) (B2 : Nat) (room : ByteArray) (v : Value) (xs ys : List EvV) (out : Value) : Prop where
  box : wr.heap[B2]? = some (.cells #[.string room, v] 36 (0, 0))
  below : Below w.heap.size w wr
  row : LV.Mine wr w.heap.size out ys
  mem : ∀ y ∈ ys, y ∈ xs
theorem AllS.on {w wr w2 : World} {B2 : Nat} {room : ByteArray} {v : Value} {xs ys : List EvV} {out : Value} (h : AllS w wr B2 room v xs ys out) (hb : Below wr.heap.size wr w2) : AllS w w2 B2 room v xs ys out :=
  ⟨(hb.block B2 (smem_lt h.box)).trans h.box, h.below.trans (hb.mono h.below.size), h.row.below hb, h.mem⟩

set_option maxHeartbeats 1600000 in
theorem refAll_any (room : ByteArray) (v : Value) (xs : List EvV) (w : World) (h : EvsS w v xs) (hv : Valid room (evs xs)) (hl : xs.length ≤ 1000) :
    Calls Tryz.prog 16 #[.agg #[.string room, v]] w fun e w' => ∃ v' ys, e = .returned v' ∧ LV.Mine w' w.heap.size v' ys ∧ evs ys = allL (evs xs) ∧ (∀ y ∈ ys, y ∈ xs) ∧ Below w.heap.size w w' := by
  obtain ⟨A, cap, rfl, h1, h2, h3, _⟩ := id h.1
  unfold maxLen at h2
  have HS : Hid (AllS w (w.alloc (.cells #[.string room, .slice A xs.length cap] 36)) w.heap.size room (.slice A xs.length cap) xs [] (.slice none 0 0)) := Lib.hid ⟨heap_alloc_new w _, below_new w _, .inl ⟨rfl, rfl⟩, fun y hy => by cases hy⟩
  have HE := Lib.hid h
  have HV := Lib.hid hv
  have mixed : Tryz.prog.follows .mixedOrders = true := by kernel_rfl
  clear h h3 hv
  go_enter Tryz.func16, Tryz.ntmps16
  go_wp2_with fail
  generalize w.alloc _ = w1 at HS ⊢
  generalize w.heap.size = B2 at HS ⊢
  go_loopw [3, 4] (fun u i wr => ∃ (a : Nat) (ys : List EvV) (Ao : Option Addr) (co : Nat), u = .slice Ao ys.length co ∧ i = .int .i64 (a : Int) ∧ a ≤ xs.length ∧ ys.length = a ∧ Hid (AllS w wr B2 room (.slice A xs.length cap) xs ys u) ∧ Hid (evs ys = allTo (evs xs) a)) (fun _ i _ => xs.length - (intOf i).toNat)
  case atStart => exact ⟨0, [], none, 0, rfl, rfl, Nat.zero_le _, rfl, HS, Lib.hid rfl⟩
  case round =>
    obtain ⟨a, ys, Ao, co, rfl, rfl, ha, hya, HO, HY⟩ := hrel
    have HYA := Lib.hid hya
    have hyl : ys.length ≤ 1000 := by omega
    clear HS hya
    obtain ⟨Az, cz, hz, hz1, hz2, _⟩ := HO.out.row.shape
    injection hz with hz3 hz4 hz5
    subst hz3 hz5
    unfold maxLen at hz2
    have c1 : wr.cell? ⟨B2, 1, none⟩ = some (.slice A xs.length cap) := cell_at HO.out.box 1
    by_cases hax : a < xs.length
    · have q1 : decide ((a : Int) < (xs.length : Int)) = true := decide_eq_true (by omega)
      have hx : xs[a]? = some xs[a] := List.getElem?_eq_getElem hax
      generalize xs[a] = x at hx
      have Hxe := Lib.hid (evs_get hx)
      have HXM := Lib.hid (List.mem_of_getElem? hx)
      obtain ⟨b, off, rfl, hb, hr⟩ := ev_at HE.out hx
      have HRG := Lib.hid hr
      have hix := index_any (P := Tryz.prog) knV (by decide) (b := b) (off := off) (cap := cap) hax
      simp only [LV] at hix
      clear hx hr hz4
      go_wp2_with fail
      go_loopw [5] (fun kk wz => ∃ c : Nat, c ≤ ys.length ∧ kk = .int .i64 (c : Int) ∧ Hid (AllS w wz B2 room (.slice (some ⟨b, off, none⟩) xs.length cap) xs ys (.slice Ao ys.length co)) ∧ Hid (∀ (j : Nat) y, j < c → (evs ys)[j]? = some y → beforeP (posL (evs xs) y.id) (posL (evs xs) x.ev.id) = true)) (fun kk _ => ys.length - (intOf kk).toNat)
      case atStart => exact ⟨0, Nat.zero_le _, rfl, HO, Lib.hid (fun j y hj _ => absurd hj (Nat.not_lt_zero j))⟩
      case round =>
        obtain ⟨c, hc, rfl, HA, HJ⟩ := hrel
        clear HO c1
        by_cases hcl : c < ys.length
        · have q2 : decide ((c : Int) < (ys.length : Int)) = true := decide_eq_true (by omega)
          have hy : ys[c]? = some ys[c] := List.getElem?_eq_getElem hcl
          generalize ys[c] = y at hy
          have Hye := Lib.hid (evs_get hy)
          obtain ⟨bo, oo, rfl, hbo, hro⟩ := HA.out.row.slice.at hy
          have hiy := index_any (P := Tryz.prog) knV (by decide) (b := bo) (off := oo) (cap := co) hcl
          simp only [LV] at hiy hro
          have y0 := fun q os => cell_grown (w := wr) (a := ⟨bo, oo + c * 6, none⟩) hbo (hro 0 _ rfl) q os
          have xw : wr.cell? ⟨b, off + a * 6, none⟩ = some (.string x.ev.id) := (HA.out.below.cell (p := ⟨b, off + a * 6, none⟩) hb).trans (HRG.out 0 _ rfl)
          have x0 := fun q os => cell_grown (w := wr) (a := ⟨b, off + a * 6, none⟩) (Nat.lt_of_lt_of_le hb HA.out.below.size) xw q os
          have b0 := fun q os => cell_grown (w := wr) (a := ⟨B2, 0, none⟩) (smem_lt HA.out.box) (cell_at HA.out.box 0) q os
          have b1 := fun q os => cell_grown (w := wr) (a := ⟨B2, 1, none⟩) (smem_lt HA.out.box) (cell_at HA.out.box 1) q os
          have hpos := fun key q os => refPosition_any room key (.slice (some ⟨b, off, none⟩) xs.length cap) xs (Sort.grow (wr.drewN q) os) ((HE.out.below HA.out.below).below (Gr.below ⟨q, os, rfl⟩)) HV.out hl
          have hbef := fun q os => refBefore_any (posL (evs xs) y.ev.id) (posL (evs xs) x.ev.id) (Sort.grow (wr.drewN q) os)
          clear hy hro xw
          go_upto_region 6 with (fail)
          go_quiet_grown (first | (go_at_call 58; exact Calls.grown_of (hpos _ _ _)) | (go_at_call 57; exact Calls.grown_of (hbef _ _)))
          replace HA := Lib.hid (HA.out.on (Gr.below ⟨(GrownBy.mk nq osq).n, (GrownBy.mk nq osq).os, rfl⟩))
          clear y0 x0 b0 b1 hpos hbef hiy
          generalize Sort.grow _ _ = w4 at HA ⊢
          cases hbb : beforeP (posL (evs xs) y.ev.id) (posL (evs xs) x.ev.id)
          · have HSTOP : Hid (∀ z, (evs ys)[c]? = some z → beforeP (posL (evs xs) z.id) (posL (evs xs) x.ev.id) = false) := Lib.hid (fun z hz => by
              rw [Hye.out] at hz
              injection hz with hz
              rw [← hz]
              exact hbb)
            have hlc : c ≤ co := by omega
            have hs1 := slice_high (P := Tryz.prog) knV (some ⟨bo, oo, none⟩) ys.length co c hlc
            have hs2 := slice_low (P := Tryz.prog) knV (some ⟨bo, oo, none⟩) ys.length co c hc
            have M1 := Lib.hid (HA.out.row.sub 0 c (Nat.zero_le _) hc).slice
            have M2 := Lib.hid (HA.out.row.sub c ys.length hc (Nat.le_refl _)).slice
            rw [List.drop_zero] at M1
            rw [List.take_length] at M2
            generalize sliced (some ⟨bo, oo, none⟩) 0 c co LV.c = V1 at hs1 M1
            generalize sliced (some ⟨bo, oo, none⟩) c ys.length co LV.c = V2 at hs2 M2
            have L1 : Hid ((ys.take c).length = c) := Lib.hid (by rw [List.length_take]; omega)
            have L2 : Hid ((ys.drop c).length = ys.length - c) := Lib.hid (by rw [List.length_drop])
            have L3 : Hid ((ys.take c ++ [x]).length = c + 1) := Lib.hid (by rw [List.length_append, L1.out]; rfl)
            have HIN : Hid (evs (ys.take c ++ [x] ++ ys.drop c) = allTo (evs xs) (a + 1)) := Lib.hid (by
              rw [allTo_succ Hxe.out, ← HY.out, insP_at (i := c) HJ.out (by rw [evs_len]; exact hc) HSTOP.out]
              simp [evs])
            have HLN : Hid ((ys.take c ++ [x] ++ ys.drop c).length = a + 1) := Lib.hid (by have := HYA.out; rw [List.length_append, L3.out, L2.out]; omega)
            have HMM : Hid (∀ y ∈ ys.take c ++ [x] ++ ys.drop c, y ∈ xs) := Lib.hid (fun y hy => by
              rcases List.mem_append.1 hy with hy | hy
              · rcases List.mem_append.1 hy with hy | hy
                · exact HA.out.mem y (List.mem_of_mem_take hy)
                · rw [List.mem_singleton.1 hy]; exact HXM.out
              · exact HA.out.mem y (List.mem_of_mem_drop hy))
            go_upto_region 10 with (at_builtin; refine wpList_puts rfl knV (.tmp 38) (.tmp 41) 23 rfl (v := .slice none 0 0) rfl (Lies.Mine.nil w4 w4.heap.size) (Nat.le_refl _) V1 (ys.take c) c L1.out rfl (M1.out.srcN knV L1.out) (by simp only [List.length_nil, Nat.zero_add]; omega) ?_; simp only [List.length_nil, Nat.zero_add, List.nil_append]; intro A5 cap5 w5 m5 g5 o5; have hb5 : Below w4.heap.size w4 w5 := (Below.refl _ _).grown g5 (Nat.le_refl _) (fun k hk => by cases hk); have M5 := Lib.hid m5; have B5 := Lib.hid hb5; have H5 := Lib.hid (HA.out.on hb5); clear m5 g5 o5 hb5)
            clear hs1 M1
            have d1 : w5.cell? ⟨B2, 1, none⟩ = some (.slice (some ⟨b, off, none⟩) xs.length cap) := cell_at H5.out.box 1
            obtain ⟨e0, e1, e2, e3, e4, e5⟩ := ev_cells (fun j u hu => (H5.out.below.cell (p := ⟨b, off + a * 6 + j, none⟩) hb).trans (HRG.out j u hu))
            have hbv := build_ev x
            have hlit := Lib.hid (lit_slice (L := LV) w5 x w5.heap.size rfl x.cells.toArray rfl)
            replace hlit := Lib.hid (show LV.Slice (w5.alloc (.cells x.cells.toArray 33)) (.slice (some ⟨w5.heap.size, 0, none⟩) 1 1) [x] from hlit.out)
            have hb6 := below_new w5 (.cells x.cells.toArray 33)
            have M6 := Lib.hid (M5.out.below hb6)
            have B6 := Lib.hid (B5.out.trans (hb6.mono B5.out.size))
            have hsz6 : w4.heap.size ≤ (w5.alloc (.cells x.cells.toArray 33)).heap.size := B6.out.size
            clear hb6 H5
            unfold EvV.val at hbv
            go_upto_region 11 with (at_builtin; refine wpList_puts rfl knV (.tmp 43) (.tmp 49) 23 rfl (v := .slice A5 c cap5) rfl M6.out hsz6 (.slice (some ⟨w5.heap.size, 0, none⟩) 1 1) [x] 1 rfl rfl (hlit.out.srcN knV rfl) (by rw [L1.out]; omega) ?_; rw [L1.out]; intro A7 cap7 w7 m7 g7 o7; have M7 := Lib.hid m7; have B7 := Lib.hid (B6.out.grown g7 hsz6 (fun k hk => (M6.out.lt k hk).1)); clear m7 g7 o7)
            clear d1 e0 e1 e2 e3 e4 e5 hbv hlit M5 B5 M6
            have HL4 : Hid ((ys.take c ++ [x] ++ ys.drop c).length = c + 1 + (ys.length - c)) := Lib.hid (by rw [List.length_append, L3.out, L2.out])
            have hsz7 := B7.out.size
            have S2 := Lib.hid (M2.out.below B7.out)
            go_wp2_with (at_builtin; refine wpList_puts rfl knV (.tmp 51) (.tmp 54) 23 rfl (v := .slice A7 (c + 1) cap7) rfl M7.out hsz7 V2 (ys.drop c) (ys.length - c) L2.out rfl (S2.out.srcN knV L2.out) (by rw [L3.out]; omega) ?_; rw [L3.out]; intro A8 cap8 w8 m8 g8 o8; have M8 := Lib.hid m8; have B8 := Lib.hid (B7.out.grown g8 hsz7 (fun k hk => (M7.out.lt k hk).1)); clear m8 g8 o8)
            refine ⟨⟨a + 1, ys.take c ++ [x] ++ ys.drop c, A8, cap8, by rw [HL4.out], by go_num, by omega, HLN.out, Lib.hid ⟨(B8.out.block B2 (smem_lt HA.out.box)).trans HA.out.box, HA.out.below.trans (B8.out.mono HA.out.below.size), M8.out.mono HA.out.below.size, HMM.out⟩, HIN⟩, ?_⟩
            simp [intOf]; omega
          · have HJ2 : Hid (∀ (j : Nat) z, j < c + 1 → (evs ys)[j]? = some z → beforeP (posL (evs xs) z.id) (posL (evs xs) x.ev.id) = true) := Lib.hid (fun j z hj hz => by
              by_cases hjc : j < c
              · exact HJ.out j z hjc hz
              · obtain rfl : j = c := by omega
                rw [Hye.out] at hz
                injection hz with hz
                rw [← hz]
                exact hbb)
            go_wp2_with fail
            refine ⟨⟨c + 1, by omega, by go_num, HA, HJ2⟩, ?_⟩
            simp [intOf]; omega
        · have q2 : decide ((c : Int) < (ys.length : Int)) = false := decide_eq_false (by omega)
          go_upto_region 6 with (fail)
          go_quiet (fail)
          replace HA := Lib.hid (HA.out.on ((Gr.refl _).drewN nq).below)
          generalize World.drewN _ _ = w4 at HA ⊢
          have HSTOP : Hid (∀ z, (evs ys)[c]? = some z → beforeP (posL (evs xs) z.id) (posL (evs xs) x.ev.id) = false) := Lib.hid (fun z hz => by
            have h9 := (List.getElem?_eq_some_iff.1 hz).1
            rw [evs_len] at h9
            omega)
          have hlc : c ≤ co := by omega
          have hs1 := slice_high (P := Tryz.prog) knV Ao ys.length co c hlc
          have hs2 := slice_low (P := Tryz.prog) knV Ao ys.length co c hc
          have M1 := Lib.hid (HA.out.row.sub 0 c (Nat.zero_le _) hc).slice
          have M2 := Lib.hid (HA.out.row.sub c ys.length hc (Nat.le_refl _)).slice
          rw [List.drop_zero] at M1
          rw [List.take_length] at M2
          generalize sliced Ao 0 c co LV.c = V1 at hs1 M1
          generalize sliced Ao c ys.length co LV.c = V2 at hs2 M2
          have L1 : Hid ((ys.take c).length = c) := Lib.hid (by rw [List.length_take]; omega)
          have L2 : Hid ((ys.drop c).length = ys.length - c) := Lib.hid (by rw [List.length_drop])
          have L3 : Hid ((ys.take c ++ [x]).length = c + 1) := Lib.hid (by rw [List.length_append, L1.out]; rfl)
          have HIN : Hid (evs (ys.take c ++ [x] ++ ys.drop c) = allTo (evs xs) (a + 1)) := Lib.hid (by
            rw [allTo_succ Hxe.out, ← HY.out, insP_at (i := c) HJ.out (by rw [evs_len]; exact hc) HSTOP.out]
            simp [evs])
          have HLN : Hid ((ys.take c ++ [x] ++ ys.drop c).length = a + 1) := Lib.hid (by have := HYA.out; rw [List.length_append, L3.out, L2.out]; omega)
          have HMM : Hid (∀ y ∈ ys.take c ++ [x] ++ ys.drop c, y ∈ xs) := Lib.hid (fun y hy => by
            rcases List.mem_append.1 hy with hy | hy
            · rcases List.mem_append.1 hy with hy | hy
              · exact HA.out.mem y (List.mem_of_mem_take hy)
              · rw [List.mem_singleton.1 hy]; exact HXM.out
            · exact HA.out.mem y (List.mem_of_mem_drop hy))
          go_upto_region 10 with (at_builtin; refine wpList_puts rfl knV (.tmp 38) (.tmp 41) 23 rfl (v := .slice none 0 0) rfl (Lies.Mine.nil w4 w4.heap.size) (Nat.le_refl _) V1 (ys.take c) c L1.out rfl (M1.out.srcN knV L1.out) (by simp only [List.length_nil, Nat.zero_add]; omega) ?_; simp only [List.length_nil, Nat.zero_add, List.nil_append]; intro A5 cap5 w5 m5 g5 o5; have hb5 : Below w4.heap.size w4 w5 := (Below.refl _ _).grown g5 (Nat.le_refl _) (fun k hk => by cases hk); have M5 := Lib.hid m5; have B5 := Lib.hid hb5; have H5 := Lib.hid (HA.out.on hb5); clear m5 g5 o5 hb5)
          clear hs1 M1
          have d1 : w5.cell? ⟨B2, 1, none⟩ = some (.slice (some ⟨b, off, none⟩) xs.length cap) := cell_at H5.out.box 1
          obtain ⟨e0, e1, e2, e3, e4, e5⟩ := ev_cells (fun j u hu => (H5.out.below.cell (p := ⟨b, off + a * 6 + j, none⟩) hb).trans (HRG.out j u hu))
          have hbv := build_ev x
          have hlit := Lib.hid (lit_slice (L := LV) w5 x w5.heap.size rfl x.cells.toArray rfl)
          replace hlit := Lib.hid (show LV.Slice (w5.alloc (.cells x.cells.toArray 33)) (.slice (some ⟨w5.heap.size, 0, none⟩) 1 1) [x] from hlit.out)
          have hb6 := below_new w5 (.cells x.cells.toArray 33)
          have M6 := Lib.hid (M5.out.below hb6)
          have B6 := Lib.hid (B5.out.trans (hb6.mono B5.out.size))
          have hsz6 : w4.heap.size ≤ (w5.alloc (.cells x.cells.toArray 33)).heap.size := B6.out.size
          clear hb6 H5
          unfold EvV.val at hbv
          go_upto_region 11 with (at_builtin; refine wpList_puts rfl knV (.tmp 43) (.tmp 49) 23 rfl (v := .slice A5 c cap5) rfl M6.out hsz6 (.slice (some ⟨w5.heap.size, 0, none⟩) 1 1) [x] 1 rfl rfl (hlit.out.srcN knV rfl) (by rw [L1.out]; omega) ?_; rw [L1.out]; intro A7 cap7 w7 m7 g7 o7; have M7 := Lib.hid m7; have B7 := Lib.hid (B6.out.grown g7 hsz6 (fun k hk => (M6.out.lt k hk).1)); clear m7 g7 o7)
          clear d1 e0 e1 e2 e3 e4 e5 hbv hlit M5 B5 M6
          have HL4 : Hid ((ys.take c ++ [x] ++ ys.drop c).length = c + 1 + (ys.length - c)) := Lib.hid (by rw [List.length_append, L3.out, L2.out])
          have hsz7 := B7.out.size
          have S2 := Lib.hid (M2.out.below B7.out)
          go_wp2_with (at_builtin; refine wpList_puts rfl knV (.tmp 51) (.tmp 54) 23 rfl (v := .slice A7 (c + 1) cap7) rfl M7.out hsz7 V2 (ys.drop c) (ys.length - c) L2.out rfl (S2.out.srcN knV L2.out) (by rw [L3.out]; omega) ?_; rw [L3.out]; intro A8 cap8 w8 m8 g8 o8; have M8 := Lib.hid m8; have B8 := Lib.hid (B7.out.grown g8 hsz7 (fun k hk => (M7.out.lt k hk).1)); clear m8 g8 o8)
          refine ⟨⟨a + 1, ys.take c ++ [x] ++ ys.drop c, A8, cap8, by rw [HL4.out], by go_num, by omega, HLN.out, Lib.hid ⟨(B8.out.block B2 (smem_lt HA.out.box)).trans HA.out.box, HA.out.below.trans (B8.out.mono HA.out.below.size), M8.out.mono HA.out.below.size, HMM.out⟩, HIN⟩, ?_⟩
          simp [intOf]; omega
    · have q1 : decide ((a : Int) < (xs.length : Int)) = false := decide_eq_false (by omega)
      obtain rfl : a = xs.length := by omega
      have HF : Hid (evs ys = allL (evs xs)) := Lib.hid (by rw [HY.out, ← evs_len xs, allTo_all])
      go_wp2_with fail
      go_ret
      exact ⟨_, rfl, ys, HO.out.row, HF.out, HO.out.mem, HO.out.below⟩
end Go.Proofs.YtjiecjpepiknmaaGreat
