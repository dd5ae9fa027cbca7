/-
  The document's Heads: events that are no parent.
-/
import Derived.Test.YtjiecjpepiknmaaGreatDagAll
namespace Go.Proofs.YtjiecjpepiknmaaGreat
set_option maxRecDepth 20000
open Go.RowKit
set_option linter.unusedVariables false
set_option linter.unusedSimpArgs false

def headTo (l : List Ev) (k : ByteArray) (n : Nat) : Bool := (l.take n).all (fun e => e.parents.all (fun p => !decide (p = k)))
def isHead (l : List Ev) (k : ByteArray) : Bool := l.all (fun e => e.parents.all (fun p => !decide (p = k)))
theorem headTo_all (l : List Ev) (k : ByteArray) : headTo l k l.length = isHead l k := by
  unfold headTo isHead
  rw [List.take_length]
def headJ (l : List Ev) (k : ByteArray) (n : Nat) (e : Ev) (j : Nat) : Bool := headTo l k n && (e.parents.take j).all (fun p => !decide (p = k))
theorem headJ_zero (l : List Ev) (k : ByteArray) (n : Nat) (e : Ev) : headJ l k n e 0 = headTo l k n := by
  unfold headJ
  simp
theorem headJ_all {l : List Ev} {k : ByteArray} {n : Nat} {e : Ev} (h : l[n]? = some e) : headJ l k n e e.parents.length = headTo l k (n + 1) := by
  unfold headJ headTo
  rw [List.take_length, List.take_add_one, h, List.all_append]
  simp
theorem headJ_succ {l : List Ev} {k p : ByteArray} {n j : Nat} {e : Ev} (h : e.parents[j]? = some p) : headJ l k n e (j + 1) = (headJ l k n e j && !decide (p = k)) := by
  unfold headJ
  rw [List.take_add_one, h, List.all_append, Bool.and_assoc]
  simp
def headsTo (l a : List Ev) (n : Nat) : List ByteArray := ((a.take n).filter (fun e => isHead l e.id)).map Ev.id
def headsL (l : List Ev) : List ByteArray := ((allL l).filter (fun e => isHead l e.id)).map Ev.id
theorem headsTo_yes {l a : List Ev} {n : Nat} {e : Ev} (h : a[n]? = some e) (hh : isHead l e.id = true) : headsTo l a (n + 1) = headsTo l a n ++ [e.id] := by
  unfold headsTo
  rw [List.take_add_one, h, List.filter_append, List.map_append]
  simp [hh]
theorem headsTo_no {l a : List Ev} {n : Nat} {e : Ev} (h : a[n]? = some e) (hh : isHead l e.id = false) : headsTo l a (n + 1) = headsTo l a n := by
  unfold headsTo
  rw [List.take_add_one, h, List.filter_append, List.map_append]
  simp [hh]
theorem headsTo_len (l a : List Ev) (n : Nat) : (headsTo l a n).length ≤ n := by
  unfold headsTo
  rw [List.length_map]
  refine Nat.le_trans (List.length_filter_le _ _) ?_
  rw [List.length_take]
  omega
theorem headsTo_all (l : List Ev) : headsTo l (allL l) (allL l).length = headsL l := by
  unfold headsTo headsL
  rw [List.take_length]
theorem allL_len (l : List Ev) : (allL l).length = l.length := by
  have key : ∀ (r out : List Ev), (r.foldl (fun out e => insP l e out) out).length = out.length + r.length := by
    intro r
    induction r with
    | nil => intro out; rfl
    | cons x r ih => intro out; rw [List.foldl_cons, ih, insP_len, List.length_cons]; omega
  have := key l []
  simpa [allL] using this
/-- While heads are told. -/
structure HdS (w wr : World) (out : Value) (ts : List ByteArray) : Prop where
  below : Below w.heap.size w wr
  row : LT.Mine wr w.heap.size out ts
theorem HdS.on {w wr w2 : World} {ts : List ByteArray} {out : Value} (h : HdS w wr out ts) (hb : Below wr.heap.size wr w2) : HdS w w2 out ts :=
  ⟨h.below.trans (hb.mono h.below.size), h.row.below hb⟩

set_option maxHeartbeats 1600000 in
theorem refHeads_any (room : ByteArray) (v : Value) (xs : List EvV) (w : World) (h : EvsS w v xs) (hv : Valid room (evs xs)) (hl : xs.length ≤ 1000) :
    Calls Tryz.prog 19 #[.agg #[.string room, v]] w fun e w' => ∃ v', e = .returned v' ∧ LT.Mine w' w.heap.size v' (headsL (evs xs)) ∧ Below w.heap.size w w' := by
  obtain ⟨A, cap, rfl, h1, h2, h3, _⟩ := id h.1
  unfold maxLen at h2
  have HBX := Lib.hid (heap_alloc_new w (.cells #[.string room, .slice A xs.length cap] 36))
  have HBL := Lib.hid (below_new w (.cells #[.string room, .slice A xs.length cap] 36))
  have HE := Lib.hid h
  have HV := Lib.hid hv
  have mixed : Tryz.prog.follows .mixedOrders = true := by kernel_rfl
  clear h h3 hv
  go_enter Tryz.func19, Tryz.ntmps19
  go_upto_region 1 with (fail)
  generalize w.alloc _ = w1 at HBX HBL ⊢
  generalize hB2 : w.heap.size = B2 at HBX ⊢
  have c0 : w1.cell? ⟨B2, 0, none⟩ = some (.string room) := cell_at HBX.out 0
  have c1 : w1.cell? ⟨B2, 1, none⟩ = some (.slice A xs.length cap) := cell_at HBX.out 1
  go_upto_region 2 with (go_at_call 16; refine (refAll_any room _ xs w1 (HE.out.below HBL.out) HV.out hl).mono ?_; rintro e w2 ⟨v2, ys, rfl, m2, hy2, _, b2⟩; have M2 := Lib.hid (m2.mono HBL.out.size); have HY := Lib.hid hy2; have HB2 := Lib.hid ((b2.block B2 (smem_lt HBX.out)).trans HBX.out); have HLW := Lib.hid (HBL.out.trans (b2.mono HBL.out.size)); clear m2 hy2 b2)
  clear c0 c1 HBX HBL
  have hyl : Hid (ys.length = xs.length) := Lib.hid (by rw [← evs_len ys, HY.out, allL_len, evs_len])
  have hyn : ys.length ≤ 1000 := by rw [hyl.out]; exact hl
  obtain ⟨Ay, cy, rfl, hz1, hz2, _⟩ := M2.out.shape
  unfold maxLen at hz2
  have HXS := Lib.hid (HE.out.below HLW.out)
  clear HE
  go_wp2_with fail
  go_loopw [4, 5] (fun u i wr => ∃ (a : Nat) (ts : List ByteArray) (Ao : Option Addr) (co : Nat), u = .slice Ao ts.length co ∧ i = .int .i64 (a : Int) ∧ a ≤ ys.length ∧ ts.length ≤ a ∧ Hid (HdS w2 wr u ts) ∧ Hid (ts = headsTo (evs xs) (evs ys) a)) (fun _ i _ => ys.length - (intOf i).toNat)
  case atStart => exact ⟨0, [], none, 0, rfl, rfl, Nat.zero_le _, Nat.le_refl _, Lib.hid ⟨Below.refl _ _, .inl ⟨rfl, rfl⟩⟩, Lib.hid rfl⟩
  case round =>
    obtain ⟨a, ts, Ao, co, rfl, rfl, ha, hta, HO, HT⟩ := hrel
    by_cases hay : a < ys.length
    · have q1 : decide ((a : Int) < (ys.length : Int)) = true := decide_eq_true (by omega)
      have hy : ys[a]? = some ys[a] := List.getElem?_eq_getElem hay
      generalize ys[a] = y at hy
      have Hye := Lib.hid (evs_get hy)
      obtain ⟨bo, oo, rfl, hbo, hro⟩ := M2.out.slice.at hy
      have HRY := Lib.hid hro
      have hiy := index_any (P := Tryz.prog) knV (by decide) (b := bo) (off := oo) (cap := cy) hay
      simp only [LV] at hiy
      clear hy hro
      go_wp2_with fail
      go_loopw [6, 7] (fun hd kk wz => ∃ (c : Nat) (hb : Bool), c ≤ xs.length ∧ hd = .bool hb ∧ kk = .int .i64 (c : Int) ∧ Hid (HdS w2 wz (.slice Ao ts.length co) ts) ∧ Hid (hb = headTo (evs xs) y.ev.id c)) (fun _ kk _ => xs.length - (intOf kk).toNat)
      case atStart => exact ⟨0, true, Nat.zero_le _, rfl, rfl, HO, Lib.hid rfl⟩
      case round =>
        obtain ⟨c, hb, hc, rfl, rfl, HA, HH⟩ := hrel
        clear HO
        have d1 : wr.cell? ⟨B2, 1, none⟩ = some (.slice A xs.length cap) := cell_at ((HA.out.below.block B2 (smem_lt HB2.out)).trans HB2.out) 1
        by_cases hcx : c < xs.length
        · have q2 : decide ((c : Int) < (xs.length : Int)) = true := decide_eq_true (by omega)
          have hx : xs[c]? = some xs[c] := List.getElem?_eq_getElem hcx
          generalize xs[c] = x at hx
          have Hxe := Lib.hid (evs_get hx)
          have HXA := Lib.hid (HXS.out.2 x (List.mem_of_getElem? hx))
          obtain ⟨b, off, rfl, hbx, hr⟩ := ev_at HXS.out hx
          have HRX := Lib.hid hr
          have hix := index_any (P := Tryz.prog) knV (by decide) (b := b) (off := off) (cap := cap) hcx
          simp only [LV] at hix
          have hpl : x.ev.parents.length ≤ 9223372036854775807 := by
            obtain ⟨_, _, he, _, hm, _⟩ := id HXA.out.1
            injection he with _ he2 _
            unfold maxLen at hm
            omega
          clear hx hr
          go_wp2_with fail
          go_loopw [6, 8] (fun hd jj wz => ∃ (j : Nat) (hj : Bool), j ≤ x.ev.parents.length ∧ hd = .bool hj ∧ jj = .int .i64 (j : Int) ∧ Hid (HdS w2 wz (.slice Ao ts.length co) ts) ∧ Hid (hj = headJ (evs xs) y.ev.id c x.ev j)) (fun _ jj _ => x.ev.parents.length - (intOf jj).toNat)
          case atStart => exact ⟨0, hb, Nat.zero_le _, rfl, rfl, HA, Lib.hid (by rw [headJ_zero]; exact HH.out)⟩
          case round =>
            obtain ⟨j, hj, hjl, rfl, rfl, HI, HK⟩ := hrel
            clear HA d1
            have d1 : wr.cell? ⟨B2, 1, none⟩ = some (.slice (some ⟨b, off, none⟩) xs.length cap) := cell_at ((HI.out.below.block B2 (smem_lt HB2.out)).trans HB2.out) 1
            have e2 : wr.cell? ⟨b, off + c * 6 + 2, none⟩ = some (.slice x.A x.ev.parents.length x.cap) := (HI.out.below.cell (p := ⟨b, off + c * 6 + 2, none⟩) hbx).trans (HRX.out 2 _ rfl)
            by_cases hjp : j < x.ev.parents.length
            · have q3 : decide ((j : Int) < (x.ev.parents.length : Int)) = true := decide_eq_true (by omega)
              have hp : x.ev.parents[j]? = some x.ev.parents[j] := List.getElem?_eq_getElem hjp
              generalize x.ev.parents[j] = p at hp
              have HP := Lib.hid hp
              have hat := HXA.out.1
              unfold EvV.pv at hat
              obtain ⟨bp, op, hA, hbp, hcp⟩ := text_at hat hp
              have hip := index_any (P := Tryz.prog) knT (by decide) (b := bp) (off := op) (cap := x.cap) hjp
              simp only [LT] at hip
              rw [Nat.mul_one] at hip
              rw [hA] at e2
              have e3 : wr.cell? ⟨bp, op + j, none⟩ = some (.string p) := (HI.out.below.cell (p := ⟨bp, op + j, none⟩) hbp).trans hcp
              have e4 : wr.cell? ⟨bo, oo + a * 6, none⟩ = some (.string y.ev.id) := (HI.out.below.cell (p := ⟨bo, oo + a * 6, none⟩) hbo).trans (HRY.out 0 _ rfl)
              clear hp hat hA hcp
              cases hj
              · go_upto_region 13 with (fail)
                go_quiet (fail)
                replace HI := Lib.hid (HI.out.on ((Gr.refl _).drewN nq).below)
                generalize World.drewN _ _ = w4 at HI ⊢
                go_wp2_with fail
                refine ⟨⟨j + 1, false, by omega, rfl, by go_num, HI, Lib.hid (by rw [headJ_succ HP.out, ← HK.out]; rfl)⟩, ?_⟩
                simp [intOf]; omega
              · go_upto_region 13 with (fail)
                go_quiet (fail)
                replace HI := Lib.hid (HI.out.on ((Gr.refl _).drewN nq).below)
                generalize World.drewN _ _ = w4 at HI ⊢
                go_wp2_with fail
                refine ⟨⟨j + 1, !decide (p = y.ev.id), by omega, ?_, by go_num, HI, Lib.hid (by rw [headJ_succ HP.out, ← HK.out]; rfl)⟩, ?_⟩
                · rw [← keyB]
                · simp [intOf]; omega
            · have q3 : decide ((j : Int) < (x.ev.parents.length : Int)) = false := decide_eq_false (by omega)
              obtain rfl : j = x.ev.parents.length := by omega
              go_wp2_with fail
              refine ⟨⟨c + 1, hj, by omega, rfl, by go_num, HI, Lib.hid (by rw [HK.out, headJ_all Hxe.out])⟩, ?_⟩
              simp [intOf]; omega
        · have q2 : decide ((c : Int) < (xs.length : Int)) = false := decide_eq_false (by omega)
          obtain rfl : c = xs.length := by omega
          have HH2 : Hid (hb = isHead (evs xs) y.ev.id) := Lib.hid (by rw [HH.out, ← evs_len xs, headTo_all])
          cases hb
          · go_wp2_with fail
            refine ⟨⟨a + 1, ts, Ao, co, rfl, by go_num, by omega, by omega, HA, Lib.hid (by rw [headsTo_no Hye.out HH2.out.symm]; exact HT.out)⟩, ?_⟩
            simp [intOf]; omega
          · have e4 : wr.cell? ⟨bo, oo + a * 6, none⟩ = some (.string y.ev.id) := (HA.out.below.cell (p := ⟨bo, oo + a * 6, none⟩) hbo).trans (HRY.out 0 _ rfl)
            have hlit := Lib.hid (lit_slice (L := LT) wr y.ev.id wr.heap.size rfl #[.string y.ev.id] rfl)
            have hb6 := below_new wr (.cells #[.string y.ev.id] 9)
            have HA6 := Lib.hid (HA.out.on hb6)
            replace hlit := Lib.hid (show LT.Slice (wr.alloc (.cells #[.string y.ev.id] 9)) (.slice (some ⟨wr.heap.size, 0, none⟩) 1 1) [y.ev.id] from hlit.out)
            have hsz6 : w2.heap.size ≤ (wr.alloc (.cells #[.string y.ev.id] 9)).heap.size := HA6.out.below.size
            clear hb6
            go_wp2_with (at_builtin; refine wpList_puts rfl knT (.tmp 54) (.tmp 60) 31 rfl (v := .slice Ao ts.length co) rfl HA6.out.row hsz6 (.slice (some ⟨wr.heap.size, 0, none⟩) 1 1) [y.ev.id] 1 rfl rfl (hlit.out.srcN knT rfl) (by omega) ?_; intro A7 cap7 w7 m7 g7 o7; have H7 : Hid (HdS w2 w7 (.slice A7 (ts.length + 1) cap7) (ts ++ [y.ev.id])) := Lib.hid ⟨HA6.out.below.grown g7 hsz6 (fun k hk => (HA6.out.row.lt k hk).1), m7⟩; clear m7 g7 o7)
            refine ⟨⟨a + 1, ts ++ [y.ev.id], A7, cap7, by rw [List.length_append]; rfl, by go_num, by omega, by rw [List.length_append]; simp only [List.length_cons, List.length_nil]; omega, H7, Lib.hid (by rw [headsTo_yes Hye.out HH2.out.symm, ← HT.out])⟩, ?_⟩
            simp [intOf]; omega
    · have q1 : decide ((a : Int) < (ys.length : Int)) = false := decide_eq_false (by omega)
      obtain rfl : a = ys.length := by omega
      have HF : Hid (ts = headsL (evs xs)) := Lib.hid (by rw [HT.out, ← evs_len ys, HY.out, headsTo_all])
      go_wp2_with fail
      go_ret
      exact ⟨_, rfl, by rw [← HF.out]; exact HO.out.row.mono HLW.out.size, HLW.out.trans (HO.out.below.mono HLW.out.size)⟩
end Go.Proofs.YtjiecjpepiknmaaGreat
