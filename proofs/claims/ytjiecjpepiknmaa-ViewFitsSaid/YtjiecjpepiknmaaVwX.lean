/-
  The document's answer: is an event of a thread (stage 10).
-/
import Derived.Test.YtjiecjpepiknmaaVwQ
namespace Go.Proofs.Ytjiecjpepiknmaa
set_option maxRecDepth 20000
open Go.RowKit
set_option linter.unusedVariables false
set_option linter.unusedSimpArgs false
theorem empty_iff (s : ByteArray) : s.toList.isEmpty = decide (s = ⟨#[]⟩) := by
  rw [Bool.eq_iff_iff, decide_eq_true_eq, List.isEmpty_iff]
  exact ⟨fun h => key_ext (by rw [h, ByteArray.toList_eq]), fun h => by rw [h, ByteArray.toList_eq]⟩
theorem main_iff (s : ByteArray) : (s.toList == [109, 97, 105, 110]) = decide (s = mainS) := by
  have h := keyB s mainS
  have h2 : mainS.toList = [109, 97, 105, 110] := by rw [ByteArray.toList_eq]; rfl
  rw [h2] at h
  exact h
def fitB (b1 b2 b3 b4 b5 : Bool) : Bool := b1 || b2 || (b3 && b4) || (!b4 && b5)
theorem fits_bool {l : List Ev} {id t : ByteArray} {k : Nat} {e : Ev} (hk : idx l id = some k) (he : l[k]? = some e) : fitsL l id t = bif fitB (decide (t = ⟨#[]⟩)) (decide (t = id)) (decide (t = mainS)) (decide (e.thread = ⟨#[]⟩)) (decide (t = e.thread)) then 0 else 7 := by
  rw [fitsL_at hk he]
  unfold fitB
  by_cases h1 : t = ⟨#[]⟩ <;> by_cases h2 : t = id <;> by_cases h3 : t = mainS <;> by_cases h4 : e.thread = ⟨#[]⟩ <;> by_cases h5 : t = e.thread <;> simp only [h1, h2, h3, h4, h5, decide_true, decide_false, true_or, false_or, or_true, or_false, true_and, false_and, and_true, and_false, not_true, not_false_iff, if_true, if_false, ne_eq, Bool.true_or, Bool.false_or, Bool.or_true, Bool.or_false, Bool.true_and, Bool.false_and, Bool.and_true, Bool.and_false, Bool.not_true, Bool.not_false, cond_true, cond_false] <;> first | rfl | (simp_all)
theorem of_foot10 {v : Value} {ds : List DV} {d : DV} {room : ByteArray} (hm : d ∈ ds ∨ d = noDV room) {k : Nat} (hk : footE d.lv d.xs k) : footD v ds k := of_foot hm hk
section
variable {C : Dags} {w wr : World} {vs : List VI} {ts : List Th}

set_option maxHeartbeats 1600000 in
theorem refFits10_any (h : Kv C w wr vs ts) {u : Value} {ds : List DV} (hu : Th.vw u ds ∈ ts) (hV : VOk 100 (vws ds)) (room id t : ByteArray) :
    Calls Try.prog 10 #[.agg #[u], .string room, .string id, .string t] wr fun e w' => e = .returned (.int .i64 (fitsL (ofL (vws ds) room) id t)) ∧ Kv C w w' vs ts := by
  obtain ⟨A, cap, rfl, h1, h2, -⟩ := (h.is hu).1
  have HK0 : Hid (Kv C w (wr.alloc (.cells #[.slice A ds.length cap] 26)) vs (Th.box wr.heap.size (.cells #[.slice A ds.length cap] 26 (0, 0)) :: ts)) := Lib.hid (h.add (t := Th.box wr.heap.size (.cells #[.slice A ds.length cap] 26 (0, 0))) (below_new wr _) (heap_alloc_new wr _) (fun k hk => .inl (Nat.le_of_eq hk.symm)))
  have HU : Hid (Th.vw (.slice A ds.length cap) ds ∈ ts) := Lib.hid hu
  have HLD := Lib.hid (vws_len hV)
  have HOF := Lib.hid (fun W (hw : DsS W (.slice A ds.length cap) ds) => refOf_any (.slice A ds.length cap) ds room W hw (Nat.le_trans (vws_len hV).1 (by decide)))
  unfold maxLen at h2
  clear h hu hV
  go_enter Try.func10, Try.ntmps10
  go_upto_region 1 with (fail)
  generalize World.alloc _ _ = w1 at HK0 ⊢
  generalize wr.heap.size = B4 at HK0 ⊢
  have c4 : w1.cell? ⟨B4, 0, none⟩ = some (.slice A ds.length cap) := cell_at (HK0.out.is List.mem_cons_self) 0
  have HQ := Lib.hid (HOF.out w1 (HK0.out.is (List.mem_cons_of_mem _ HU.out)))
  go_wp2_with fail
  go_at_call 21
  refine HQ.out.mono ?_
  rintro e w2 ⟨d, rfl, hes, hdr, hdm, hdo, hb2⟩
  have HKD : Hid (Kv C w (w2.alloc (.cells #[.string d.room, .slice d.A d.xs.length d.cap] 51)) vs (Th.box w2.heap.size (.cells #[.string d.room, .slice d.A d.xs.length d.cap] 51 (0, 0)) :: Th.evs d.lv d.xs :: Th.box B4 (.cells #[.slice A ds.length cap] 26 (0, 0)) :: ts)) := Lib.hid (by
    have k1 : Kv C w w2 vs (Th.evs d.lv d.xs :: Th.box B4 (.cells #[.slice A ds.length cap] 26 (0, 0)) :: ts) := HK0.out.add (t := Th.evs d.lv d.xs) hb2 hes (fun k hk => .inr ⟨_, List.mem_cons_of_mem _ HU.out, of_foot10 hdm hk⟩)
    exact k1.add (t := Th.box w2.heap.size (.cells #[.string d.room, .slice d.A d.xs.length d.cap] 51 (0, 0))) (below_new w2 _) (heap_alloc_new w2 _) (fun k hk => .inl (Nat.le_of_eq hk.symm)))
  have HDO := Lib.hid hdo
  have HAT := Lib.hid (fun W (hw : EvsS W d.lv d.xs) => refAt_any d.room id d.lv d.xs W hw)
  unfold DV.lv at HAT
  unfold DV.val DV.lv
  clear hes hdr hdm hdo hb2 HQ c4 HOF
  go_upto_region 2 with (fail)
  generalize World.alloc _ _ = w3 at HKD ⊢
  generalize w2.heap.size = B9 at HKD ⊢
  clear HK0
  have d0 : w3.cell? ⟨B9, 0, none⟩ = some (.string d.room) := cell_at (HKD.out.is List.mem_cons_self) 0
  have d1 : w3.cell? ⟨B9, 1, none⟩ = some (.slice d.A d.xs.length d.cap) := cell_at (HKD.out.is List.mem_cons_self) 1
  have HQ := Lib.hid (HAT.out w3 (HKD.out.is (List.mem_cons_of_mem _ List.mem_cons_self)))
  go_wp2_with fail
  go_at_call 22
  refine HQ.out.mono ?_
  rintro e w4 ⟨rfl, q, os, hw4⟩
  replace HKD := Lib.hid (HKD.out.later (show Gr w3 w4 from ⟨q, os, hw4⟩).below)
  clear hw4 HQ d0 d1 HAT
  have d1 : w4.cell? ⟨B9, 1, none⟩ = some (.slice d.A d.xs.length d.cap) := cell_at (HKD.out.is List.mem_cons_self) 1
  cases hix : idx (evs d.xs) id with
  | none =>
    have HF : Hid (fitsL (ofL (vws ds) room) id t = 4) := Lib.hid (by
      rw [← HDO.out]
      unfold fitsL
      rw [hix])
    have hI : idxI (evs d.xs) id = -1 := by unfold idxI; rw [hix]
    rw [hI]
    clear hI hix
    go_wp2_with fail
    go_ret
    exact ⟨by rw [HF.out]; rfl, HKD.out.less (fun _ ht => List.mem_cons_of_mem _ (List.mem_cons_of_mem _ (List.mem_cons_of_mem _ ht)))⟩
  | some k =>
    obtain ⟨y, hy, -⟩ := idx_some hix
    have hkl : k < d.xs.length := by
      have := (List.getElem?_eq_some_iff.1 hy).1
      rw [evs_len] at this
      exact this
    have hI : idxI (evs d.xs) id = (k : Int) := by unfold idxI; rw [hix]
    rw [hI]
    have q0 : decide ((k : Int) < 0) = false := decide_eq_false (by omega)
    have hx : d.xs[k]? = some d.xs[k] := List.getElem?_eq_getElem hkl
    generalize d.xs[k] = x at hx
    have hyx : y = x.ev := by
      have := evs_get hx
      rw [hy] at this
      injection this
    subst hyx
    have HF := Lib.hid (fits_bool (t := t) hix hy)
    rw [HDO.out] at HF
    obtain ⟨b, o, hA, hb, hrg⟩ := ev_at (show EvsS w4 (.slice d.A d.xs.length d.cap) d.xs from HKD.out.is (List.mem_cons_of_mem _ List.mem_cons_self)) hx
    have hin := index_any (P := Try.prog) knV (by decide) (b := b) (off := o) (cap := d.cap) hkl
    simp only [LV] at hin
    rw [← hA] at hin
    obtain ⟨e0, e1, e2, e3, e4, e5⟩ := ev_cells hrg
    have g1 := empty_iff t
    have g2 := keyB t id
    have g3 := main_iff t
    have g4 := empty_iff x.ev.thread
    have g5 := keyB t x.ev.thread
    generalize decide (t = ⟨#[]⟩) = b1 at g1 HF
    generalize decide (t = id) = b2 at g2 HF
    generalize decide (t = mainS) = b3 at g3 HF
    generalize decide (x.ev.thread = ⟨#[]⟩) = b4 at g4 HF
    generalize decide (t = x.ev.thread) = b5 at g5 HF
    clear hI hix hy hx hA hb hrg e0 e1 e2 e4 e5
    cases b1 <;> cases b2 <;> cases b3 <;> cases b4 <;> cases b5
    all_goals
      go_wp2_with fail
      go_ret
      exact ⟨by rw [HF.out]; rfl, HKD.out.less (fun _ ht => List.mem_cons_of_mem _ (List.mem_cons_of_mem _ (List.mem_cons_of_mem _ ht)))⟩
end
end Go.Proofs.Ytjiecjpepiknmaa
