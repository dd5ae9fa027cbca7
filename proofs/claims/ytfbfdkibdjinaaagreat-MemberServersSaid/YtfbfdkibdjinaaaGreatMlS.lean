/-
  MemberServers: which servers are in the room is the document's.
-/
import Derived.Test.YtfbfdkibdjinaaaGreatM9C
namespace Go.Proofs.YtfbfdkibdjinaaaGreat
set_option maxRecDepth 20000
open Go.RowKit
set_option linter.unusedVariables false
set_option linter.unusedSimpArgs false

theorem serverS_ok (n : Nat) : -9223372036854775808 ≤ (n : Int) := by omega

set_option maxHeartbeats 6400000 in
theorem memberServers_walk (C : Dags) (CA : DagAlls C) (v : Value) (gs : List GV) (s : ByteArray) (w : World) (h : GsS w v gs) (hs : s.size ≤ maxLen) :
    Calls Tryz.prog 4 #[v, .string s] w fun e w' => e = .returned (.bool true) ∧ Below w.heap.size w w' := by
  have HBU := Lib.hid (build9_any C v gs w h)
  obtain ⟨A0, c0, rfl, -⟩ := id h.1
  clear h
  go_enter Tryz.func4, Tryz.ntmps4
  go_wp2_with fail
  go_at_call 8
  refine HBU.out.mono ?_
  rintro e w1 ⟨gd, v', xs, rfl, hbt⟩
  obtain ⟨Av, cv, rfl, -, hv2, -⟩ := id hbt.evs.1
  have hv3 : cv ≤ 9223372036854775807 := by unfold maxLen at hv2; omega
  have hxl := hbt.len
  have HVL : Hid (Valid roomR (evs xs)) := Lib.hid (C.valid hbt.bd.code)
  have hb2 := below_new w1 (.cells #[.string roomR, .slice Av xs.length cv] 26)
  have HX2 := Lib.hid (heap_alloc_new w1 (.cells #[.string roomR, .slice Av xs.length cv] 26))
  have HD2 := Lib.hid (hbt.bd.later hb2)
  have HE2 := Lib.hid (hbt.evs.below hb2)
  have HOF2 : Hid (∀ k, footE (.slice Av xs.length cv) xs k → ¬ C.own (w1.alloc (.cells #[.string roomR, .slice Av xs.length cv] 26)) gd k) := Lib.hid (fun k hk ho => hbt.off k hk ((C.keep hbt.bd.code hb2.size (fun k hk => hb2.block k (C.old hbt.bd.code hk))).2 k ho))
  have HOB2 : Hid (¬ C.own (w1.alloc (.cells #[.string roomR, .slice Av xs.length cv] 26)) gd w1.heap.size) := Lib.hid (fun ho => by
    have := C.old hbt.bd.code ((C.keep hbt.bd.code hb2.size (fun k hk => hb2.block k (C.old hbt.bd.code hk))).2 _ ho)
    omega)
  clear hbt hb2 HBU hv2
  go_upto_region 2 with (fail)
  generalize w1.alloc _ = w2 at HX2 HD2 HE2 HOF2 HOB2 ⊢
  generalize w1.heap.size = B4 at HX2 HOB2 ⊢
  have hb4lt := smem_lt HX2.out
  have HK2 : Hid (KpS C w w2 w2 gd (evs xs) [(B4, .cells #[.string roomR, .slice Av xs.length cv] 26 (0, 0))] [] []) := Lib.hid ⟨HD2.out, TurnD.refl _ _, fun q hq => by
    rw [List.mem_singleton.1 hq]
    exact ⟨HX2.out, HOB2.out⟩, fun x hx => (by cases hx), fun p hp => (by cases hp)⟩
  have HEW : Hid (∀ W bs es ts, KpS C w w2 W gd (evs xs) bs es ts → EvsS W (.slice Av xs.length cv) xs ∧ ∀ x ∈ xs, ∀ k, footV x k → ¬ C.own W gd k) := Lib.hid (fun W bs es ts hW => hW.evs HE2.out HOF2.out)
  have hl100 : (evs xs).length ≤ 100 := by rw [evs_len]; omega
  have HSV : Hid (∀ W bs es ts, KpS C w w2 W gd (evs xs) bs es ts → Calls Tryz.prog 24 #[.pointer (some ⟨gd, 0, none⟩)] W fun e w' => ∃ A c, e = .returned (.slice A (serversL (evs xs)).length c) ∧ KpS C w w2 w' gd (evs xs) bs es ((.slice A (serversL (evs xs)).length c, serversL (evs xs)) :: ts)) := Lib.hid (fun W bs es ts h => by
    refine (memServers_any C CA h.bd.code hl100).mono ?_
    rintro e w' ⟨v, rfl, m, t, hc, ht⟩
    obtain ⟨A, c, rfl, -⟩ := id m.shape
    exact ⟨A, c, rfl, (h.step hc ht).withTx m.slice (fun k _ hk => t k hk)⟩)
  have HRS : Hid (∀ W bs es ts, KpS C w w2 W gd (evs xs) bs es ts → Calls Tryz.prog 20 #[.agg #[.string roomR, .slice Av xs.length cv]] W fun e w' => ∃ A c, e = .returned (.slice A (serversL (evs xs)).length c) ∧ KpS C w w2 w' gd (evs xs) bs es ((.slice A (serversL (evs xs)).length c, serversL (evs xs)) :: ts)) := Lib.hid (fun W bs es ts h => by
    refine (refServers_any roomR _ xs W (HEW.out _ _ _ _ h).1 HVL.out (by omega)).mono ?_
    rintro e w' ⟨v, rfl, m, b⟩
    obtain ⟨A, c, rfl, -⟩ := id m.shape
    exact ⟨A, c, rfl, (h.later b).withTx m.slice (fun k _ hk e => by
      have h1 := (h.grow b).2.2 k e
      have h2 := (m.lt k hk).1
      omega)⟩)
  have HIN : Hid (∀ W bs es ts s, KpS C w w2 W gd (evs xs) bs es ts → Calls Tryz.prog 21 #[.pointer (some ⟨gd, 0, none⟩), .string s] W fun e w' => e = .returned (.bool (hasL (serversL (evs xs)) s)) ∧ KpS C w w2 w' gd (evs xs) bs es ts) := Lib.hid (fun W bs es ts s h => by
    refine (memIn_any C CA s h.bd.code hl100).mono ?_
    rintro e w' ⟨rfl, hc, ht⟩
    exact ⟨rfl, h.step hc ht⟩)
  have HHS : Hid (∀ W bs es ts v us s, KpS C w w2 W gd (evs xs) bs es ts → (v, us) ∈ ts → Calls Tryz.prog 23 #[v, .string s] W fun e w' => e = .returned (.bool (hasL us s)) ∧ w' = W) := Lib.hid (fun W bs es ts v us s h hm => refHas_any v us s W (h.tx _ hm).1)
  have HST : Hid (∀ W bs es ts v v' us, KpS C w w2 W gd (evs xs) bs es ts → (v, us) ∈ ts → (v', us) ∈ ts → Calls Tryz.prog 16 #[v, v'] W fun e w' => e = .returned (.bool true) ∧ KpS C w w2 w' gd (evs xs) bs es ts) := Lib.hid (fun W bs es ts v v' us h hm hm' => by
    refine (sameTexts_any v v' us us W (h.tx _ hm).1 (h.tx _ hm').1).mono ?_
    rintro e w' ⟨rfl, dd, rfl⟩
    exact ⟨by rw [decide_eq_true rfl], h.later ⟨rfl, rfl, rfl, Nat.le_refl _, fun _ _ => rfl⟩⟩)
  have HLV : Hid (∀ W bs es ts, KpS C w w2 W gd (evs xs) bs es ts → Calls Tryz.prog 19 #[] W fun e w' => e = .returned (.bool true) ∧ KpS C w w2 w' gd (evs xs) bs es ts) := Lib.hid (fun W bs es ts h => by
    refine (lives9_any C CA W).mono ?_
    rintro e w' ⟨rfl, b⟩
    exact ⟨rfl, h.later b⟩)
  have HFW := Lib.hid (fun W => few_any s 8 (by omega) W hs)
  rw [show ((8 : Nat) : Int) = 8 from rfl] at HFW
  generalize fewS s 8 = s8 at HFW
  have d0 : w2.cell? ⟨B4, 0, none⟩ = some (.string roomR) := cell_at HX2.out 0
  have d1 : w2.cell? ⟨B4, 1, none⟩ = some (.slice Av xs.length cv) := cell_at HX2.out 1
  have HQ := Lib.hid (HRS.out _ _ _ _ HK2.out)
  clear HX2 HD2 HE2 HOF2 HOB2
  go_wp2_with fail
  go_at_call 20
  refine HQ.out.mono ?_
  rintro e w3 ⟨As, cs, rfl, hk3⟩
  have HK3 := Lib.hid hk3
  clear hk3 HQ HK2 d0 d1
  go_wp2_with fail
  go_at_call 10
  refine (HFW.out _).mono ?_
  rintro e w4 ⟨rfl, rfl⟩
  go_wp2_with fail
  go_loopw [8] (fun i wr => ∃ a : Nat, i = .int .i64 (a : Int) ∧ a ≤ 3 ∧ Hid (KpS C w w2 wr gd (evs xs) [(B4, .cells #[.string roomR, .slice Av xs.length cv] 26 (0, 0))] [] [(.slice As (serversL (evs xs)).length cs, serversL (evs xs))])) (fun i _ => 3 - (intOf i).toNat)
  case atStart => exact ⟨0, rfl, Nat.zero_le _, HK3⟩
  case round =>
    clear HK3
    obtain ⟨a, rfl, ha, HK⟩ := hrel
    by_cases hax : a < 3
    · have q1 : decide ((a : Int) < 3) = true := decide_eq_true (by omega)
      have HSO := Lib.hid (fun W => serverOf_any (a : Int) W (by omega) (by omega))
      generalize serverS (a : Int) = sv at HSO
      go_wp2_with fail
      go_at_call 22
      refine (HSO.out _).mono ?_
      rintro e w5 ⟨rfl, b5⟩
      have HK5 := Lib.hid (HK.out.later b5)
      have HQ := Lib.hid (HIN.out _ _ _ _ sv HK5.out)
      clear b5 HK
      go_wp2_with fail
      go_at_call 21
      refine HQ.out.mono ?_
      rintro e w6 ⟨rfl, hk6⟩
      have HK6 := Lib.hid hk6
      clear hk6 HQ HK5
      go_wp2_with fail
      go_at_call 22
      refine (HSO.out _).mono ?_
      rintro e w7 ⟨rfl, b7⟩
      have HK7 := Lib.hid (HK6.out.later b7)
      have HQ := Lib.hid (HHS.out _ _ _ _ _ _ sv HK7.out List.mem_cons_self)
      clear b7 HK6
      generalize hasL (serversL (evs xs)) sv = hb at HQ ⊢
      have q2 : (hb != hb) = false := bne_self_eq_false _
      go_wp2_with fail
      go_at_call 23
      refine HQ.out.mono ?_
      rintro e w8 ⟨rfl, rfl⟩
      clear HQ
      go_wp2_with fail
      refine ⟨⟨a + 1, by go_num, by omega, HK7⟩, ?_⟩
      simp [intOf]; omega
    · have q1 : decide ((a : Int) < 3) = false := decide_eq_false (by omega)
      have HQ := Lib.hid (HSV.out _ _ _ _ HK.out)
      go_wp2_with fail
      go_at_call 24
      refine HQ.out.mono ?_
      rintro e w5 ⟨A5, c5, rfl, hk5⟩
      have HK5 := Lib.hid hk5
      clear hk5 HQ HK
      have HQ := Lib.hid (HST.out _ _ _ _ _ _ _ HK5.out List.mem_cons_self (List.mem_cons_of_mem _ List.mem_cons_self))
      go_wp2_with fail
      go_at_call 16
      refine HQ.out.mono ?_
      rintro e w6 ⟨rfl, hk6⟩
      have HK6 := Lib.hid hk6
      clear hk6 HQ HK5
      have HQ := Lib.hid (HIN.out _ _ _ _ s8 HK6.out)
      go_wp2_with fail
      go_at_call 21
      refine HQ.out.mono ?_
      rintro e w7 ⟨rfl, hk7⟩
      have HK7 := Lib.hid hk7
      clear hk7 HQ HK6
      have HQ := Lib.hid (HHS.out _ _ _ _ _ _ s8 HK7.out (List.mem_cons_of_mem _ List.mem_cons_self))
      generalize hasL (serversL (evs xs)) s8 = hb at HQ ⊢
      have q2 : (hb == hb) = true := beq_self_eq_true _
      go_wp2_with fail
      go_at_call 23
      refine HQ.out.mono ?_
      rintro e w8 ⟨rfl, rfl⟩
      clear HQ
      have HQ := Lib.hid (HLV.out _ _ _ _ HK7.out)
      go_wp2_with fail
      go_at_call 19
      refine HQ.out.mono ?_
      rintro e w9 ⟨rfl, hk9⟩
      have HB9 := Lib.hid hk9.bd.below
      go_wp2_with fail
      go_ret
      exact ⟨rfl, HB9.out⟩
end Go.Proofs.YtfbfdkibdjinaaaGreat
