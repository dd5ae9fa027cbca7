/-
  What is adopted, and what there is: the walk of the statement.
-/
import Derived.Test.YtmialpaldkpmbaaRcO
namespace Go.Proofs.Ytmialpaldkpmbaa
set_option maxRecDepth 20000
open Go.RowKit Go.Maps Go.ChangeMaps
set_option linter.unusedVariables false
set_option linter.unusedSimpArgs false
theorem like_same (v u : Value) (l : List Mk) (w : World) (h : LR.Slice w v l) (hu : LM.Slice w u l) :
    Calls Try.prog 10 #[v, u] w fun e w' => e = .returned (.bool true) ∧ Gr w w' := by
  have := like_any v u l l w h hu
  rw [decide_eq_true rfl] at this
  exact this

set_option maxHeartbeats 1600000 in
theorem receiptPuts_walk (v : Value) (l : List Mk) (w : World) (h : LM.Slice w v l) (hf : ∀ m ∈ l, m.fit) :
    Calls Try.prog 3 #[v] w fun e w' => e = .returned (.bool true) ∧ Below w.heap.size w w' := by
  have HR := Lib.hid h
  have HF := Lib.hid hf
  have HLV := Lib.hid (fun W => lives_any W)
  clear h hf
  go_enter Try.func3, Try.ntmps3
  go_wp2_with fail
  go_loopw [3, 4, 5] (fun i _ _ wr => ∃ a : Nat, i = .int .i64 (a : Int) ∧ a ≤ 2 ∧ Hid (Below w.heap.size w wr)) (fun i _ _ _ => 2 - (intOf i).toNat)
  case atStart => exact ⟨0, rfl, by decide, Lib.hid (Below.refl _ _)⟩
  case round =>
    obtain ⟨a, rfl, ha, HA⟩ := hrel
    by_cases hat : a < 2
    · have tq1 : decide ((a : Int) < 2) = true := decide_eq_true (by omega)
      obtain ⟨good, hgd⟩ : ∃ b, ((a : Int) == 0) = b := ⟨_, rfl⟩
      have HFL := Lib.hid (fill_any good v l 16 wr (HR.out.below HA.out) HF.out (by decide))
      go_wp2_with fail
      go_at_call 9
      refine HFL.out.mono ?_
      rintro e w2 ⟨r, u, rfl, hfi⟩
      have HK2 := Lib.hid hfi.kt
      have hrl : r.l.length ≤ 16 := by rw [hfi.l]; exact fillL_len _ _ _
      obtain ⟨A, c, rfl, -⟩ := id (hfi.kt.is List.mem_cons_self : LM.Slice w2 u r.l)
      clear hfi HFL hgd
      have HAL := Lib.hid (rcAll_any (HK2.out.ct (i := 0) rfl) (by omega))
      go_wp2_with fail
      go_at_call 11
      refine HAL.out.mono ?_
      rintro e w3 ⟨v3, rfl, hm3, hb3⟩
      have HK3 := Lib.hid (HK2.out.later hb3)
      have HLK := Lib.hid (like_same v3 _ r.l w3 hm3.slice (HK3.out.is List.mem_cons_self))
      clear hm3 hb3 HAL HK2
      go_wp2_with fail
      go_at_call 10
      refine HLK.out.mono ?_
      rintro e w4 ⟨rfl, hg4⟩
      have HK4 := Lib.hid (HK3.out.later hg4.below)
      have HPB := Lib.hid (rcPublic_any (HK4.out.ct (i := 0) rfl) (by omega))
      clear hg4 HLK HK3
      go_wp2_with fail
      go_at_call 12
      refine HPB.out.mono ?_
      rintro e w5 ⟨v5, rfl, hm5, hb5⟩
      have HK5 := Lib.hid (HK4.out.later hb5)
      have HM5 := Lib.hid hm5
      have HPL := Lib.hid (refPublicM_any _ r.l w5 (HK5.out.is List.mem_cons_self) (by omega))
      clear hm5 hb5 HPB HK4
      go_wp2_with fail
      go_at_call 13
      refine HPL.out.mono ?_
      rintro e w6 ⟨v6, rfl, hm6, hb6⟩
      have HK6 := Lib.hid (HK5.out.later hb6)
      have HLK := Lib.hid (like_same v5 v6 (pubM r.l) w6 (HM5.out.below hb6).slice hm6.slice)
      clear hm6 hb6 HPL HK5 HM5
      go_wp2_with fail
      go_at_call 10
      refine HLK.out.mono ?_
      rintro e w7 ⟨rfl, hg7⟩
      have HK7 := Lib.hid (HK6.out.later hg7.below)
      have HLN := Lib.hid (rcLen_any (HK7.out.ct (i := 0) rfl))
      clear hg7 HLK HK6
      go_wp2_with fail
      go_at_call 14
      refine HLN.out.mono ?_
      rintro e w8 ⟨rfl, hw8⟩
      subst w8
      have HB := Lib.hid (HA.out.trans (HK7.out.below.mono HA.out.size))
      clear HK7 HLN
      go_wp2_with fail
      refine ⟨⟨a + 1, by go_num, by omega, HB⟩, ?_⟩
      simp [intOf]; omega
    · have tq1 : decide ((a : Int) < 2) = false := decide_eq_false (by omega)
      go_wp2_with fail
      go_at_call 15
      refine (HLV.out _).mono ?_
      rintro e wl ⟨rfl, hbl⟩
      have HBL := Lib.hid (HA.out.trans (hbl.mono HA.out.size))
      clear hbl
      go_wp2_with fail
      go_ret
      exact ⟨rfl, HBL.out⟩
end Go.Proofs.Ytmialpaldkpmbaa
