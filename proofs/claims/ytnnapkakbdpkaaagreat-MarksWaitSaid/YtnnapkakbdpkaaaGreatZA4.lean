/-
  What the statements stand on, part ZA4.
-/
import Derived.Test.YtnnapkakbdpkaaaGreatZA3
set_option linter.unusedVariables false
set_option linter.unusedSimpArgs false
namespace Go.Proofs.YtnnapkakbdpkaaaGreat
set_option maxRecDepth 20000
open Go.RowKit
theorem empty_list : (⟨#[]⟩ : ByteArray).toList = [] := by rw [ByteArray.toList_eq]
theorem grow_draws {w w1 : World} (h : ∃ q os, w1 = Sort.grow (w.drewN q) os) (n : Nat) : ∃ q os, w1.drewN n = Sort.grow (w.drewN q) os := by
 obtain ⟨q, os, rfl⟩ := h
 exact ⟨q + n, os, by show Sort.grow ((w.drewN q).drewN n) os = _; rw [World.drewN_drewN]⟩
theorem six_ways (b1 b2 b3 b4 b5 b6 : Bool) : (b1 && b2 && b3 && b4 && b5 && b6) = true ∨ b1 = false ∨ (b1 = true ∧ b2 = false) ∨ (b1 = true ∧ b2 = true ∧ b3 = false) ∨ (b1 = true ∧ b2 = true ∧ b3 = true ∧ b4 = false) ∨ (b1 = true ∧ b2 = true ∧ b3 = true ∧ b4 = true ∧ b5 = false) ∨ (b1 = true ∧ b2 = true ∧ b3 = true ∧ b4 = true ∧ b5 = true ∧ b6 = false) := by
 cases b1 <;> cases b2 <;> cases b3 <;> cases b4 <;> cases b5 <;> cases b6 <;> simp
theorem par_at {x : EvV} {w : World} (h : x.at w) {A : Option Addr} {n cap i : Nat} (hp : x.pv = .slice A n cap) (hi : i < x.ev.parents.length) : ∃ b off, A = some ⟨b, off, none⟩ ∧ b < w.heap.size ∧ w.cell? ⟨b, off + i, none⟩ = some (.string (x.ev.parents.getD i ⟨#[]⟩)) ∧ (x.ev.parents.getD i ⟨#[]⟩).size ≤ maxLen := by
 have h0 : x.ev.parents[i]? = some (x.ev.parents.getD i ⟨#[]⟩) := by rw [List.getD_eq_getElem?_getD, List.getElem?_eq_getElem hi]; rfl
 obtain ⟨b, off, e, hb, hc⟩ := text_at (hp ▸ h.1) h0
 exact ⟨b, off, e, hb, hc, h.2.2.2.2.2.1 _ (List.mem_of_getElem? h0)⟩
set_option maxHeartbeats 1600000 in
theorem refMay_any (x : EvV) (w : World) (h : x.at w) :
  Calls Tryz.prog 82 #[x.val] w fun e w' => e = .returned (.bool (mayE x.ev)) ∧ ∃ q os, w' = Sort.grow (w.drewN q) os := by
 obtain ⟨h1, h2, h3, h4, h5, h6⟩ := h.2
 have hpl := h.1.len
 obtain ⟨A, cap, hpv, hc1, hc2, hc3, _⟩ := id h.1
 unfold maxLen at hpl
 have hb := below_new w (.cells x.cells.toArray 52)
 have HB := Lib.hid (box_new (w := w) x.cells.toArray 52)
 have H := Lib.hid (h.below hb)
 have HPV := Lib.hid hpv
 have hu : x.val = .agg #[.string x.ev.id, .string x.ev.room, .slice A x.ev.parents.length cap, .string x.ev.thread, .string x.ev.user, .int .i64 x.ev.does] := by unfold EvV.val; rw [hpv]
 have hcs : x.cells.toArray = #[.string x.ev.id, .string x.ev.room, .slice A x.ev.parents.length cap, .string x.ev.thread, .string x.ev.user, .int .i64 x.ev.does] := by unfold EvV.cells; rw [hpv]
 rw [hcs] at HB H
 rw [hu]
 have hm : mayE x.ev = (headB x.ev && thrB x.ev && parTo x.ev x.ev.parents.length) := rfl
 have hd : headB x.ev = (eventB x.ev.id && namedB 33 x.ev.room && namedB 64 x.ev.user && decide (x.ev.parents.length ≤ 4) && decide (0 ≤ x.ev.does) && decide (x.ev.does ≤ 2)) := rfl
 have e1 := fun W => refEvent_any x.ev.id W h1
 have e2 := fun W => refNamed_any x.ev.room 33 W h2
 have e3 := fun W => refNamed_any x.ev.user 64 W h4
 have e4 := fun W => refEvent_any x.ev.thread W h3
 clear hpv hu hcs hb h hc3
 rcases six_ways (eventB x.ev.id) (namedB 33 x.ev.room) (namedB 64 x.ev.user) (decide (x.ev.parents.length ≤ 4)) (decide (0 ≤ x.ev.does)) (decide (x.ev.does ≤ 2)) with hh | hh | hh | hh | hh | hh | hh
 ·have HMM : Hid (mayE x.ev = (thrB x.ev && parTo x.ev x.ev.parents.length)) := Lib.hid (by rw [hm, hd, hh, Bool.true_and])
  simp only [Bool.and_eq_true, decide_eq_true_eq] at hh
  obtain ⟨⟨⟨⟨⟨k1, k2⟩, k3⟩, k4⟩, k5⟩, k6⟩ := hh
  have q4 : decide ((4 : Int) < (x.ev.parents.length : Int)) = false := decide_eq_false (by omega)
  have q5 : decide (x.ev.does < 0) = false := decide_eq_false (by omega)
  have q6 : decide ((2 : Int) < x.ev.does) = false := decide_eq_false (by omega)
  have par0 : parTo x.ev 0 = true := rfl
  have thr : (x.ev.thread = ⟨#[]⟩ ∧ thrB x.ev = true ∧ x.ev.thread.toList.isEmpty = true) ∨ (x.ev.thread.toList.isEmpty = false ∧ ((eventB x.ev.thread = false ∧ thrB x.ev = false) ∨ (eventB x.ev.thread = true ∧ (x.ev.thread.toList == x.ev.id.toList) = true ∧ thrB x.ev = false) ∨ (eventB x.ev.thread = true ∧ (x.ev.thread.toList == x.ev.id.toList) = false ∧ (x.ev.does != 0) = true ∧ thrB x.ev = false) ∨ (eventB x.ev.thread = true ∧ (x.ev.thread.toList == x.ev.id.toList) = false ∧ (x.ev.does != 0) = false ∧ thrB x.ev = true))) := by
   rw [keyB]
   by_cases ht : x.ev.thread = ⟨#[]⟩
   ·exact .inl ⟨ht, by simp [thrB, ht], by rw [ht, empty_list]; rfl⟩
   ·refine .inr ⟨?_, ?_⟩
    ·rw [Bool.eq_false_iff]
     intro he
     exact ht (key_ext (by rw [List.isEmpty_iff.1 he, empty_list]))
    ·cases hev : eventB x.ev.thread
     ·exact .inl ⟨rfl, by simp [thrB, ht, hev]⟩
     ·by_cases hi : x.ev.thread = x.ev.id
      ·exact .inr (.inl ⟨rfl, decide_eq_true hi, by unfold thrB; rw [hev, decide_eq_true hi, decide_eq_false ht]; rfl⟩)
      ·by_cases hz : x.ev.does = 0
       ·exact .inr (.inr (.inr ⟨rfl, decide_eq_false hi, by simp [hz], by simp [thrB, ht, hev, hi, hz]⟩))
       ·exact .inr (.inr (.inl ⟨rfl, decide_eq_false hi, by simp [hz], by simp [thrB, ht, hev, hi, hz]⟩))
  clear hd hm k4 k5 k6
  go_enter Tryz.func82, Tryz.ntmps82
  go_upto_region 1 with (fail)
  generalize hw1 : w.alloc _ = w1 at HB H ⊢
  have HW : Hid (∃ q os, w1 = Sort.grow (w.drewN q) os) := Lib.hid ⟨0, _, by rw [← hw1, Sort.alloc_eq_grow]; rfl⟩
  clear hw1
  generalize w.heap.size = B at HB ⊢
  have c0 : w1.cell? ⟨B, 0, none⟩ = some (.string x.ev.id) := cell_at HB.out 0
  have c1 : w1.cell? ⟨B, 1, none⟩ = some (.string x.ev.room) := cell_at HB.out 1
  have c2 : w1.cell? ⟨B, 2, none⟩ = some (.slice A x.ev.parents.length cap) := cell_at HB.out 2
  have c3 : w1.cell? ⟨B, 3, none⟩ = some (.string x.ev.thread) := cell_at HB.out 3
  have c4 : w1.cell? ⟨B, 4, none⟩ = some (.string x.ev.user) := cell_at HB.out 4
  have c5 : w1.cell? ⟨B, 5, none⟩ = some (.int .i64 x.ev.does) := cell_at HB.out 5
  go_wp2_with fail
  refine (e1 _).mono ?_
  rintro e wz ⟨rfl, rfl⟩
  go_wp2_with fail
  refine (e2 _).mono ?_
  rintro e wz ⟨rfl, rfl⟩
  go_wp2_with fail
  refine (e3 _).mono ?_
  rintro e wz ⟨rfl, rfl⟩
  rcases thr with ⟨t0, t1, t2⟩ | ⟨t2, ⟨t3, t1⟩ | ⟨t3, t4, t1⟩ | ⟨t3, t4, t5, t1⟩ | ⟨t3, t4, t5, t1⟩⟩
  rotate_left 1
  ·go_wp2_with fail
   refine (e4 _).mono ?_
   rintro e wz ⟨rfl, rfl⟩
   go_wp2_with fail
   go_ret
   rw [HMM.out, t1]
   exact ⟨rfl, HW.out⟩
  ·go_wp2_with fail
   refine (e4 _).mono ?_
   rintro e wz ⟨rfl, rfl⟩
   go_wp2_with fail
   go_ret
   rw [HMM.out, t1]
   exact ⟨rfl, HW.out⟩
  ·go_wp2_with fail
   refine (e4 _).mono ?_
   rintro e wz ⟨rfl, rfl⟩
   go_wp2_with fail
   go_ret
   rw [HMM.out, t1]
   exact ⟨rfl, HW.out⟩
  ·go_wp2_with fail
   refine (e4 _).mono ?_
   rintro e wz ⟨rfl, rfl⟩
   go_wp2_with fail
   have hpar := fun W p hp => refEvent_any p W hp
   go_loopw [7] (fun i wr => ∃ j : Nat, j ≤ x.ev.parents.length ∧ i = .int .i64 (j : Int) ∧ (∃ d, wr = w1.drewN d) ∧ Hid (parTo x.ev j = true)) (fun i _ => x.ev.parents.length - (intOf i).toNat)
   case atStart => exact ⟨0, Nat.zero_le _, rfl, ⟨0, rfl⟩, Lib.hid par0⟩
   case round =>
    obtain ⟨j, hj, rfl, ⟨d, rfl⟩, HJ⟩ := hrel
    by_cases hlt : j < x.ev.parents.length
    ·have q1 : decide ((j : Int) < (x.ev.parents.length : Int)) = true := decide_eq_true (by omega)
     obtain ⟨b, off, rfl, hbl, hc, hps⟩ := par_at H.out HPV.out hlt
     have HPB : Hid (parB x.ev j = (eventB (x.ev.parents.getD j ⟨#[]⟩) && !decide (x.ev.parents.getD j ⟨#[]⟩ = x.ev.id) && (decide (j = 0) || Op.bytesLess (x.ev.parents.getD (j - 1) ⟨#[]⟩).toList (x.ev.parents.getD j ⟨#[]⟩).toList))) := Lib.hid rfl
     have i0 : (0 : Int) ≤ (j : Int) := by omega
     have i1 : (j : Int) < (x.ev.parents.length : Int) := by omega
     have HST : Hid (parB x.ev j = false → mayE x.ev = false) := Lib.hid (fun hb => by rw [HMM.out, parTo_stop hlt hb, Bool.and_false])
     have HGO : Hid (parB x.ev j = true → parTo x.ev (j + 1) = true) := Lib.hid (fun hb => by rw [parTo_succ, HJ.out, hb]; rfl)
     by_cases hj0 : j = 0
     ·have q2 : decide (0 < j) = false := decide_eq_false (by omega)
      have HZ := Lib.hid hj0
      clear hj0
      generalize x.ev.parents.getD j ⟨#[]⟩ = p at *
      generalize x.ev.parents.getD (j - 1) ⟨#[]⟩ = p' at *
      go_wp2_with fail
      refine (hpar _ p hps).mono ?_
      rintro e wz ⟨rfl, rfl⟩
      cases hev : eventB p
      ·go_wp2_with fail
       go_quiet (fail)
       go_wp2_with fail
       go_ret
       rw [HST.out (by rw [HPB.out, hev]; rfl)]
       exact ⟨rfl, grow_draws (grow_draws HW.out d) _⟩
      ·by_cases hpi : p = x.ev.id
       ·have q3 : (p.toList == x.ev.id.toList) = true := by rw [keyB]; exact decide_eq_true hpi
        have HPI := Lib.hid hpi
        clear hpi
        go_wp2_with fail
        go_quiet (fail)
        go_wp2_with fail
        go_ret
        rw [HST.out (by rw [HPB.out, hev, decide_eq_true HPI.out]; rfl)]
        exact ⟨rfl, grow_draws (grow_draws HW.out d) _⟩
       ·have q3 : (p.toList == x.ev.id.toList) = false := by rw [keyB]; exact decide_eq_false hpi
        have HJ2 := Lib.hid (HGO.out (by rw [HPB.out, hev, decide_eq_false hpi, decide_eq_true HZ.out]; rfl))
        clear hpi
        go_wp2_with fail
        go_quiet (fail)
        go_wp2_with fail
        go_quiet (fail)
        go_wp2_with fail
        refine ⟨⟨j + 1, by omega, by go_num, ⟨_, rfl⟩, HJ2⟩, ?_⟩
        simp [intOf]; omega
     ·obtain ⟨b', off', e', _, hc', _⟩ := par_at H.out HPV.out (i := j - 1) (by omega)
      injection e' with e'
      injection e' with e1' e2' _
      subst e1' e2'
      have q2 : decide (0 < j) = true := decide_eq_true (by omega)
      have hm1 : max ((j : Int) - 1) 0 = ((j - 1 : Nat) : Int) := by omega
      have i2 : (0 : Int) ≤ ((j - 1 : Nat) : Int) := by omega
      have i3 : ((j - 1 : Nat) : Int) < (x.ev.parents.length : Int) := by omega
      generalize x.ev.parents.getD j ⟨#[]⟩ = p at *
      generalize x.ev.parents.getD (j - 1) ⟨#[]⟩ = p' at *
      go_wp2_with fail
      refine (hpar _ p hps).mono ?_
      rintro e wz ⟨rfl, rfl⟩
      cases hev : eventB p
      ·go_wp2_with fail
       go_quiet (fail)
       go_wp2_with fail
       go_ret
       rw [HST.out (by rw [HPB.out, hev]; rfl)]
       exact ⟨rfl, grow_draws (grow_draws HW.out d) _⟩
      ·by_cases hpi : p = x.ev.id
       ·have q3 : (p.toList == x.ev.id.toList) = true := by rw [keyB]; exact decide_eq_true hpi
        go_wp2_with fail
        go_quiet (fail)
        go_wp2_with fail
        go_ret
        rw [HST.out (by rw [HPB.out, hev, decide_eq_true hpi]; rfl)]
        exact ⟨rfl, grow_draws (grow_draws HW.out d) _⟩
       ·have q3 : (p.toList == x.ev.id.toList) = false := by rw [keyB]; exact decide_eq_false hpi
        cases hbl2 : Op.bytesLess p'.toList p.toList
        ·go_wp2_with fail
         go_quiet (fail)
         go_wp2_with fail
         go_quiet (fail)
         go_wp2_with fail
         go_ret
         rw [HST.out (by rw [HPB.out, hev, decide_eq_false hpi, decide_eq_false hj0, hbl2]; rfl)]
         exact ⟨rfl, grow_draws (grow_draws (grow_draws HW.out d) _) _⟩
        ·have HJ2 := Lib.hid (HGO.out (by rw [HPB.out, hev, decide_eq_false hpi, decide_eq_false hj0, hbl2]; rfl))
         go_wp2_with fail
         go_quiet (fail)
         go_wp2_with fail
         go_quiet (fail)
         go_wp2_with fail
         refine ⟨⟨j + 1, by omega, by go_num, ⟨_, rfl⟩, HJ2⟩, ?_⟩
         simp [intOf]; omega
    ·have q1 : decide ((j : Int) < (x.ev.parents.length : Int)) = false := decide_eq_false (by omega)
     obtain rfl : j = x.ev.parents.length := by omega
     go_wp2_with fail
     go_ret
     rw [HMM.out, t1, HJ.out]
     exact ⟨rfl, grow_draws HW.out d⟩
  ·go_wp2_with fail
   have hpar := fun W p hp => refEvent_any p W hp
   go_loopw [7] (fun i wr => ∃ j : Nat, j ≤ x.ev.parents.length ∧ i = .int .i64 (j : Int) ∧ (∃ d, wr = w1.drewN d) ∧ Hid (parTo x.ev j = true)) (fun i _ => x.ev.parents.length - (intOf i).toNat)
   case atStart => exact ⟨0, Nat.zero_le _, rfl, ⟨0, rfl⟩, Lib.hid par0⟩
   case round =>
    obtain ⟨j, hj, rfl, ⟨d, rfl⟩, HJ⟩ := hrel
    by_cases hlt : j < x.ev.parents.length
    ·have q1 : decide ((j : Int) < (x.ev.parents.length : Int)) = true := decide_eq_true (by omega)
     obtain ⟨b, off, rfl, hbl, hc, hps⟩ := par_at H.out HPV.out hlt
     have HPB : Hid (parB x.ev j = (eventB (x.ev.parents.getD j ⟨#[]⟩) && !decide (x.ev.parents.getD j ⟨#[]⟩ = x.ev.id) && (decide (j = 0) || Op.bytesLess (x.ev.parents.getD (j - 1) ⟨#[]⟩).toList (x.ev.parents.getD j ⟨#[]⟩).toList))) := Lib.hid rfl
     have i0 : (0 : Int) ≤ (j : Int) := by omega
     have i1 : (j : Int) < (x.ev.parents.length : Int) := by omega
     have HST : Hid (parB x.ev j = false → mayE x.ev = false) := Lib.hid (fun hb => by rw [HMM.out, parTo_stop hlt hb, Bool.and_false])
     have HGO : Hid (parB x.ev j = true → parTo x.ev (j + 1) = true) := Lib.hid (fun hb => by rw [parTo_succ, HJ.out, hb]; rfl)
     by_cases hj0 : j = 0
     ·have q2 : decide (0 < j) = false := decide_eq_false (by omega)
      have HZ := Lib.hid hj0
      clear hj0
      generalize x.ev.parents.getD j ⟨#[]⟩ = p at *
      generalize x.ev.parents.getD (j - 1) ⟨#[]⟩ = p' at *
      go_wp2_with fail
      refine (hpar _ p hps).mono ?_
      rintro e wz ⟨rfl, rfl⟩
      cases hev : eventB p
      ·go_wp2_with fail
       go_quiet (fail)
       go_wp2_with fail
       go_ret
       rw [HST.out (by rw [HPB.out, hev]; rfl)]
       exact ⟨rfl, grow_draws (grow_draws HW.out d) _⟩
      ·by_cases hpi : p = x.ev.id
       ·have q3 : (p.toList == x.ev.id.toList) = true := by rw [keyB]; exact decide_eq_true hpi
        have HPI := Lib.hid hpi
        clear hpi
        go_wp2_with fail
        go_quiet (fail)
        go_wp2_with fail
        go_ret
        rw [HST.out (by rw [HPB.out, hev, decide_eq_true HPI.out]; rfl)]
        exact ⟨rfl, grow_draws (grow_draws HW.out d) _⟩
       ·have q3 : (p.toList == x.ev.id.toList) = false := by rw [keyB]; exact decide_eq_false hpi
        have HJ2 := Lib.hid (HGO.out (by rw [HPB.out, hev, decide_eq_false hpi, decide_eq_true HZ.out]; rfl))
        clear hpi
        go_wp2_with fail
        go_quiet (fail)
        go_wp2_with fail
        go_quiet (fail)
        go_wp2_with fail
        refine ⟨⟨j + 1, by omega, by go_num, ⟨_, rfl⟩, HJ2⟩, ?_⟩
        simp [intOf]; omega
     ·obtain ⟨b', off', e', _, hc', _⟩ := par_at H.out HPV.out (i := j - 1) (by omega)
      injection e' with e'
      injection e' with e1' e2' _
      subst e1' e2'
      have q2 : decide (0 < j) = true := decide_eq_true (by omega)
      have hm1 : max ((j : Int) - 1) 0 = ((j - 1 : Nat) : Int) := by omega
      have i2 : (0 : Int) ≤ ((j - 1 : Nat) : Int) := by omega
      have i3 : ((j - 1 : Nat) : Int) < (x.ev.parents.length : Int) := by omega
      generalize x.ev.parents.getD j ⟨#[]⟩ = p at *
      generalize x.ev.parents.getD (j - 1) ⟨#[]⟩ = p' at *
      go_wp2_with fail
      refine (hpar _ p hps).mono ?_
      rintro e wz ⟨rfl, rfl⟩
      cases hev : eventB p
      ·go_wp2_with fail
       go_quiet (fail)
       go_wp2_with fail
       go_ret
       rw [HST.out (by rw [HPB.out, hev]; rfl)]
       exact ⟨rfl, grow_draws (grow_draws HW.out d) _⟩
      ·by_cases hpi : p = x.ev.id
       ·have q3 : (p.toList == x.ev.id.toList) = true := by rw [keyB]; exact decide_eq_true hpi
        go_wp2_with fail
        go_quiet (fail)
        go_wp2_with fail
        go_ret
        rw [HST.out (by rw [HPB.out, hev, decide_eq_true hpi]; rfl)]
        exact ⟨rfl, grow_draws (grow_draws HW.out d) _⟩
       ·have q3 : (p.toList == x.ev.id.toList) = false := by rw [keyB]; exact decide_eq_false hpi
        cases hbl2 : Op.bytesLess p'.toList p.toList
        ·go_wp2_with fail
         go_quiet (fail)
         go_wp2_with fail
         go_quiet (fail)
         go_wp2_with fail
         go_ret
         rw [HST.out (by rw [HPB.out, hev, decide_eq_false hpi, decide_eq_false hj0, hbl2]; rfl)]
         exact ⟨rfl, grow_draws (grow_draws (grow_draws HW.out d) _) _⟩
        ·have HJ2 := Lib.hid (HGO.out (by rw [HPB.out, hev, decide_eq_false hpi, decide_eq_false hj0, hbl2]; rfl))
         go_wp2_with fail
         go_quiet (fail)
         go_wp2_with fail
         go_quiet (fail)
         go_wp2_with fail
         refine ⟨⟨j + 1, by omega, by go_num, ⟨_, rfl⟩, HJ2⟩, ?_⟩
         simp [intOf]; omega
    ·have q1 : decide ((j : Int) < (x.ev.parents.length : Int)) = false := decide_eq_false (by omega)
     obtain rfl : j = x.ev.parents.length := by omega
     go_wp2_with fail
     go_ret
     rw [HMM.out, t1, HJ.out]
     exact ⟨rfl, grow_draws HW.out d⟩
 ·have HM : Hid (mayE x.ev = false) := Lib.hid (by rw [hm, hd]; simp [hh])
  have k1 := hh
  clear hd hm
  go_enter Tryz.func82, Tryz.ntmps82
  go_upto_region 1 with (fail)
  generalize hw1 : w.alloc _ = w1 at HB H ⊢
  have HW : Hid (∃ q os, w1 = Sort.grow (w.drewN q) os) := Lib.hid ⟨0, _, by rw [← hw1, Sort.alloc_eq_grow]; rfl⟩
  clear hw1
  generalize w.heap.size = B at HB ⊢
  have c0 : w1.cell? ⟨B, 0, none⟩ = some (.string x.ev.id) := cell_at HB.out 0
  have c1 : w1.cell? ⟨B, 1, none⟩ = some (.string x.ev.room) := cell_at HB.out 1
  have c2 : w1.cell? ⟨B, 2, none⟩ = some (.slice A x.ev.parents.length cap) := cell_at HB.out 2
  have c3 : w1.cell? ⟨B, 3, none⟩ = some (.string x.ev.thread) := cell_at HB.out 3
  have c4 : w1.cell? ⟨B, 4, none⟩ = some (.string x.ev.user) := cell_at HB.out 4
  have c5 : w1.cell? ⟨B, 5, none⟩ = some (.int .i64 x.ev.does) := cell_at HB.out 5
  go_wp2_with fail
  refine (e1 _).mono ?_
  rintro e wz ⟨rfl, rfl⟩
  go_wp2_with fail
  refine (e2 _).mono ?_
  rintro e wz ⟨rfl, rfl⟩
  go_wp2_with fail
  refine (e3 _).mono ?_
  rintro e wz ⟨rfl, rfl⟩
  go_wp2_with fail
  go_ret
  rw [HM.out]
  exact ⟨rfl, HW.out⟩
 ·have HM : Hid (mayE x.ev = false) := Lib.hid (by rw [hm, hd]; simp [hh])
  obtain ⟨k1, k2⟩ := hh
  clear hd hm
  go_enter Tryz.func82, Tryz.ntmps82
  go_upto_region 1 with (fail)
  generalize hw1 : w.alloc _ = w1 at HB H ⊢
  have HW : Hid (∃ q os, w1 = Sort.grow (w.drewN q) os) := Lib.hid ⟨0, _, by rw [← hw1, Sort.alloc_eq_grow]; rfl⟩
  clear hw1
  generalize w.heap.size = B at HB ⊢
  have c0 : w1.cell? ⟨B, 0, none⟩ = some (.string x.ev.id) := cell_at HB.out 0
  have c1 : w1.cell? ⟨B, 1, none⟩ = some (.string x.ev.room) := cell_at HB.out 1
  have c2 : w1.cell? ⟨B, 2, none⟩ = some (.slice A x.ev.parents.length cap) := cell_at HB.out 2
  have c3 : w1.cell? ⟨B, 3, none⟩ = some (.string x.ev.thread) := cell_at HB.out 3
  have c4 : w1.cell? ⟨B, 4, none⟩ = some (.string x.ev.user) := cell_at HB.out 4
  have c5 : w1.cell? ⟨B, 5, none⟩ = some (.int .i64 x.ev.does) := cell_at HB.out 5
  go_wp2_with fail
  refine (e1 _).mono ?_
  rintro e wz ⟨rfl, rfl⟩
  go_wp2_with fail
  refine (e2 _).mono ?_
  rintro e wz ⟨rfl, rfl⟩
  go_wp2_with fail
  refine (e3 _).mono ?_
  rintro e wz ⟨rfl, rfl⟩
  go_wp2_with fail
  go_ret
  rw [HM.out]
  exact ⟨rfl, HW.out⟩
 ·have HM : Hid (mayE x.ev = false) := Lib.hid (by rw [hm, hd]; simp [hh])
  obtain ⟨k1, k2, k3⟩ := hh
  clear hd hm
  go_enter Tryz.func82, Tryz.ntmps82
  go_upto_region 1 with (fail)
  generalize hw1 : w.alloc _ = w1 at HB H ⊢
  have HW : Hid (∃ q os, w1 = Sort.grow (w.drewN q) os) := Lib.hid ⟨0, _, by rw [← hw1, Sort.alloc_eq_grow]; rfl⟩
  clear hw1
  generalize w.heap.size = B at HB ⊢
  have c0 : w1.cell? ⟨B, 0, none⟩ = some (.string x.ev.id) := cell_at HB.out 0
  have c1 : w1.cell? ⟨B, 1, none⟩ = some (.string x.ev.room) := cell_at HB.out 1
  have c2 : w1.cell? ⟨B, 2, none⟩ = some (.slice A x.ev.parents.length cap) := cell_at HB.out 2
  have c3 : w1.cell? ⟨B, 3, none⟩ = some (.string x.ev.thread) := cell_at HB.out 3
  have c4 : w1.cell? ⟨B, 4, none⟩ = some (.string x.ev.user) := cell_at HB.out 4
  have c5 : w1.cell? ⟨B, 5, none⟩ = some (.int .i64 x.ev.does) := cell_at HB.out 5
  go_wp2_with fail
  refine (e1 _).mono ?_
  rintro e wz ⟨rfl, rfl⟩
  go_wp2_with fail
  refine (e2 _).mono ?_
  rintro e wz ⟨rfl, rfl⟩
  go_wp2_with fail
  refine (e3 _).mono ?_
  rintro e wz ⟨rfl, rfl⟩
  go_wp2_with fail
  go_ret
  rw [HM.out]
  exact ⟨rfl, HW.out⟩
 ·have HM : Hid (mayE x.ev = false) := Lib.hid (by rw [hm, hd]; simp [hh])
  obtain ⟨k1, k2, k3, k4⟩ := hh
  have q4 : decide ((4 : Int) < (x.ev.parents.length : Int)) = true := decide_eq_true (by simp at k4; omega)
  clear k4
  clear hd hm
  go_enter Tryz.func82, Tryz.ntmps82
  go_upto_region 1 with (fail)
  generalize hw1 : w.alloc _ = w1 at HB H ⊢
  have HW : Hid (∃ q os, w1 = Sort.grow (w.drewN q) os) := Lib.hid ⟨0, _, by rw [← hw1, Sort.alloc_eq_grow]; rfl⟩
  clear hw1
  generalize w.heap.size = B at HB ⊢
  have c0 : w1.cell? ⟨B, 0, none⟩ = some (.string x.ev.id) := cell_at HB.out 0
  have c1 : w1.cell? ⟨B, 1, none⟩ = some (.string x.ev.room) := cell_at HB.out 1
  have c2 : w1.cell? ⟨B, 2, none⟩ = some (.slice A x.ev.parents.length cap) := cell_at HB.out 2
  have c3 : w1.cell? ⟨B, 3, none⟩ = some (.string x.ev.thread) := cell_at HB.out 3
  have c4 : w1.cell? ⟨B, 4, none⟩ = some (.string x.ev.user) := cell_at HB.out 4
  have c5 : w1.cell? ⟨B, 5, none⟩ = some (.int .i64 x.ev.does) := cell_at HB.out 5
  go_wp2_with fail
  refine (e1 _).mono ?_
  rintro e wz ⟨rfl, rfl⟩
  go_wp2_with fail
  refine (e2 _).mono ?_
  rintro e wz ⟨rfl, rfl⟩
  go_wp2_with fail
  refine (e3 _).mono ?_
  rintro e wz ⟨rfl, rfl⟩
  go_wp2_with fail
  go_ret
  rw [HM.out]
  exact ⟨rfl, HW.out⟩
 ·have HM : Hid (mayE x.ev = false) := Lib.hid (by rw [hm, hd]; simp [hh])
  obtain ⟨k1, k2, k3, k4, k5⟩ := hh
  have q4 : decide ((4 : Int) < (x.ev.parents.length : Int)) = false := decide_eq_false (by simp at k4; omega)
  have q5 : decide (x.ev.does < 0) = true := decide_eq_true (by simp at k5; omega)
  clear k4 k5
  clear hd hm
  go_enter Tryz.func82, Tryz.ntmps82
  go_upto_region 1 with (fail)
  generalize hw1 : w.alloc _ = w1 at HB H ⊢
  have HW : Hid (∃ q os, w1 = Sort.grow (w.drewN q) os) := Lib.hid ⟨0, _, by rw [← hw1, Sort.alloc_eq_grow]; rfl⟩
  clear hw1
  generalize w.heap.size = B at HB ⊢
  have c0 : w1.cell? ⟨B, 0, none⟩ = some (.string x.ev.id) := cell_at HB.out 0
  have c1 : w1.cell? ⟨B, 1, none⟩ = some (.string x.ev.room) := cell_at HB.out 1
  have c2 : w1.cell? ⟨B, 2, none⟩ = some (.slice A x.ev.parents.length cap) := cell_at HB.out 2
  have c3 : w1.cell? ⟨B, 3, none⟩ = some (.string x.ev.thread) := cell_at HB.out 3
  have c4 : w1.cell? ⟨B, 4, none⟩ = some (.string x.ev.user) := cell_at HB.out 4
  have c5 : w1.cell? ⟨B, 5, none⟩ = some (.int .i64 x.ev.does) := cell_at HB.out 5
  go_wp2_with fail
  refine (e1 _).mono ?_
  rintro e wz ⟨rfl, rfl⟩
  go_wp2_with fail
  refine (e2 _).mono ?_
  rintro e wz ⟨rfl, rfl⟩
  go_wp2_with fail
  refine (e3 _).mono ?_
  rintro e wz ⟨rfl, rfl⟩
  go_wp2_with fail
  go_ret
  rw [HM.out]
  exact ⟨rfl, HW.out⟩
 ·have HM : Hid (mayE x.ev = false) := Lib.hid (by rw [hm, hd]; simp [hh])
  obtain ⟨k1, k2, k3, k4, k5, k6⟩ := hh
  have q4 : decide ((4 : Int) < (x.ev.parents.length : Int)) = false := decide_eq_false (by simp at k4; omega)
  have q5 : decide (x.ev.does < 0) = false := decide_eq_false (by simp at k5; omega)
  have q6 : decide ((2 : Int) < x.ev.does) = true := decide_eq_true (by simp at k6; omega)
  clear k4 k5 k6
  clear hd hm
  go_enter Tryz.func82, Tryz.ntmps82
  go_upto_region 1 with (fail)
  generalize hw1 : w.alloc _ = w1 at HB H ⊢
  have HW : Hid (∃ q os, w1 = Sort.grow (w.drewN q) os) := Lib.hid ⟨0, _, by rw [← hw1, Sort.alloc_eq_grow]; rfl⟩
  clear hw1
  generalize w.heap.size = B at HB ⊢
  have c0 : w1.cell? ⟨B, 0, none⟩ = some (.string x.ev.id) := cell_at HB.out 0
  have c1 : w1.cell? ⟨B, 1, none⟩ = some (.string x.ev.room) := cell_at HB.out 1
  have c2 : w1.cell? ⟨B, 2, none⟩ = some (.slice A x.ev.parents.length cap) := cell_at HB.out 2
  have c3 : w1.cell? ⟨B, 3, none⟩ = some (.string x.ev.thread) := cell_at HB.out 3
  have c4 : w1.cell? ⟨B, 4, none⟩ = some (.string x.ev.user) := cell_at HB.out 4
  have c5 : w1.cell? ⟨B, 5, none⟩ = some (.int .i64 x.ev.does) := cell_at HB.out 5
  go_wp2_with fail
  refine (e1 _).mono ?_
  rintro e wz ⟨rfl, rfl⟩
  go_wp2_with fail
  refine (e2 _).mono ?_
  rintro e wz ⟨rfl, rfl⟩
  go_wp2_with fail
  refine (e3 _).mono ?_
  rintro e wz ⟨rfl, rfl⟩
  go_wp2_with fail
  go_ret
  rw [HM.out]
  exact ⟨rfl, HW.out⟩
end Go.Proofs.YtnnapkakbdpkaaaGreat

namespace Go.Proofs.YtnnapkakbdpkaaaGreat
set_option maxRecDepth 20000
open Go.RowKit
def Gr (w w' : World) : Prop := ∃ q os, w' = Sort.grow (w.drewN q) os
variable {w w' w'' : World}
theorem Gr.refl (w : World) : Gr w w := ⟨0, #[], by rw [Sort.grow_empty]; rfl⟩
theorem Gr.trans (h : Gr w w') (h' : Gr w' w'') : Gr w w'' := by
 obtain ⟨q, os, rfl⟩ := h
 obtain ⟨q', os', rfl⟩ := h'
 exact ⟨q + q', os ++ os', by show Sort.grow (Sort.grow ((w.drewN q).drewN q') os) os' = _; rw [Sort.grow_grow, World.drewN_drewN]⟩
theorem Gr.alloc (h : Gr w w') (o : Obj) : Gr w (w'.alloc o) := h.trans ⟨0, #[o], by rw [Sort.alloc_eq_grow]; rfl⟩
theorem Gr.drewN (h : Gr w w') (n : Nat) : Gr w (w'.drewN n) := h.trans ⟨n, #[], by rw [Sort.grow_empty]⟩
theorem Gr.drew (h : Gr w w') : Gr w w'.drew := h.drewN 1
theorem Gr.setCell (h : Gr w w') {b : Nat} (hb : w.heap.size ≤ b) (i : Nat) (u : Value) : Gr w (w'.setCell ⟨b, i, none⟩ u) := by
 obtain ⟨q, os, rfl⟩ := h
 exact ⟨q, _, by rw [Sort.setCell_eq, Sort.mapBlock_grow_new (w.drewN q) os b _ hb]⟩
theorem Gr.below (h : Gr w w') : Below w.heap.size w w' := by
 obtain ⟨q, os, rfl⟩ := h
 exact ⟨rfl, rfl, rfl, by rw [Sort.size_grow]; exact Nat.le_add_right _ _, fun k hk => Sort.heap_grow_old (w.drewN q) os hk⟩
structure Po where
 depth : Int
 id : ByteArray
def beforeP (a b : Po) : Bool := decide (a.depth < b.depth) || (decide (a.depth = b.depth) && Op.bytesLess a.id.toList b.id.toList)
def cmpP (a b : Po) : Int := bif beforeP a b then -1 else bif beforeP b a then 1 else 0
def Po.val (p : Po) : Value := .agg #[.int .i64 p.depth, .string p.id]
theorem refBefore_any (a b : Po) (w : World) : Calls Tryz.prog 30 #[.agg #[.int .i64 a.depth, .string a.id], .agg #[.int .i64 b.depth, .string b.id]] w fun e w' => e = .returned (.bool (beforeP a b)) ∧ Gr w w' := by
 have hu : beforeP a b = (decide (a.depth < b.depth) || (decide (a.depth = b.depth) && Op.bytesLess a.id.toList b.id.toList)) := rfl
 have hg := fun o1 o2 => ((Gr.refl w).alloc o1).alloc o2
 by_cases h1 : a.depth < b.depth
 ·have q1 : decide (a.depth < b.depth) = true := decide_eq_true h1
  rw [hu, q1, Bool.true_or]
  clear hu h1
  go_enter Tryz.func30, Tryz.ntmps30
  go_wp2_with fail
  go_ret
  exact ⟨rfl, hg _ _⟩
 ·have q1 : decide (a.depth < b.depth) = false := decide_eq_false h1
  rw [hu, q1, Bool.false_or]
  clear hu h1
  by_cases h2 : a.depth = b.depth
  ·have q2 : (a.depth == b.depth) = true := by rw [beq_iff_eq]; exact h2
   rw [decide_eq_true h2, Bool.true_and]
   clear h2
   go_enter Tryz.func30, Tryz.ntmps30
   go_wp2_with fail
   go_ret
   exact ⟨rfl, hg _ _⟩
  ·have q2 : (a.depth == b.depth) = false := by rw [beq_eq_false_iff_ne]; exact h2
   rw [decide_eq_false h2, Bool.false_and]
   clear h2
   go_enter Tryz.func30, Tryz.ntmps30
   go_wp2_with fail
   go_ret
   exact ⟨rfl, hg _ _⟩
end Go.Proofs.YtnnapkakbdpkaaaGreat
