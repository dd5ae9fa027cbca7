/-
  What is there already changes nothing: ParkTwice, walked.
-/
import Derived.Test.YtimlomflgnnmnaaPkK
namespace Go.Proofs.Ytimlomflgnnmnaa
set_option maxRecDepth 20000
open Go.RowKit
set_option linter.unusedVariables false
set_option linter.unusedSimpArgs false

/-- A park that is kept, within its bound, few of which have gone. -/
structure InB (w wr : World) (b : Nat) (v : Value) (p : Pk) (ts : List Th) (m a : Nat) : Prop where
  kp : Kp w wr b v p ts
  most : p.most = m
  len : p.l.length ≤ m
  lost : p.lost ≤ a
theorem InB.put {w wr w' : World} {b : Nat} {v v' : Value} {p : Pk} {ts ts' : List Th} {m a : Nat} {e : Edu} (h : InB w wr b v p ts m a) (hk : Kp w w' b v' (p.put e) ts') : InB w w' b v' (p.put e) ts' m (a + 1) := by
  refine ⟨hk, by rw [p.put_most]; exact h.most, ?_, ?_⟩
  · have := p.put_len e (by rw [h.most]; exact h.len)
    rw [h.most] at this
    exact this
  · have := p.put_lost e
    have := h.lost
    cases hg : p.goes e <;> simp only [hg, cond_true, cond_false] at * <;> omega
theorem InB.start {w wr : World} {b m : Nat} (hk : Kp w wr b (.slice none 0 0) ⟨m, [], 0⟩ []) : InB w wr b (.slice none 0 0) ⟨m, [], 0⟩ [] m 0 := ⟨hk, rfl, Nat.zero_le _, Nat.le_refl _⟩

set_option maxHeartbeats 3200000 in
theorem parkTwice_walk (n : Int) (vv : Value) (l : List Edu) (w : World) (h0 : -9223372036854775808 ≤ n) (h1 : n ≤ 9223372036854775807) (hE : EsS w vv l) :
    Calls Try.prog 6 #[.int .i64 n, vv] w fun e w' => e = .returned (.bool true) ∧ Below w.heap.size w w' := by
  have HA := Lib.hid (fun W => around_any n 6 W h0 h1 (by decide) (by decide))
  have hab := aroundI_bd n 6 (by decide)
  obtain ⟨m, hm1, hm6, hm⟩ := bound6 n
  have HNY := Lib.hid (fun W => pkNew_yes m W hm1 (by omega))
  have HLV := Lib.hid (fun W => lives_any W)
  have HWF := Lib.hid hE.2
  obtain ⟨A, cap, rfl, q1, q2, -⟩ := id hE.1
  unfold maxLen at q2
  have HR := Lib.hid hE.1
  clear hE
  rw [← hm] at HNY
  generalize aroundI n 6 = a6 at *
  have HM6 := Lib.hid hm
  clear hm
  go_enter Try.func6, Try.ntmps6
  go_wp2_with fail
  go_at_call 8
  refine (HA.out _).mono ?_
  rintro e w1 ⟨rfl, rfl⟩
  go_wp2_with fail
  go_at_call 9
  refine (HNY.out _).mono ?_
  rintro e w2 ⟨b, rfl, hk⟩
  have HK : Hid (∃ v p, InB w w2 b v p [] m 0) := Lib.hid ⟨_, _, InB.start hk⟩
  clear hk HA HNY
  go_wp2_with fail
  go_loopw [8] (fun i wr => ∃ a : Nat, i = .int .i64 (a : Int) ∧ a ≤ l.length ∧ a ≤ 8 ∧ Hid (∃ v p, InB w wr b v p [] m a)) (fun i _ => l.length - (intOf i).toNat)
  case atStart => exact ⟨0, rfl, Nat.zero_le _, Nat.zero_le _, HK⟩
  case round =>
    obtain ⟨a, rfl, ha, ha8, HS⟩ := hrel
    clear HK
    obtain ⟨v, p, hIn⟩ := HS.out
    have HI := Lib.hid hIn
    clear hIn HS
    have goOn : (a < l.length ∧ a < 8) ∨ ¬ (a < l.length ∧ a < 8) := Classical.em _
    rcases goOn with ⟨hal, hat⟩ | hno
    · have q3 : decide ((a : Int) < (l.length : Int)) = true := decide_eq_true (by omega)
      have q4 : decide ((a : Int) < 8) = true := decide_eq_true (by omega)
      have hx : l[a]? = some l[a] := List.getElem?_eq_getElem hal
      generalize l[a] = x at hx
      have hxw := HWF.out x (List.mem_of_getElem? hx)
      obtain ⟨bo, oo, rfl, hbo, hco⟩ := (HR.out.below HI.out.kp.below).at hx
      have hiy := index_any (P := Try.prog) knE (by decide) (b := bo) (off := oo) (cap := cap) hal
      simp only [LE] at hiy hco
      obtain ⟨a0, a1, a2, a3, a4, a5, a6', a7, a8, a9, a10⟩ := range11 hco
      have HWT := Lib.hid (fun W => waits_any x W hxw)
      have hbr := wait_brief x
      have hl1 := HI.out.len
      have hl2 := HI.out.lost
      have hl3 := HI.out.most
      have HPT := Lib.hid (fun W (hb : Below wr.heap.size wr W) => (HI.out.kp.later hb).put_any (waitE x) hbr (by omega) (by omega) (by omega))
      have HIP := Lib.hid (fun w' v' (hk : Kp w w' b v' (p.put (waitE x)) []) => HI.out.put hk)
      obtain ⟨y, hy⟩ : ∃ y, waitE x = y := ⟨_, rfl⟩
      rw [hy] at HWT HPT HIP
      clear hx hco hxw hbr hy hl1 hl2 hl3
      obtain ⟨xk, xr, xu, xz, xt, xp, xo, xs, xy, xc, xm⟩ := x
      generalize Pk.put p y = p2 at HPT HIP
      generalize Pk.gone p y = ge at HPT
      generalize Pk.goes p y = gb at HPT
      obtain ⟨yk, yr, yu, yz, yt, yp, yo, ys, yy, yc, ym⟩ := y
      simp only [Edu.val] at *
      go_wp2_with fail
      go_at_call 10
      refine (HWT.out _).mono ?_
      rintro e w5 ⟨rfl, hb⟩
      have HP5 := Lib.hid (HPT.out _ hb)
      clear hb HPT HWT a0 a1 a2 a3 a4 a5 a6' a7 a8 a9 a10 hiy
      go_wp2_with fail
      go_at_call 16
      refine HP5.out.mono ?_
      rintro e w6 ⟨rfl, v6, hk6⟩
      have HK6 : Hid (∃ v p, InB w w6 b v p [] m (a + 1)) := Lib.hid ⟨_, _, HIP.out _ _ hk6⟩
      clear hk6 HP5
      go_wp2_with fail
      refine ⟨⟨a + 1, by go_num, by omega, by omega, HK6⟩, ?_⟩
      simp [intOf]; omega
    · have HLL := Lib.hid (show p.l.length ≤ 100000 by have := HI.out.len; omega)
      have HLO := Lib.hid (show p.lost ≤ 100000 by have := HI.out.lost; omega)
      have HMO := Lib.hid (show p.most ≤ 100000 by have := HI.out.most; omega)
      by_cases hal : a < l.length
      · have q3 : decide ((a : Int) < (l.length : Int)) = true := decide_eq_true (by omega)
        have q4 : decide ((a : Int) < 8) = false := decide_eq_false (by omega)
        go_wp2_with fail
        go_at_call 17
        refine (HI.out.kp.all_any HLL.out).mono ?_
        rintro e w5 ⟨u, rfl, -, hk5⟩
        obtain ⟨Au, cu, rfl, hu1, hu2, -⟩ := id (hk5.is List.mem_cons_self : LE.Slice w5 u p.l)
        unfold maxLen at hu2
        have HK5 := Lib.hid hk5
        clear hk5 HI
        go_wp2_with fail
        go_at_call 19
        refine (pkLost_any HK5.out.pk).mono ?_
        rintro e w6 ⟨rfl, hb6⟩
        have HK6 : Hid (∃ v, Kp w w6 b v p [Th.row LE (.slice Au p.l.length cu) p.l]) := Lib.hid ⟨_, HK5.out.later hb6⟩
        have hmo := p.put_most zeroE
        clear hb6 HK5 hmo
        go_wp2_with fail
        go_loopw [11, 12, 13] (fun i _ _ wr => ∃ k : Nat, i = .int .i64 (k : Int) ∧ k ≤ p.l.length ∧ Hid (∃ v, Kp w wr b v p [Th.row LE (.slice Au p.l.length cu) p.l])) (fun i _ _ _ => p.l.length - (intOf i).toNat)
        case atStart => exact ⟨0, rfl, Nat.zero_le _, HK6⟩
        case round =>
          obtain ⟨k, rfl, hkl, HS⟩ := hrel
          clear HK6
          obtain ⟨v, hk⟩ := HS.out
          have HK := Lib.hid hk
          clear hk HS
          by_cases hkx : k < p.l.length
          · have q5 : decide ((k : Int) < (p.l.length : Int)) = true := decide_eq_true (by omega)
            have hx : p.l[k]? = some p.l[k] := List.getElem?_eq_getElem hkx
            generalize p.l[k] = x at hx
            have hxm := List.mem_of_getElem? hx
            obtain ⟨bo, oo, rfl, hbo, hco⟩ := (HK.out.is List.mem_cons_self : LE.Slice _ _ p.l).at hx
            have hiy := index_any (P := Try.prog) knE (by decide) (b := bo) (off := oo) (cap := cu) hkx
            simp only [LE] at hiy hco
            obtain ⟨a0, a1, a2, a3, a4, a5, a6', a7, a8, a9, a10⟩ := range11 hco
            have HPT := Lib.hid (HK.out.put_any x (HK.out.pk.ok x hxm) HLL.out HLO.out HMO.out)
            obtain ⟨e1, e2, e3⟩ := Pk.put_has (hasP_iff.2 hxm)
            rw [e1, e2, e3] at HPT
            unfold zeroE at HPT
            clear hx hco hxm e1 e2 e3
            obtain ⟨xk, xr, xu, xz, xt, xp, xo, xs, xy, xc, xm⟩ := x
            simp only [Edu.val] at *
            go_wp2_with fail
            go_at_call 16
            refine HPT.out.mono ?_
            rintro e w7 ⟨rfl, v7, hk7⟩
            have HK7 : Hid (∃ v, Kp w (w7.alloc (.cells #[.int .i64 0, .string ⟨#[]⟩, .string ⟨#[]⟩, .string ⟨#[]⟩, .string ⟨#[]⟩, .bool false, .bool false, .int .i64 0, .int .i64 0, .int .i64 0, .int .i64 0] 32)) b v p [Th.row LE (.slice (some ⟨bo, oo, none⟩) p.l.length cu) p.l]) := Lib.hid ⟨_, hk7.later (below_new w7 _)⟩
            clear hk7 HPT HK a0 a1 a2 a3 a4 a5 a6' a7 a8 a9 a10 hiy
            go_wp2_with fail
            refine ⟨⟨k + 1, by go_num, by omega, HK7⟩, ?_⟩
            simp [intOf]; omega
          · have q5 : decide ((k : Int) < (p.l.length : Int)) = false := decide_eq_false (by omega)
            go_wp2_with fail
            go_at_call 17
            refine (HK.out.all_any HLL.out).mono ?_
            rintro e w8 ⟨u2, rfl, -, hk8⟩
            have hsm := sameEdus_any u2 (.slice Au p.l.length cu) p.l p.l w8 (hk8.is List.mem_cons_self) (hk8.is (t := Th.row LE (.slice Au p.l.length cu) p.l) (List.mem_cons_of_mem _ List.mem_cons_self))
            rw [sameL_self] at hsm
            have HSM := Lib.hid hsm
            have HK8 := Lib.hid hk8
            obtain ⟨A2, c2, rfl, -⟩ := id (hk8.is List.mem_cons_self : LE.Slice w8 u2 p.l)
            clear hsm hk8 HK
            go_wp2_with fail
            go_at_call 13
            refine HSM.out.mono ?_
            rintro e w9 ⟨rfl, hb9⟩
            have HK9 := Lib.hid (HK8.out.later hb9)
            clear hb9 HK8 HSM
            go_wp2_with fail
            go_at_call 19
            refine (pkLost_any HK9.out.pk).mono ?_
            rintro e w10 ⟨rfl, hb10⟩
            have HB := Lib.hid (HK9.out.later hb10).below
            clear hb10 HK9
            go_wp2_with fail
            go_at_call 20
            refine (HLV.out _).mono ?_
            rintro e w11 ⟨rfl, hb11⟩
            have HBL := Lib.hid (HB.out.trans (hb11.mono HB.out.size))
            clear hb11 HB
            go_wp2_with fail
            go_ret
            exact ⟨rfl, HBL.out⟩
      · have q3 : decide ((a : Int) < (l.length : Int)) = false := decide_eq_false (by omega)
        go_wp2_with fail
        go_at_call 17
        refine (HI.out.kp.all_any HLL.out).mono ?_
        rintro e w5 ⟨u, rfl, -, hk5⟩
        obtain ⟨Au, cu, rfl, hu1, hu2, -⟩ := id (hk5.is List.mem_cons_self : LE.Slice w5 u p.l)
        unfold maxLen at hu2
        have HK5 := Lib.hid hk5
        clear hk5 HI
        go_wp2_with fail
        go_at_call 19
        refine (pkLost_any HK5.out.pk).mono ?_
        rintro e w6 ⟨rfl, hb6⟩
        have HK6 : Hid (∃ v, Kp w w6 b v p [Th.row LE (.slice Au p.l.length cu) p.l]) := Lib.hid ⟨_, HK5.out.later hb6⟩
        have hmo := p.put_most zeroE
        clear hb6 HK5 hmo
        go_wp2_with fail
        go_loopw [11, 12, 13] (fun i _ _ wr => ∃ k : Nat, i = .int .i64 (k : Int) ∧ k ≤ p.l.length ∧ Hid (∃ v, Kp w wr b v p [Th.row LE (.slice Au p.l.length cu) p.l])) (fun i _ _ _ => p.l.length - (intOf i).toNat)
        case atStart => exact ⟨0, rfl, Nat.zero_le _, HK6⟩
        case round =>
          obtain ⟨k, rfl, hkl, HS⟩ := hrel
          clear HK6
          obtain ⟨v, hk⟩ := HS.out
          have HK := Lib.hid hk
          clear hk HS
          by_cases hkx : k < p.l.length
          · have q5 : decide ((k : Int) < (p.l.length : Int)) = true := decide_eq_true (by omega)
            have hx : p.l[k]? = some p.l[k] := List.getElem?_eq_getElem hkx
            generalize p.l[k] = x at hx
            have hxm := List.mem_of_getElem? hx
            obtain ⟨bo, oo, rfl, hbo, hco⟩ := (HK.out.is List.mem_cons_self : LE.Slice _ _ p.l).at hx
            have hiy := index_any (P := Try.prog) knE (by decide) (b := bo) (off := oo) (cap := cu) hkx
            simp only [LE] at hiy hco
            obtain ⟨a0, a1, a2, a3, a4, a5, a6', a7, a8, a9, a10⟩ := range11 hco
            have HPT := Lib.hid (HK.out.put_any x (HK.out.pk.ok x hxm) HLL.out HLO.out HMO.out)
            obtain ⟨e1, e2, e3⟩ := Pk.put_has (hasP_iff.2 hxm)
            rw [e1, e2, e3] at HPT
            unfold zeroE at HPT
            clear hx hco hxm e1 e2 e3
            obtain ⟨xk, xr, xu, xz, xt, xp, xo, xs, xy, xc, xm⟩ := x
            simp only [Edu.val] at *
            go_wp2_with fail
            go_at_call 16
            refine HPT.out.mono ?_
            rintro e w7 ⟨rfl, v7, hk7⟩
            have HK7 : Hid (∃ v, Kp w (w7.alloc (.cells #[.int .i64 0, .string ⟨#[]⟩, .string ⟨#[]⟩, .string ⟨#[]⟩, .string ⟨#[]⟩, .bool false, .bool false, .int .i64 0, .int .i64 0, .int .i64 0, .int .i64 0] 32)) b v p [Th.row LE (.slice (some ⟨bo, oo, none⟩) p.l.length cu) p.l]) := Lib.hid ⟨_, hk7.later (below_new w7 _)⟩
            clear hk7 HPT HK a0 a1 a2 a3 a4 a5 a6' a7 a8 a9 a10 hiy
            go_wp2_with fail
            refine ⟨⟨k + 1, by go_num, by omega, HK7⟩, ?_⟩
            simp [intOf]; omega
          · have q5 : decide ((k : Int) < (p.l.length : Int)) = false := decide_eq_false (by omega)
            go_wp2_with fail
            go_at_call 17
            refine (HK.out.all_any HLL.out).mono ?_
            rintro e w8 ⟨u2, rfl, -, hk8⟩
            have hsm := sameEdus_any u2 (.slice Au p.l.length cu) p.l p.l w8 (hk8.is List.mem_cons_self) (hk8.is (t := Th.row LE (.slice Au p.l.length cu) p.l) (List.mem_cons_of_mem _ List.mem_cons_self))
            rw [sameL_self] at hsm
            have HSM := Lib.hid hsm
            have HK8 := Lib.hid hk8
            obtain ⟨A2, c2, rfl, -⟩ := id (hk8.is List.mem_cons_self : LE.Slice w8 u2 p.l)
            clear hsm hk8 HK
            go_wp2_with fail
            go_at_call 13
            refine HSM.out.mono ?_
            rintro e w9 ⟨rfl, hb9⟩
            have HK9 := Lib.hid (HK8.out.later hb9)
            clear hb9 HK8 HSM
            go_wp2_with fail
            go_at_call 19
            refine (pkLost_any HK9.out.pk).mono ?_
            rintro e w10 ⟨rfl, hb10⟩
            have HB := Lib.hid (HK9.out.later hb10).below
            clear hb10 HK9
            go_wp2_with fail
            go_at_call 20
            refine (HLV.out _).mono ?_
            rintro e w11 ⟨rfl, hb11⟩
            have HBL := Lib.hid (HB.out.trans (hb11.mono HB.out.size))
            clear hb11 HB
            go_wp2_with fail
            go_ret
            exact ⟨rfl, HBL.out⟩
end Go.Proofs.Ytimlomflgnnmnaa
