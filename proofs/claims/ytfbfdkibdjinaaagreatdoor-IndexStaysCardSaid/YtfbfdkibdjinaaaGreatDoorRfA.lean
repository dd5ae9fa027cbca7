/-
  The document's Ahead (layer 8).
-/
import Derived.Test.YtfbfdkibdjinaaaGreatDoorI8D
import Derived.Test.YtfbfdkibdjinaaaGreatDoorI8C
namespace Go.Proofs.YtfbfdkibdjinaaaGreatDoor
set_option maxRecDepth 20000
open Go.RowKit
set_option linter.unusedVariables false
set_option linter.unusedSimpArgs false

noncomputable def upTo (l : List Ev) (a : ByteArray) (ps : List ByteArray) (d : Nat) : Bool := (ps.take d).any (fun p => decide (p = a) || aheadB l a p)
theorem upTo_succ {l : List Ev} {a p : ByteArray} {ps : List ByteArray} {d : Nat} (h : ps[d]? = some p) : upTo l a ps (d + 1) = (upTo l a ps d || (decide (p = a) || aheadB l a p)) := by
  unfold upTo
  rw [List.take_add_one, h, List.any_append]
  simp
theorem upTo_mono {l : List Ev} {a : ByteArray} {ps : List ByteArray} {d : Nat} (h : upTo l a ps d = true) : upTo l a ps ps.length = true := by
  unfold upTo at *
  rw [List.any_eq_true] at *
  obtain ⟨p, hp, h⟩ := h
  exact ⟨p, by rw [List.take_length]; exact List.mem_of_mem_take hp, h⟩
theorem upTo_all {room : ByteArray} {l : List Ev} {e : Ev} (hv : Valid room l) (he : e ∈ l) (a : ByteArray) : upTo l a e.parents e.parents.length = aheadB l a e.id := by
  unfold upTo
  rw [List.take_length, Bool.eq_iff_iff, aheadB_iff, ahead_iff hv he, List.any_eq_true]
  constructor
  · rintro ⟨p, hp, h⟩
    rw [Bool.or_eq_true, decide_eq_true_eq, aheadB_iff] at h
    exact ⟨p, hp, h.imp (fun e => e.symm) (fun h => h)⟩
  · rintro ⟨p, hp, h⟩
    refine ⟨p, hp, ?_⟩
    rw [Bool.or_eq_true, decide_eq_true_eq, aheadB_iff]
    exact h.imp (fun e => e.symm) (fun h => h)

set_option maxHeartbeats 3200000 in
theorem refAhead_step (room : ByteArray) (v : Value) (xs : List EvV) (a : ByteArray) (hv : Valid room (evs xs)) (hl : xs.length ≤ 1000) (ha : a.size ≤ maxLen) (n : Nat) (b : ByteArray) (w : World) (hn : depthL (evs xs) b ≤ n) (h : EvsS w v xs)
    (ih : ∀ (p : ByteArray) (W : World), depthL (evs xs) p < n → EvsS W v xs → Calls Tryz.prog 13 #[.agg #[.string room, v], .string a, .string p] W fun e w' => e = .returned (.bool (aheadB (evs xs) a p)) ∧ Below W.heap.size W w') :
    Calls Tryz.prog 13 #[.agg #[.string room, v], .string a, .string b] w fun e w' => e = .returned (.bool (aheadB (evs xs) a b)) ∧ Below w.heap.size w w' := by
  obtain ⟨A0, c0, rfl, h1, h2, -⟩ := id h.1
  have hc0 : c0 ≤ 9223372036854775807 := by unfold maxLen at h2; omega
  have HE := Lib.hid h
  have HV := Lib.hid hv
  have HIH := Lib.hid ih
  have HBX := Lib.hid (heap_alloc_new w (.cells #[.string room, .slice A0 xs.length c0] 26))
  have HBN := Lib.hid (below_new w (.cells #[.string room, .slice A0 xs.length c0] 26))
  clear h hv ih h2
  go_enter Tryz.func13, Tryz.ntmps13
  go_upto_region 1 with (fail)
  generalize w.alloc _ = w1 at HBX HBN ⊢
  generalize w.heap.size = B3 at HBX ⊢
  have p0 : w1.cell? ⟨B3, 0, none⟩ = some (.string room) := cell_at HBX.out 0
  have p1 : w1.cell? ⟨B3, 1, none⟩ = some (.slice A0 xs.length c0) := cell_at HBX.out 1
  have HAT := Lib.hid (refAt_any room b (.slice A0 xs.length c0) xs w1 (HE.out.below HBN.out))
  go_wp2_with fail
  go_at_call 33
  refine HAT.out.mono ?_
  rintro e w2 ⟨rfl, hgr⟩
  have hb2 := Gr.below hgr
  have HB2 := Lib.hid (HBN.out.trans (hb2.mono HBN.out.size))
  have HX2 := Lib.hid ((hb2.block B3 (smem_lt HBX.out)).trans HBX.out)
  clear hgr hb2 HAT p0 p1 HBX HBN
  cases hh : hasE (evs xs) b with
  | false =>
    have HR : Hid (aheadB (evs xs) a b = false) := Lib.hid (by
      cases h2 : aheadB (evs xs) a b with
      | false => rfl
      | true => rw [(aheadB_iff.1 h2).last] at hh; cases hh)
    rw [idxI_neg hh]
    go_wp2_with fail
    go_ret
    exact ⟨by rw [HR.out]; rfl, HB2.out⟩
  | true =>
    obtain ⟨i, hi, hii⟩ := idxI_pos hh
    rw [hii]
    obtain ⟨e, he, hid, -⟩ := idx_some hi
    have hil : i < xs.length := by have := (List.getElem?_eq_some_iff.1 he).1; rw [evs_len] at this; exact this
    have hx : xs[i]? = some xs[i] := List.getElem?_eq_getElem hil
    generalize xs[i] = x at hx
    obtain rfl : x.ev = e := by have := evs_get hx; rw [he] at this; injection this with this; exact this.symm
    have HXM : Hid (x.ev ∈ evs xs) := Lib.hid (List.mem_of_getElem? he)
    have HID := Lib.hid hid
    have HUP := Lib.hid (upTo_all HV.out HXM.out a)
    rw [hid] at HUP
    have HXW : Hid (∀ W, Below w.heap.size w W → x.at W) := Lib.hid (fun W hb => (HE.out.2 x (List.mem_of_getElem? hx)).below hb)
    have HDP : Hid (∀ p ∈ x.ev.parents, depthL (evs xs) p < n) := Lib.hid (fun p hp => by have := depth_less HV.out HXM.out hp; rw [hid] at this; omega)
    obtain ⟨b1, o1, rfl, hb1, hr1⟩ := ev_at HE.out hx
    have hix := index_any (P := Tryz.prog) knV (by decide) (b := b1) (off := o1) (cap := c0) hil
    simp only [LV] at hix
    have HC2 : Hid (∀ W, Below w.heap.size w W → W.cell? ⟨b1, o1 + i * 6 + 2, none⟩ = some (.slice x.A x.ev.parents.length x.cap)) := Lib.hid (fun W hb => (hb.cell (p := ⟨b1, o1 + i * 6 + 2, none⟩) hb1).trans (hr1 2 _ rfl))
    have hxcap : x.ev.parents.length ≤ x.cap ∧ x.cap ≤ 9223372036854775807 := by
      obtain ⟨_, _, he, h5, hm, _⟩ := id (HXW.out _ HB2.out).1
      injection he with _ he2 he3
      unfold maxLen at hm
      omega
    have q0 : decide ((i : Int) < 0) = false := decide_eq_false (by omega)
    clear hh hi hii he hid hx hr1
    go_wp2_with fail
    go_loopw [8] (fun j wr => ∃ d : Nat, j = .int .i64 (d : Int) ∧ d ≤ x.ev.parents.length ∧ Hid (upTo (evs xs) a x.ev.parents d = false) ∧ Hid (Below w.heap.size w wr ∧ wr.heap[B3]? = some (.cells #[.string room, .slice (some ⟨b1, o1, none⟩) xs.length c0] 26 (0, 0)))) (fun j _ => x.ev.parents.length - (intOf j).toNat)
    case atStart => exact ⟨0, rfl, Nat.zero_le _, Lib.hid (by simp [upTo]), Lib.hid ⟨HB2.out, HX2.out⟩⟩
    case round =>
      obtain ⟨d, rfl, hd, HU, HW⟩ := hrel
      clear HB2 HX2
      have p0 : wr.cell? ⟨B3, 0, none⟩ = some (.string room) := cell_at HW.out.2 0
      have p1 : wr.cell? ⟨B3, 1, none⟩ = some (.slice (some ⟨b1, o1, none⟩) xs.length c0) := cell_at HW.out.2 1
      have c2 := HC2.out _ HW.out.1
      by_cases hdx : d < x.ev.parents.length
      · have q1 : decide ((d : Int) < (x.ev.parents.length : Int)) = true := decide_eq_true (by omega)
        have hpd : x.ev.parents[d]? = some x.ev.parents[d] := List.getElem?_eq_getElem hdx
        generalize x.ev.parents[d] = p at hpd
        have HPM := Lib.hid (HDP.out p (List.mem_of_getElem? hpd))
        have HUS := Lib.hid (upTo_succ (l := evs xs) (a := a) hpd)
        obtain ⟨b3, o3, hA3, hb3, hr3⟩ := (show LT.Slice wr (.slice x.A x.ev.parents.length x.cap) x.ev.parents from (HXW.out _ HW.out.1).1).at hpd
        have r3 : wr.cell? ⟨b3, o3 + d, none⟩ = some (.string p) := by have := hr3 0 _ rfl; simpa only [LT, Nat.mul_one, Nat.add_zero] using this
        have hi3 := index_any (P := Tryz.prog) knT (by decide) (b := b3) (off := o3) (cap := x.cap) hdx
        simp only [LT] at hi3
        rw [hA3] at c2
        have q2 : (p.toList == a.toList) = decide (p = a) := keyB p a
        have HQ := Lib.hid (HIH.out p wr HPM.out (HE.out.below HW.out.1))
        rw [HU.out, Bool.false_or] at HUS
        generalize aheadB (evs xs) a p = ab at HUS HQ
        generalize decide (p = a) = de at HUS q2
        clear hpd hr3
        cases de with
        | true =>
          have HF : Hid (aheadB (evs xs) a b = true) := Lib.hid (by rw [← HUP.out]; exact upTo_mono (d := d + 1) (by rw [HUS.out]; rfl))
          go_wp2_with fail
          go_ret
          exact ⟨by rw [HF.out]; rfl, HW.out.1⟩
        | false =>
          go_wp2_with fail
          go_at_call 13
          refine HQ.out.mono ?_
          rintro e wq ⟨rfl, hbq⟩
          have HWQ : Hid (Below w.heap.size w wq ∧ wq.heap[B3]? = some (.cells #[.string room, .slice (some ⟨b1, o1, none⟩) xs.length c0] 26 (0, 0))) := Lib.hid ⟨HW.out.1.trans (hbq.mono HW.out.1.size), (hbq.block B3 (smem_lt HW.out.2)).trans HW.out.2⟩
          clear hbq HQ p0 p1 c2 r3
          cases ab with
          | true =>
            have HF : Hid (aheadB (evs xs) a b = true) := Lib.hid (by rw [← HUP.out]; exact upTo_mono (d := d + 1) (by rw [HUS.out]; rfl))
            go_wp2_with fail
            go_ret
            exact ⟨by rw [HF.out]; rfl, HWQ.out.1⟩
          | false =>
            go_wp2_with fail
            refine ⟨⟨d + 1, by go_num, by omega, Lib.hid (by rw [HUS.out]; rfl), HWQ⟩, ?_⟩
            simp [intOf]; omega
      · have q1 : decide ((d : Int) < (x.ev.parents.length : Int)) = false := decide_eq_false (by omega)
        obtain rfl : d = x.ev.parents.length := by omega
        have HF : Hid (aheadB (evs xs) a b = false) := Lib.hid (by rw [← HUP.out]; exact HU.out)
        go_wp2_with fail
        go_ret
        exact ⟨by rw [HF.out]; rfl, HW.out.1⟩

theorem refAhead_any (room : ByteArray) (v : Value) (xs : List EvV) (a : ByteArray) (hv : Valid room (evs xs)) (hl : xs.length ≤ 1000) (ha : a.size ≤ maxLen) :
    ∀ (n : Nat) (b : ByteArray) (w : World), depthL (evs xs) b ≤ n → EvsS w v xs → Calls Tryz.prog 13 #[.agg #[.string room, v], .string a, .string b] w fun e w' => e = .returned (.bool (aheadB (evs xs) a b)) ∧ Below w.heap.size w w' := by
  intro n
  induction n with
  | zero => exact fun b w hn he => refAhead_step room v xs a hv hl ha 0 b w hn he (fun p W hp => by omega)
  | succ n ih => exact fun b w hn he => refAhead_step room v xs a hv hl ha (n + 1) b w hn he (fun p W hp he => ih p W (by omega) he)
end Go.Proofs.YtfbfdkibdjinaaaGreatDoor
