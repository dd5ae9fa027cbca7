/-
  Whether two lists of EDUs, two parcels, are the same: package slices' Equal, parcel's Same, the document's, walked.
-/
import Derived.Test.YtnabbebkmafakaaPReadP
namespace Go.Proofs.Ytnabbebkmafakaa
set_option maxRecDepth 20000
open Go.RowKit
set_option linter.unusedVariables false
set_option linter.unusedSimpArgs false

theorem take_step {a b : List Edu} {k : Nat} {x y : Edu} (h : a.take k = b.take k) (hx : a[k]? = some x) (hy : b[k]? = some y) (he : eqE x y = true) : a.take (k + 1) = b.take (k + 1) := by
  rw [List.take_add_one, List.take_add_one, hx, hy, h, (eqE_iff x y).1 he]
theorem apart_at {a b : List Edu} {k : Nat} {x y : Edu} (hx : a[k]? = some x) (hy : b[k]? = some y) (he : eqE x y = false) : sameL a b = false := by
  cases h : sameL a b with
  | false => rfl
  | true =>
    have h1 := (sameL_iff a b).1 h
    subst h1
    rw [hx] at hy
    injection hy with hy
    subst hy
    rw [(eqE_iff x x).2 rfl] at he
    cases he
theorem apart_len {a b : List Edu} (h : a.length ≠ b.length) : sameL a b = false := by
  cases h1 : sameL a b with
  | false => rfl
  | true => exact absurd (congrArg List.length ((sameL_iff a b).1 h1)) h
theorem same_all {a b : List Edu} (hl : a.length = b.length) (h : a.take a.length = b.take a.length) : sameL a b = true := by
  rw [List.take_length, hl, List.take_length] at h
  exact (sameL_iff a b).2 h

set_option maxHeartbeats 1600000 in
theorem equalE_any (A A' : Option Addr) (cap cap' : Nat) (es es' : List Edu) (w : World) (hE : EdusAt w A es.length es) (hE' : EdusAt w A' es'.length es') (hl : es.length ≤ maxLen) (hl' : es'.length ≤ maxLen) :
    Calls Try.prog 48 #[.slice A es.length cap, .slice A' es'.length cap'] w (BoolPost (sameL es es') w) := by
  have HE := Lib.hid hE
  have HE' := Lib.hid hE'
  rw [maxLen_eq] at hl hl'
  clear hE hE'
  have HNk := Lib.hid (fun (k : Nat) (x y : Edu) (hx : es[k]? = some x) (hy : es'[k]? = some y) h => apart_at hx hy h)
  have HNl := Lib.hid (fun h => apart_len (a := es) (b := es') h)
  have HYl := Lib.hid (fun h1 h2 => same_all (a := es) (b := es') h1 h2)
  generalize sameL es es' = R at *
  go_enter Try.func48, Try.ntmps48
  by_cases hlen : es.length = es'.length
  rotate_left
  · have q1 : ((es.length : Int) == (es'.length : Int)) = false := by simp; omega
    have q2 : decide ((es.length : Int) = (es'.length : Int)) = false := by simp; omega
    have HR := HNl.out hlen
    subst HR
    go_wp2_with fail
    go_ret
    exact ⟨rfl, Below.refl _ _⟩
  have HL := Lib.hid hlen
  generalize hN' : es'.length = N' at *
  subst hlen
  go_wp2_with fail
  go_loopw [13] (fun i wr => ∃ k : Nat, k ≤ es.length ∧ i = .int .i64 (k : Int) ∧ Hid (es.take k = es'.take k) ∧ Hid (Below w.heap.size w wr)) (fun i _ => es.length - (intOf i).toNat)
  case atStart => exact ⟨0, Nat.zero_le _, rfl, Lib.hid rfl, Lib.hid (Below.refl _ _)⟩
  case round =>
    obtain ⟨k, hk, rfl, hsame, hbel⟩ := hrel
    by_cases hlt : k < es.length
    · have q2 : decide ((k : Int) < (es.length : Int)) = true := by simp; omega
      obtain ⟨e, he⟩ := get_lt hlt
      obtain ⟨e', he'⟩ := get_lt (es := es') (k := k) (by omega)
      obtain ⟨b, off, rfl, hb, hr⟩ := (HE.out.below hbel.out).at he
      obtain ⟨b', off', rfl, hb', hr'⟩ := (HE'.out.below hbel.out).at he'
      have hix := fun w => index_edu (b := b) (off := off) (cap := cap) hlt w
      have hix' := fun w => index_edu (b := b') (off := off') (cap := cap') hlt w
      have heq := fun w => eql_edu e e' w
      have HS := Lib.hid (fun h => take_step hsame.out he he' h)
      have HN := Lib.hid (fun h => HNk.out k e e' he he' h)
      obtain ⟨d0, d1, d2, d3, d4, d5, d6, d7, d8, d9, d10⟩ := range11 hr
      obtain ⟨c0, c1, c2, c3, c4, c5, c6, c7, c8, c9, c10⟩ := range11 hr'
      clear he he' hr hr' hsame
      generalize eqE e e' = M at *
      obtain ⟨x0, x1, x2, x3, x4, x5, x6, x7, x8, x9, x10⟩ := e
      obtain ⟨y0, y1, y2, y3, y4, y5, y6, y7, y8, y9, y10⟩ := e'
      simp only [Edu.val] at heq
      simp only at d0 d1 d2 d3 d4 d5 d6 d7 d8 d9 d10 c0 c1 c2 c3 c4 c5 c6 c7 c8 c9 c10
      go_wp2_with fail
      go_quiet (fail)
      clear d0 d1 d2 d3 d4 d5 d6 d7 d8 d9 d10 c0 c1 c2 c3 c4 c5 c6 c7 c8 c9 c10 hix hix' heq
      cases M
      · have HR := HN.out rfl
        subst HR
        clear HN HS HNk HNl HYl
        go_wp2_with fail
        go_ret
        exact ⟨rfl, below_drewN hbel.out _⟩
      · have HS1 := Lib.hid (HS.out rfl)
        clear HN HS
        go_wp2_with fail
        refine ⟨⟨k + 1, by omega, by go_num, HS1, Lib.hid (below_drewN hbel.out _)⟩, ?_⟩
        simp [intOf]; omega
    · obtain rfl : k = es.length := by omega
      have q2 : decide ((es.length : Int) < (es.length : Int)) = false := by simp
      have HR := HYl.out (by first | trivial | rw [hN']) hsame.out
      subst HR
      clear HNk HNl HYl
      go_wp2_with fail
      go_ret
      exact ⟨rfl, hbel.out⟩

set_option maxHeartbeats 1600000 in
theorem sameEdus_any (A A' : Option Addr) (cap cap' : Nat) (es es' : List Edu) (w : World) (hE : EdusAt w A es.length es) (hE' : EdusAt w A' es'.length es') (hl : es.length ≤ maxLen) (hl' : es'.length ≤ maxLen) :
    Calls Try.prog 46 #[.slice A es.length cap, .slice A' es'.length cap'] w (BoolPost (sameL es es') w) := by
  have HE := Lib.hid hE
  have HE' := Lib.hid hE'
  rw [maxLen_eq] at hl hl'
  clear hE hE'
  have HNk := Lib.hid (fun (k : Nat) (x y : Edu) (hx : es[k]? = some x) (hy : es'[k]? = some y) h => apart_at hx hy h)
  have HNl := Lib.hid (fun h => apart_len (a := es) (b := es') h)
  have HYl := Lib.hid (fun h1 h2 => same_all (a := es) (b := es') h1 h2)
  generalize sameL es es' = R at *
  go_enter Try.func46, Try.ntmps46
  by_cases hlen : es.length = es'.length
  rotate_left
  · have q1 : ((es.length : Int) == (es'.length : Int)) = false := by simp; omega
    have q2 : decide ((es.length : Int) = (es'.length : Int)) = false := by simp; omega
    have HR := HNl.out hlen
    subst HR
    go_wp2_with fail
    go_ret
    exact ⟨rfl, Below.refl _ _⟩
  have HL := Lib.hid hlen
  generalize hN' : es'.length = N' at *
  subst hlen
  go_wp2_with fail
  go_loopw [5] (fun i wr => ∃ k : Nat, k ≤ es.length ∧ i = .int .i64 (k : Int) ∧ Hid (es.take k = es'.take k) ∧ Hid (Below w.heap.size w wr)) (fun i _ => es.length - (intOf i).toNat)
  case atStart => exact ⟨0, Nat.zero_le _, rfl, Lib.hid rfl, Lib.hid (Below.refl _ _)⟩
  case round =>
    obtain ⟨k, hk, rfl, hsame, hbel⟩ := hrel
    by_cases hlt : k < es.length
    · have q2 : decide ((k : Int) < (es.length : Int)) = true := by simp; omega
      obtain ⟨e, he⟩ := get_lt hlt
      obtain ⟨e', he'⟩ := get_lt (es := es') (k := k) (by omega)
      obtain ⟨b, off, rfl, hb, hr⟩ := (HE.out.below hbel.out).at he
      obtain ⟨b', off', rfl, hb', hr'⟩ := (HE'.out.below hbel.out).at he'
      have hix := fun w => index_edu (b := b) (off := off) (cap := cap) hlt w
      have hix' := fun w => index_edu (b := b') (off := off') (cap := cap') hlt w
      have heq := fun w => eql_edu e e' w
      have HS := Lib.hid (fun h => take_step hsame.out he he' h)
      have HN := Lib.hid (fun h => HNk.out k e e' he he' h)
      obtain ⟨d0, d1, d2, d3, d4, d5, d6, d7, d8, d9, d10⟩ := range11 hr
      obtain ⟨c0, c1, c2, c3, c4, c5, c6, c7, c8, c9, c10⟩ := range11 hr'
      clear he he' hr hr' hsame
      generalize eqE e e' = M at *
      obtain ⟨x0, x1, x2, x3, x4, x5, x6, x7, x8, x9, x10⟩ := e
      obtain ⟨y0, y1, y2, y3, y4, y5, y6, y7, y8, y9, y10⟩ := e'
      simp only [Edu.val] at heq
      simp only at d0 d1 d2 d3 d4 d5 d6 d7 d8 d9 d10 c0 c1 c2 c3 c4 c5 c6 c7 c8 c9 c10
      go_wp2_with fail
      go_quiet (fail)
      clear d0 d1 d2 d3 d4 d5 d6 d7 d8 d9 d10 c0 c1 c2 c3 c4 c5 c6 c7 c8 c9 c10 hix hix' heq
      cases M
      · have HR := HN.out rfl
        subst HR
        clear HN HS HNk HNl HYl
        go_wp2_with fail
        go_ret
        exact ⟨rfl, below_drewN hbel.out _⟩
      · have HS1 := Lib.hid (HS.out rfl)
        clear HN HS
        go_wp2_with fail
        refine ⟨⟨k + 1, by omega, by go_num, HS1, Lib.hid (below_drewN hbel.out _)⟩, ?_⟩
        simp [intOf]; omega
    · obtain rfl : k = es.length := by omega
      have q2 : decide ((es.length : Int) < (es.length : Int)) = false := by simp
      have HR := HYl.out (by first | trivial | rw [hN']) hsame.out
      subst HR
      clear HNk HNl HYl
      go_wp2_with fail
      go_ret
      exact ⟨rfl, hbel.out⟩

theorem sameP_def (a b : Par) : sameP a b = (sameL a.edus b.edus && ((a.ack == b.ack) && ((a.frm.toList == b.frm.toList) && ((a.dest.toList == b.dest.toList) && (a.id == b.id))))) := rfl
/-- Two boxes, made ahead of all else, and kept. -/
def Boxes (w : World) (a b : Array Value) (t : TypeId) (w' : World) : Prop := Below w.heap.size w w' ∧ w'.heap[w.heap.size]? = some (.cells a t (0, 0)) ∧ w'.heap[w.heap.size + 1]? = some (.cells b t (0, 0))
theorem Boxes.later {w w' w'' : World} {a b : Array Value} {t : TypeId} (h : Boxes w a b t w') (hb : Below w'.heap.size w' w'') : Boxes w a b t w'' :=
  ⟨_root_.Go.Proofs.Ytnabbebkmafakaa.later h.1 hb, (hb.block _ (heap_lt h.2.1)).trans h.2.1, (hb.block _ (heap_lt h.2.2)).trans h.2.2⟩
theorem Boxes.new (w : World) (a b : Array Value) (t : TypeId) : Boxes w a b t ((w.alloc (.cells a t)).alloc (.cells b t)) :=
  ⟨_root_.Go.Proofs.Ytnabbebkmafakaa.later (below_new w _) (below_new _ _), heap_alloc2_old w _ _, heap_alloc2_new w _ _⟩

set_option maxHeartbeats 3200000 in
theorem refSamePar_any (p q : Par) (A A' : Option Addr) (cap cap' : Nat) (w : World) (hE : EdusAt w A p.edus.length p.edus) (hE' : EdusAt w A' q.edus.length q.edus) (hl : p.edus.length ≤ maxLen) (hl' : q.edus.length ≤ maxLen) :
    Calls Try.prog 19 #[.agg #[.bool p.ack, .string p.frm, .string p.dest, .int .i64 p.id, .slice A p.edus.length cap], .agg #[.bool q.ack, .string q.frm, .string q.dest, .int .i64 q.id, .slice A' q.edus.length cap']] w (BoolPost (sameP p q) w) := by
  have HT := Lib.hid (Boxes.new w #[.bool p.ack, .string p.frm, .string p.dest, .int .i64 p.id, .slice A p.edus.length cap] #[.bool q.ack, .string q.frm, .string q.dest, .int .i64 q.id, .slice A' q.edus.length cap'] 24)
  have HR := sameP_def p q
  have HS := Lib.hid (fun w' (hb : Below w.heap.size w w') => sameEdus_any A A' cap cap' p.edus q.edus w' (hE.below hb) (hE'.below hb) hl hl')
  generalize sameP p q = R at *
  obtain ⟨ack, frm, dest, id, es⟩ := p
  obtain ⟨ack', frm', dest', id', es'⟩ := q
  simp only at *
  clear hE hE' hl hl'
  generalize sameL es es' = M at *
  generalize es.length = n at *
  generalize es'.length = n' at *
  go_enter Try.func19, Try.ntmps19
  go_wp2_with fail
  refine (HS.out _ HT.out.1).mono ?_
  rintro e w1 ⟨rfl, hb⟩
  replace HT := Lib.hid (HT.out.later hb)
  clear hb HS
  have HF : ∃ x, (frm.toList == frm'.toList) = x := ⟨_, rfl⟩
  obtain ⟨BF, HF⟩ := HF
  have HD : ∃ x, (dest.toList == dest'.toList) = x := ⟨_, rfl⟩
  obtain ⟨BD, HD⟩ := HD
  have HI : ∃ x, (id == id') = x := ⟨_, rfl⟩
  obtain ⟨BI, HI⟩ := HI
  have HA : ∃ x, (ack == ack') = x := ⟨_, rfl⟩
  obtain ⟨BA, HA⟩ := HA
  have HI2 : decide (id = id') = BI := by rw [← HI]; cases h : id == id' <;> simp_all
  rw [HF, HD, HI, HA] at HR
  have HR := Lib.hid HR
  obtain ⟨d0, d1, d2, d3, d4⟩ := cells5p HT.out.2.1
  obtain ⟨c0, c1, c2, c3, c4⟩ := cells5p HT.out.2.2
  cases M <;> cases BA <;> cases BF <;> cases BD <;> cases BI
  all_goals
    (go_wp2_with fail
     go_ret
     exact ⟨by rw [HR.out]; rfl, HT.out.1⟩)

set_option maxHeartbeats 3200000 in
theorem samePar_any (p q : Par) (A A' : Option Addr) (cap cap' : Nat) (w : World) (hE : EdusAt w A p.edus.length p.edus) (hE' : EdusAt w A' q.edus.length q.edus) (hl : p.edus.length ≤ maxLen) (hl' : q.edus.length ≤ maxLen) :
    Calls Try.prog 22 #[.agg #[.bool p.ack, .string p.frm, .string p.dest, .int .i64 p.id, .slice A p.edus.length cap], .agg #[.bool q.ack, .string q.frm, .string q.dest, .int .i64 q.id, .slice A' q.edus.length cap']] w (BoolPost (sameP p q) w) := by
  have HT := Lib.hid (Boxes.new w #[.bool p.ack, .string p.frm, .string p.dest, .int .i64 p.id, .slice A p.edus.length cap] #[.bool q.ack, .string q.frm, .string q.dest, .int .i64 q.id, .slice A' q.edus.length cap'] 33)
  have HR := sameP_def p q
  have HS := Lib.hid (fun w' (hb : Below w.heap.size w w') => equalE_any A A' cap cap' p.edus q.edus w' (hE.below hb) (hE'.below hb) hl hl')
  generalize sameP p q = R at *
  obtain ⟨ack, frm, dest, id, es⟩ := p
  obtain ⟨ack', frm', dest', id', es'⟩ := q
  simp only at *
  clear hE hE' hl hl'
  generalize sameL es es' = M at *
  generalize es.length = n at *
  generalize es'.length = n' at *
  go_enter Try.func22, Try.ntmps22
  have HF : ∃ x, (frm.toList == frm'.toList) = x := ⟨_, rfl⟩
  obtain ⟨BF, HF⟩ := HF
  have HD : ∃ x, (dest.toList == dest'.toList) = x := ⟨_, rfl⟩
  obtain ⟨BD, HD⟩ := HD
  have HI : ∃ x, (id == id') = x := ⟨_, rfl⟩
  obtain ⟨BI, HI⟩ := HI
  have HA : ∃ x, (ack == ack') = x := ⟨_, rfl⟩
  obtain ⟨BA, HA⟩ := HA
  have HI2 : decide (id = id') = BI := by rw [← HI]; cases h : id == id' <;> simp_all
  rw [HF, HD, HI, HA] at HR
  have HR := Lib.hid HR
  have HT0 := HT
  go_upto_region 1 with (fail)
  generalize hW : (w.alloc _).alloc _ = W at *
  clear hW
  obtain ⟨d0, d1, d2, d3, d4⟩ := cells5p HT.out.2.1
  obtain ⟨c0, c1, c2, c3, c4⟩ := cells5p HT.out.2.2
  cases BA <;> cases BF <;> cases BD <;> cases BI
  all_goals
    (go_wp2_with fail
     first
       | (go_ret
          exact ⟨by rw [HR.out]; cases M <;> rfl, HT.out.1⟩)
       | (refine (HS.out _ HT.out.1).mono ?_
          rintro e w1 ⟨rfl, hb⟩
          replace HT := Lib.hid (HT.out.later hb)
          clear hb HS d0 d1 d2 d3 d4 c0 c1 c2 c3 c4
          go_wp2_with fail
          go_ret
          exact ⟨by rw [HR.out]; cases M <;> rfl, HT.out.1⟩))
end Go.Proofs.Ytnabbebkmafakaa
