/-
  Package parcel: holds and May, walked.
-/
import Derived.Test.YtnabbebkmafakaaEMem
namespace Go.Proofs.Ytnabbebkmafakaa
set_option maxRecDepth 20000
open Go.RowKit
set_option linter.unusedVariables false
set_option linter.unusedSimpArgs false

theorem cells5p {w : World} {g : Nat} {t : TypeId} {x0 x1 x2 x3 x4 : Value} (h : w.heap[g]? = some (.cells #[x0, x1, x2, x3, x4] t (0, 0))) :
    w.cell? ⟨g, 0, none⟩ = some x0 ∧ w.cell? ⟨g, 1, none⟩ = some x1 ∧ w.cell? ⟨g, 2, none⟩ = some x2 ∧ w.cell? ⟨g, 3, none⟩ = some x3 ∧ w.cell? ⟨g, 4, none⟩ = some x4 :=
  ⟨cell_at h 0, cell_at h 1, cell_at h 2, cell_at h 3, cell_at h 4⟩
/-- One box, made ahead of all else, and kept. -/
def Box (w : World) (cs : Array Value) (t : TypeId) (w' : World) : Prop := Below w.heap.size w w' ∧ w'.heap[w.heap.size]? = some (.cells cs t (0, 0))
theorem Box.later {w w' w'' : World} {cs : Array Value} {t : TypeId} (h : Box w cs t w') (hb : Below w'.heap.size w' w'') : Box w cs t w'' :=
  ⟨_root_.Go.Proofs.Ytnabbebkmafakaa.later h.1 hb, (hb.block _ (heap_lt h.2)).trans h.2⟩
theorem Box.new (w : World) (cs : Array Value) (t : TypeId) : Box w cs t (w.alloc (.cells cs t)) := ⟨below_new w _, heap_alloc_new w _⟩
theorem Box.drew {w w' : World} {cs : Array Value} {t : TypeId} (h : Box w cs t w') : Box w cs t w'.drew := ⟨h.1.drew, h.2⟩
/-- May a parcel have these EDUs? -/
def holdsB (ack : Bool) (es : List Edu) : Bool := decide (es.length ≤ 100) && (decide (ack = true → es.length = 0) && es.all mayB)
theorem mayP_holds (p : Par) : mayP p = (serverB p.frm && (serverB p.dest && (decide (p.frm.toList ≠ p.dest.toList) && (decide (1 ≤ p.id ∧ p.id ≤ 1099511627776) && holdsB p.ack p.edus)))) := rfl
theorem all_take_step {es : List Edu} {k : Nat} {e : Edu} (h : (es.take k).all mayB = true) (he : es[k]? = some e) (hm : mayB e = true) : (es.take (k + 1)).all mayB = true := by
  rw [List.take_add_one, he, List.all_append, h]
  simp [hm]
theorem all_not {es : List Edu} {k : Nat} {e : Edu} (he : es[k]? = some e) (hm : mayB e = false) : es.all mayB = false := by
  rw [List.all_eq_false]
  exact ⟨e, List.mem_of_getElem? he, by simp [hm]⟩
theorem mem_at {es : List Edu} {k : Nat} {e : Edu} (he : es[k]? = some e) : e ∈ es := List.mem_of_getElem? he
theorem get_lt {es : List Edu} {k : Nat} (h : k < es.length) : ∃ e, es[k]? = some e := ⟨es[k], List.getElem?_eq_getElem h⟩
theorem maxLen_eq : maxLen = 9223372036854775807 := rfl

theorem well_sizes {e : Edu} (h : e.well) : e.room.size ≤ maxLen ∧ e.user.size ≤ maxLen ∧ e.event.size ≤ maxLen ∧ e.thread.size ≤ maxLen := h.2
theorem mayW_any (e : Edu) (w : World) (h : e.well) : Calls Try.prog 53 #[e.val] w (BoolPost (mayB e) w) := may_any e w h.2.1 h.2.2.1 h.2.2.2.1 h.2.2.2.2
theorem holdsB_yes {ack : Bool} {es : List Edu} (h : es.length ≤ 100) (ha : ack = true → es.length = 0) (hm : es.all mayB = true) : holdsB ack es = true := by
  unfold holdsB
  rw [decide_eq_true h, decide_eq_true ha, hm]
  rfl
theorem holdsB_no {ack : Bool} {es : List Edu} (hm : es.all mayB = false) : holdsB ack es = false := by
  unfold holdsB
  rw [hm]
  simp
theorem holdsB_many {ack : Bool} {es : List Edu} (hm : ¬ (es.length ≤ 100 ∧ (ack = true → es.length = 0))) : holdsB ack es = false := by
  unfold holdsB
  cases h : (decide (es.length ≤ 100) && (decide (ack = true → es.length = 0) && es.all mayB)) with
  | false => rfl
  | true =>
    simp only [Bool.and_eq_true, decide_eq_true_iff] at h
    exact absurd ⟨h.1, h.2.1⟩ hm

set_option maxHeartbeats 1600000 in
theorem holds_any (ack : Bool) (frm dest : ByteArray) (id : Int) (A : Option Addr) (cap : Nat) (es : List Edu) (w : World) (hE : EdusAt w A es.length es) (hl : es.length ≤ maxLen) :
    Calls Try.prog 34 #[.agg #[.bool ack, .string frm, .string dest, .int .i64 id, .slice A es.length cap]] w (BoolPost (holdsB ack es) w) := by
  have HE := Lib.hid hE
  have hM := maxLen_eq
  rw [maxLen_eq] at hl
  clear hM hE
  by_cases hok : es.length ≤ 100 ∧ (ack = true → es.length = 0)
  · obtain ⟨h100, h0⟩ := hok
    have HY := Lib.hid (fun hm : es.all mayB = true => holdsB_yes h100 h0 hm)
    have HN := Lib.hid (fun hm : es.all mayB = false => holdsB_no (ack := ack) hm)
    generalize holdsB ack es = R at *
    go_enter Try.func34, Try.ntmps34
    have q1 : decide ((100 : Int) < (es.length : Int)) = false := by simp; omega
    have q0 : ack = true → decide (0 < es.length) = false := by intro h; have := h0 h; exact decide_eq_false (by omega)
    clear h0
    have hB0 := Lib.hid (fun (o : Obj) => below_new w o)
    cases ack
    all_goals
      first | (have q0' := q0 rfl) | skip
      clear q0
      go_wp2_with fail
      go_loopw [16] (fun i wr => ∃ k : Nat, k ≤ es.length ∧ i = .int .i64 (k : Int) ∧ Hid ((es.take k).all mayB = true) ∧ Hid (Below w.heap.size w wr)) (fun i _ => es.length - (intOf i).toNat)
      case atStart => exact ⟨0, Nat.zero_le _, rfl, Lib.hid (by simp), Lib.hid (below_new w _)⟩
      case round =>
        obtain ⟨k, hk, rfl, hall, hbel⟩ := hrel
        by_cases hlt : k < es.length
        · have q2 : decide ((k : Int) < (es.length : Int)) = true := by simp; omega
          obtain ⟨e, he⟩ := get_lt hlt
          obtain ⟨b, off, rfl, hb, hr⟩ := (HE.out.later' hbel.out).at he
          have hix := fun w => index_edu (b := b) (off := off) (cap := cap) hlt w
          obtain ⟨d0, d1, d2, d3, d4, d5, d6, d7, d8, d9, d10⟩ := range11 hr
          have HM := Lib.hid (fun w => mayW_any e w (HE.out.2.1 e (mem_at he)))
          have HS := Lib.hid (fun hm => all_take_step hall.out he hm)
          have HF := Lib.hid (fun hm => all_not he hm)
          clear hr he
          generalize mayB e = M at *
          obtain ⟨x0, x1, x2, x3, x4, x5, x6, x7, x8, x9, x10⟩ := e
          simp only [Edu.val] at HM d0 d1 d2 d3 d4 d5 d6 d7 d8 d9 d10
          go_wp2_with fail
          refine (HM.out _).mono ?_
          rintro e w1 ⟨rfl, hb1⟩
          have hbel1 := Lib.hid (later (hbel.out.alloc hbel.out.size _) hb1)
          clear hb1 d0 d1 d2 d3 d4 d5 d6 d7 d8 d9 d10 hix HM hb
          cases M
          · have HR := HN.out (HF.out rfl)
            subst HR
            clear HS HF HN HY
            go_wp2_with fail
            go_ret
            exact ⟨rfl, hbel1.out⟩
          · have HS1 := Lib.hid (HS.out rfl)
            clear HS HF
            go_wp2_with fail
            refine ⟨⟨k + 1, by omega, by go_num, HS1, hbel1⟩, ?_⟩
            simp [intOf]; omega
        · obtain rfl : k = es.length := by omega
          have q2 : decide ((es.length : Int) < (es.length : Int)) = false := by simp
          have HR := HY.out (by have := hall.out; rwa [List.take_length] at this)
          subst HR
          clear HN HY
          go_wp2_with fail
          go_ret
          exact ⟨rfl, hbel.out⟩
  · rw [holdsB_many hok]
    go_enter Try.func34, Try.ntmps34
    cases ack
    · have q1 : decide ((100 : Int) < (es.length : Int)) = true := by simp at hok ⊢; omega
      go_wp2_with fail
      go_ret
      exact ⟨rfl, below_new w _⟩
    · have q1 : decide (0 < es.length) = true := by
        refine decide_eq_true ?_
        simp only [true_implies] at hok
        omega
      go_wp2_with fail
      go_ret
      exact ⟨rfl, below_new w _⟩

set_option maxHeartbeats 1600000 in
theorem mayPar_any (p : Par) (A : Option Addr) (cap : Nat) (w : World) (hE : EdusAt w A p.edus.length p.edus) (hl : p.edus.length ≤ maxLen) (hf : p.frm.size ≤ maxLen) (hd : p.dest.size ≤ maxLen) :
    Calls Try.prog 14 #[.agg #[.bool p.ack, .string p.frm, .string p.dest, .int .i64 p.id, .slice A p.edus.length cap]] w (BoolPost (mayP p) w) := by
  have HE := Lib.hid hE
  have HR := mayP_holds p
  obtain ⟨ack, frm, dest, id, es⟩ := p
  simp only at *
  have HH := Lib.hid (fun w' (hb : Below w.heap.size w w') => holds_any ack frm dest id A cap es w' (HE.out.below hb) hl)
  have HT := Lib.hid (Box.new w #[.bool ack, .string frm, .string dest, .int .i64 id, .slice A es.length cap] 33)
  have HF := Lib.hid (fun w => server_any frm w hf)
  have HD := Lib.hid (fun w => server_any dest w hd)
  clear hE HE hl hf hd
  generalize hN : es.length = N at *
  clear hN
  generalize holdsB ack es = H at *
  generalize mayP ⟨ack, frm, dest, id, es⟩ = R at *
  generalize serverB frm = SF at *
  generalize serverB dest = SD at *
  go_enter Try.func14, Try.ntmps14
  go_wp2_with fail
  generalize hW : w.alloc _ = W at *
  clear hW
  refine (HF.out _).mono ?_
  rintro e w1 ⟨rfl, hb1⟩
  replace HT := Lib.hid (HT.out.later hb1)
  clear hb1 W HF
  obtain ⟨d0, d1, d2, d3, d4⟩ := cells5p HT.out.2
  cases SF
  · have HR' : R = false := by rw [HR]; rfl
    subst HR'
    clear HR
    go_wp2_with fail
    go_ret
    exact ⟨rfl, HT.out.1⟩
  go_wp2_with fail
  clear d0 d1 d2 d3 d4
  refine (HD.out _).mono ?_
  rintro e w2 ⟨rfl, hb1⟩
  replace HT := Lib.hid (HT.out.later hb1)
  clear hb1 w1 HD
  obtain ⟨d0, d1, d2, d3, d4⟩ := cells5p HT.out.2
  cases SD
  · have HR' : R = false := by rw [HR]; rfl
    subst HR'
    clear HR
    go_wp2_with fail
    go_ret
    exact ⟨rfl, HT.out.1⟩
  by_cases hne : frm.toList = dest.toList
  · have HR' : R = false := by rw [HR]; simp [hne]
    subst HR'
    have q1 : (frm.toList == dest.toList) = true := by simp [hne]
    clear HR
    go_wp2_with fail
    go_ret
    exact ⟨rfl, HT.out.1⟩
  have q1 : (frm.toList == dest.toList) = false := by simp [hne]
  by_cases h1 : ¬ 1 ≤ id
  · have HR' : R = false := by rw [HR]; simp [h1]
    subst HR'
    have q2 : decide (1 ≤ id) = false := by simp [h1]
    clear HR
    go_wp2_with fail
    go_ret
    exact ⟨rfl, HT.out.1⟩
  replace h1 := Decidable.not_not.1 h1
  have q2 : decide (1 ≤ id) = true := by simp [h1]
  by_cases h2 : ¬ id ≤ 1099511627776
  · have HR' : R = false := by rw [HR]; simp [h2]
    subst HR'
    have q3 : decide (id ≤ 1099511627776) = false := by simp [h2]
    clear HR
    go_wp2_with fail
    go_ret
    exact ⟨rfl, HT.out.1⟩
  replace h2 := Decidable.not_not.1 h2
  have q3 : decide (id ≤ 1099511627776) = true := by simp [h2]
  have HR' : R = H := by rw [HR]; simp [h1, h2, hne]
  subst HR'
  clear HR
  go_wp2_with fail
  clear d0 d1 d2 d3 d4
  refine (HH.out _ HT.out.1).mono ?_
  rintro e w3 ⟨rfl, hb1⟩
  replace HT := Lib.hid (HT.out.later hb1)
  clear hb1 HH
  go_wp2_with fail
  go_ret
  exact ⟨rfl, HT.out.1⟩
end Go.Proofs.Ytnabbebkmafakaa
