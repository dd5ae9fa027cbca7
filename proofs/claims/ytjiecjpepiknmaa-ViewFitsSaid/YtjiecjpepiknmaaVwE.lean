/-
  Package view: is an event of a thread.
-/
import Derived.Test.YtjiecjpepiknmaaVwC
namespace Go.Proofs.Ytjiecjpepiknmaa
set_option maxRecDepth 20000
open Go.RowKit Go.Maps Go.ChangeMaps
set_option linter.unusedVariables false
set_option linter.unusedSimpArgs false
def mainS : ByteArray := ⟨#[109, 97, 105, 110]⟩
theorem event_main {s : ByteArray} (h : eventB s = true) : s ≠ mainS ∧ s ≠ ⟨#[]⟩ := by
  constructor
  · rintro rfl
    revert h
    decide +kernel
  · rintro rfl
    revert h
    decide +kernel
/-- The code's: is an event of a thread? -/
def isOfB (e : Ev) (t : ByteArray) : Bool := if t = ⟨#[]⟩ then true else if t = mainS then decide (e.thread = ⟨#[]⟩) else decide (t = e.id) || decide (t = e.thread)
theorem isOfB_is {e : Ev} (hm : mayE e = true) (t : ByteArray) : isOfB e t = true ↔ (t = ⟨#[]⟩ ∨ t = e.id ∨ (t = mainS ∧ e.thread = ⟨#[]⟩) ∨ (e.thread ≠ ⟨#[]⟩ ∧ t = e.thread)) := by
  have hid : e.id ≠ mainS := by
    unfold mayE headB at hm
    simp only [Bool.and_eq_true] at hm
    exact (event_main hm.1.1.1.1.1.1.1).1
  have hth : e.thread ≠ mainS := by
    unfold mayE thrB at hm
    simp only [Bool.and_eq_true, Bool.or_eq_true, decide_eq_true_eq] at hm
    rcases hm.1.2 with h | h
    · rw [h]; decide
    · exact (event_main h.1.1).1
  unfold isOfB
  by_cases h1 : t = ⟨#[]⟩
  · simp [h1]
  · rw [if_neg h1]
    by_cases h2 : t = mainS
    · rw [if_pos h2, decide_eq_true_eq]
      constructor
      · intro h; exact .inr (.inr (.inl ⟨h2, h⟩))
      · rintro (h | h | h | h)
        · exact absurd h h1
        · exact absurd (h ▸ h2) hid
        · exact h.2
        · exact absurd (h.2 ▸ h2) hth
    · rw [if_neg h2, Bool.or_eq_true, decide_eq_true_eq, decide_eq_true_eq]
      constructor
      · rintro (h | h)
        · exact .inr (.inl h)
        · exact .inr (.inr (.inr ⟨fun e => h1 (h.trans e), h⟩))
      · rintro (h | h | h | h)
        · exact absurd h h1
        · exact .inl h
        · exact absurd h.1 h2
        · exact .inr h.2
theorem fitsL_no {l : List Ev} {id t : ByteArray} (h : hasE l id = false) : fitsL l id t = 4 := by
  unfold hasE at h
  unfold fitsL
  cases hi : idx l id with
  | none => rfl
  | some k => rw [hi] at h; cases h
theorem fitsL_at {l : List Ev} {id t : ByteArray} {k : Nat} {e : Ev} (hk : idx l id = some k) (he : l[k]? = some e) : fitsL l id t = if t = ⟨#[]⟩ ∨ t = id ∨ (t = mainS ∧ e.thread = ⟨#[]⟩) ∨ (e.thread ≠ ⟨#[]⟩ ∧ t = e.thread) then 0 else 7 := by
  unfold fitsL
  rw [hk]
  simp only
  rw [he]
  rfl
theorem fitsL_is {room : ByteArray} {l : List Ev} {y : Ev} (hv : Valid room l) (hy : y ∈ l) (t : ByteArray) : fitsL l y.id t = bif isOfB y t then 0 else 7 := by
  cases hi : idx l y.id with
  | none =>
    have : hasE l y.id = true := has_iff.2 ⟨y, hy, rfl⟩
    unfold hasE at this
    rw [hi] at this
    cases this
  | some k =>
    obtain ⟨x, hx, hxi, _⟩ := idx_some hi
    have e1 : x = y := valid_ids hv (List.mem_of_getElem? hx) hy hxi
    subst e1
    rw [fitsL_at hi hx]
    have hm := (err_zero (hv k x hx)).1
    cases hb : isOfB x t
    · rw [if_neg (fun h => by have := (isOfB_is hm t).2 h; rw [hb] at this; cases this)]
      rfl
    · rw [if_pos ((isOfB_is hm t).1 hb)]
      rfl
section
variable {C : Dags} {w wr w' : World} {vs : List VI} {ts : List Th} {v : VI} {i : Nat}

set_option maxHeartbeats 800000 in
theorem isOf_any (y : EvV) (t : ByteArray) (w : World) : Calls Try.prog 20 #[y.val, .string t] w fun e w' => e = .returned (.bool (isOfB y.ev t)) ∧ Below w.heap.size w w' := by
  have HB := Lib.hid (below_new w (.cells #[.string y.ev.id, .string y.ev.room, .slice y.A y.ev.parents.length y.cap, .string y.ev.thread, .string y.ev.user, .int .i64 y.ev.does] 42))
  have HW := Lib.hid (heap_alloc_new w (.cells #[.string y.ev.id, .string y.ev.room, .slice y.A y.ev.parents.length y.cap, .string y.ev.thread, .string y.ev.user, .int .i64 y.ev.does] 42))
  unfold EvV.val EvV.pv
  go_enter Try.func20, Try.ntmps20
  go_upto_region 1 with (fail)
  generalize w.alloc _ = w0 at HB HW ⊢
  generalize hBB : w.heap.size = B at HW ⊢
  have c0 : w0.cell? ⟨B, 0, none⟩ = some (.string y.ev.id) := cell_at HW.out 0
  have c3 : w0.cell? ⟨B, 3, none⟩ = some (.string y.ev.thread) := cell_at HW.out 3
  by_cases h1 : t = ⟨#[]⟩
  · have HR : Hid (isOfB y.ev t = true) := Lib.hid (by unfold isOfB; rw [if_pos h1])
    have q1 : t.toList.isEmpty = true := by rw [h1, ByteArray.toList_eq]; rfl
    clear h1
    go_wp2_with fail
    go_ret
    exact ⟨by rw [HR.out]; rfl, HB.out⟩
  · have q1 : t.toList.isEmpty = false := by
      rw [Bool.eq_false_iff]
      intro h9
      exact h1 (key_ext (by rw [List.isEmpty_iff.1 h9, ByteArray.toList_eq]))
    by_cases h2 : t = mainS
    · have HR : Hid (isOfB y.ev t = decide (y.ev.thread = ⟨#[]⟩)) := Lib.hid (by unfold isOfB; rw [if_neg h1, if_pos h2])
      have q2 : (t.toList == [109, 97, 105, 110]) = true := by rw [h2, ByteArray.toList_eq]; rfl
      clear h1 h2
      have q3 : (y.ev.thread.toList.isEmpty) = decide (y.ev.thread = ⟨#[]⟩) := by
        rw [Bool.eq_iff_iff, decide_eq_true_eq, List.isEmpty_iff]
        exact ⟨fun h => key_ext (by rw [h, ByteArray.toList_eq]), fun h => by rw [h, ByteArray.toList_eq]⟩
      go_wp2_with fail
      go_ret
      exact ⟨by rw [HR.out]; simp [q3], HB.out⟩
    · have HR : Hid (isOfB y.ev t = (decide (t = y.ev.id) || decide (t = y.ev.thread))) := Lib.hid (by unfold isOfB; rw [if_neg h1, if_neg h2])
      have q2 : (t.toList == [109, 97, 105, 110]) = false := by
        rw [beq_eq_false_iff_ne]
        intro h9
        exact h2 (key_ext (by rw [h9, ByteArray.toList_eq]; rfl))
      have q3 := keyB t y.ev.id
      have q4 := keyB t y.ev.thread
      generalize decide (t = y.ev.id) = b3 at q3 HR
      generalize decide (t = y.ev.thread) = b4 at q4 HR
      clear h1 h2
      cases b3
      · go_wp2_with fail
        go_ret
        exact ⟨by rw [HR.out]; rfl, HB.out⟩
      · go_wp2_with fail
        go_ret
        exact ⟨by rw [HR.out]; rfl, HB.out⟩

set_option maxHeartbeats 1600000 in
theorem viewFits_any (h : Kv C w wr vs ts) (hi : vs[i]? = some v) (room id t : ByteArray) (hr : room.size ≤ 40) (hu : id.size ≤ maxLen) : Calls Try.prog 9 #[.pointer (some ⟨v.g, 0, none⟩), .string room, .string id, .string t] wr fun e w' => e = .returned (.int .i64 (fitsL (ofL v.V room) id t)) ∧ Kv C w w' vs ts := by
  have hl : (ofL v.V room).length ≤ 100 := ((h.cv hi).ok.of_ room).2
  have HVL : Hid (Valid room (ofL v.V room)) := Lib.hid ((h.cv hi).ok.of_ room).1
  have HQ := Lib.hid (dagOf_any h hi room hr)
  have HK := Lib.hid h
  have HI := Lib.hid hi
  clear h hi
  go_enter Try.func9, Try.ntmps9
  go_wp2_with fail
  go_at_call 18
  refine HQ.out.mono ?_
  rintro e w1 ⟨gd, rfl, hd⟩
  have HKD := Lib.hid (hd.kd HK.out HI.out)
  have HC := Lib.hid (C.event id HKD.out.code hl hu)
  clear hd HQ
  go_wp2_with fail
  go_at_call 19
  refine HC.out.mono ?_
  rintro e w2 ⟨y, rfl, hya, hym, hyt, hyh, hc, ht⟩
  have HT := Lib.hid (HKD.out.step hc ht).1.kv
  have HH := Lib.hid hyh
  clear hya hym hyt hc ht HC HKD hyh
  have HKB := Lib.hid (HT.out.later (below_new w2 (.cells #[.string y.ev.id, .string y.ev.room, .slice y.A y.ev.parents.length y.cap, .string y.ev.thread, .string y.ev.user, .int .i64 y.ev.does] 42)))
  have HBX := Lib.hid (heap_alloc_new w2 (.cells #[.string y.ev.id, .string y.ev.room, .slice y.A y.ev.parents.length y.cap, .string y.ev.thread, .string y.ev.user, .int .i64 y.ev.does] 42))
  unfold EvV.val EvV.pv
  cases hh : hasE (ofL v.V room) id
  · have HF : Hid (fitsL (ofL v.V room) id t = 4) := Lib.hid (fitsL_no hh)
    clear hh
    go_wp2_with fail
    go_ret
    exact ⟨by rw [HF.out]; rfl, HKB.out⟩
  · have HF : Hid (fitsL (ofL v.V room) id t = bif isOfB y.ev t then 0 else 7) := Lib.hid (by
      obtain ⟨h1, h2⟩ := HH.out hh
      rw [← h2]
      exact fitsL_is HVL.out h1 t)
    have HIO := Lib.hid (fun W => isOf_any y t W)
    unfold EvV.val EvV.pv at HIO
    clear hh HH
    go_upto_region 4 with (fail)
    generalize w2.alloc _ = w3 at HKB HBX ⊢
    generalize w2.heap.size = B at HBX ⊢
    have r0 : w3.cell? ⟨B, 0, none⟩ = some (.string y.ev.id) := cell_at HBX.out 0
    have r1 : w3.cell? ⟨B, 1, none⟩ = some (.string y.ev.room) := cell_at HBX.out 1
    have r2 : w3.cell? ⟨B, 2, none⟩ = some (.slice y.A y.ev.parents.length y.cap) := cell_at HBX.out 2
    have r3 : w3.cell? ⟨B, 3, none⟩ = some (.string y.ev.thread) := cell_at HBX.out 3
    have r4 : w3.cell? ⟨B, 4, none⟩ = some (.string y.ev.user) := cell_at HBX.out 4
    have r5 : w3.cell? ⟨B, 5, none⟩ = some (.int .i64 y.ev.does) := cell_at HBX.out 5
    generalize isOfB y.ev t = ib at HIO HF
    go_wp2_with fail
    go_at_call 20
    refine (HIO.out _).mono ?_
    rintro e w4 ⟨rfl, hb4⟩
    have HK4 := Lib.hid (HKB.out.later hb4)
    clear hb4 r0 r1 r2 r3 r4 r5
    cases ib
    · go_wp2_with fail
      go_ret
      exact ⟨by rw [HF.out]; rfl, HK4.out⟩
    · go_wp2_with fail
      go_ret
      exact ⟨by rw [HF.out]; rfl, HK4.out⟩
end
end Go.Proofs.Ytjiecjpepiknmaa
