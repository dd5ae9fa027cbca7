/-
  Package dag: which events may be (mayBehind, mayDo, mayThread, May).
-/
import Derived.Test.YtjiecjpepiknmaaGreatMG
import Derived.Test.YtjiecjpepiknmaaGreatDagM
namespace Go.Proofs.YtjiecjpepiknmaaGreat
set_option maxRecDepth 20000
open Go.RowKit
set_option linter.unusedVariables false
set_option linter.unusedSimpArgs false

theorem event_size {s : ByteArray} (h : eventB s = true) : s.size ≤ 17 := by
  unfold eventB at h
  split at h
  · rw [Bool.and_eq_true] at h
    have := (filledB_size h.2).2
    unfold restS at this
    simp only [ByteArray.size_extract] at this
    omega
  · cases h
theorem named_size {c : Int} {s : ByteArray} (h : namedB c s = true) : s.size ≤ 40 := by
  unfold namedB at h
  split at h
  · simp only [Bool.and_eq_true] at h
    have h1 := (filledB_size h.1.2).2
    have h2 := h.2
    unfold serverB at h2
    rw [Bool.and_eq_true] at h2
    have h3 := (filledB_size h2.1).2
    simp only [ByteArray.size_extract] at h1 h3
    omega
  · cases h
/-- What the code looks at, as it parts it. -/
def behB (e : Ev) : Bool := decide (e.parents.length ≤ 4) && parTo e e.parents.length
def doB (e : Ev) : Bool := decide (0 ≤ e.does) && decide (e.does ≤ 2)
theorem mayE_code (e : Ev) : mayE e = (eventB e.id && namedB 33 e.room && namedB 64 e.user && behB e && doB e && thrB e) := by
  unfold mayE headB behB doB
  cases eventB e.id <;> cases namedB 33 e.room <;> cases namedB 64 e.user <;> cases decide (e.parents.length ≤ 4) <;> cases decide (0 ≤ e.does) <;> cases decide (e.does ≤ 2) <;> cases thrB e <;> cases parTo e e.parents.length <;> rfl
theorem leq_less : ∀ a b : List UInt8, (Op.bytesLess a b || a == b) = !Op.bytesLess b a
  | [], [] => by simp [Op.bytesLess]
  | [], _ :: _ => by simp [Op.bytesLess]
  | _ :: _, [] => by simp [Op.bytesLess]
  | a :: x, b :: y => by
    have ih := leq_less x y
    unfold Op.bytesLess
    by_cases h : a < b
    · have h2 : ¬ b < a := by rw [UInt8.lt_iff_toNat_lt] at *; omega
      have h3 : ¬ b = a := fun e => by subst e; exact h2 h
      simp [h, h2, h3]
    · by_cases h2 : b < a
      · have h3 : ¬ a = b := fun e => by subst e; exact h h2
        simp [h, h2, h3]
      · have h3 : a = b := by
          apply UInt8.toNat_inj.1
          rw [UInt8.lt_iff_toNat_lt] at h h2
          omega
        subst h3
        simpa [h] using ih
/-- The parent ahead of the i-th. -/
def lastP (e : Ev) (i : Nat) : ByteArray := if i = 0 then ⟨#[]⟩ else e.parents.getD (i - 1) ⟨#[]⟩
theorem less_nil : ∀ {a : List UInt8}, a ≠ [] → Op.bytesLess [] a = true
  | [], h => absurd rfl h
  | _ :: _, _ => by simp [Op.bytesLess]
theorem parB_code {e : Ev} {i : Nat} {p : ByteArray} (hp : e.parents[i]? = some p) : parB e i = (eventB p && !decide (p = e.id) && Op.bytesLess (lastP e i).toList p.toList) := by
  unfold parB lastP
  rw [List.getD_eq_getElem?_getD, hp, Option.getD_some]
  by_cases h : i = 0
  · subst h
    rw [if_pos rfl, decide_eq_true rfl, Bool.true_or]
    cases he : eventB p
    · rfl
    · have : Op.bytesLess (⟨#[]⟩ : ByteArray).toList p.toList = true := by
        rw [show (⟨#[]⟩ : ByteArray).toList = [] by rw [ByteArray.toList_eq]]
        apply less_nil
        intro h0
        have hs : p = ⟨#[]⟩ := key_ext (by rw [h0, ByteArray.toList_eq])
        subst hs
        exact absurd he (by decide)
      rw [this]
  · rw [if_neg h, decide_eq_false h, Bool.false_or]

set_option maxHeartbeats 1600000 in
theorem mayBehind_any (e : Ev) (v : Value) (w : World) (hv : LT.Slice w v e.parents) (hp : ∀ p ∈ e.parents, p.size ≤ maxLen) :
    Calls Tryz.prog 113 #[.string e.id, v] w fun r w' => r = .returned (.bool (behB e)) ∧ Below w.heap.size w w' := by
  have HV := Lib.hid hv
  have HP := Lib.hid hp
  obtain ⟨A, cap, rfl, h5, hm, -⟩ := id hv
  have hm : cap ≤ 9223372036854775807 := by unfold maxLen at hm; omega
  clear hv hp
  by_cases h4 : e.parents.length ≤ 4
  · have q4 : decide ((4 : Int) < (e.parents.length : Int)) = false := decide_eq_false (by omega)
    have HB : Hid (behB e = parTo e e.parents.length) := Lib.hid (by unfold behB; rw [decide_eq_true h4, Bool.true_and])
    go_enter Tryz.func113, Tryz.ntmps113
    go_wp2_with fail
    go_step3
    go_wp2_with fail
    go_step3
    go_wp2_with fail
    go_loopw [5, 6, 14] (fun r u i wr => ∃ (a : Nat), r = .bool true ∧ u = .string (lastP e a) ∧ i = .int .i64 (a : Int) ∧ a ≤ e.parents.length ∧ Hid (Below w.heap.size w wr) ∧ Hid (parTo e a = true)) (fun _ _ i _ => e.parents.length - (intOf i).toNat)
    case atStart => exact ⟨0, rfl, rfl, rfl, Nat.zero_le _, Lib.hid (Below.refl _ _), Lib.hid rfl⟩
    case round =>
      obtain ⟨a, rfl, rfl, rfl, ha, HBl, HT⟩ := hrel
      by_cases hlt : a < e.parents.length
      · have q1 : decide ((a : Int) < (e.parents.length : Int)) = true := decide_eq_true (by omega)
        have hp : e.parents[a]? = some e.parents[a] := List.getElem?_eq_getElem hlt
        generalize e.parents[a] = p at hp
        have HC := Lib.hid (fun W => event_code p W (HP.out p (List.mem_of_getElem? hp)))
        have HPB := Lib.hid (parB_code hp)
        have HNX : Hid (lastP e (a + 1) = p) := Lib.hid (by unfold lastP; rw [if_neg (Nat.succ_ne_zero a), Nat.add_sub_cancel, List.getD_eq_getElem?_getD, hp]; rfl)
        obtain ⟨bp, op, rfl, hbp, hcp⟩ := text_at HV.out hp
        have hip := index_any (P := Tryz.prog) knT (by decide) (b := bp) (off := op) (cap := cap) hlt
        simp only [LT] at hip
        rw [Nat.mul_one] at hip
        have e3 : wr.cell? ⟨bp, op + a, none⟩ = some (.string p) := (HBl.out.cell (p := ⟨bp, op + a, none⟩) hbp).trans hcp
        clear hp hcp
        go_wp2_with fail
        go_at_call 110
        refine (HC.out _).mono ?_
        rintro r w2 ⟨rfl, b2⟩
        replace HBl := Lib.hid (HBl.out.trans (b2.mono HBl.out.size))
        clear b2 e3 HC
        generalize hev : eventB p = ev at HPB ⊢
        cases ev
        · have HF : Hid (parTo e e.parents.length = false) := Lib.hid (parTo_stop hlt (by rw [HPB.out]; rfl))
          clear HPB
          go_wp2_with fail
          rw [Exit.noGoto_ret]
          go_ret
          exact ⟨by rw [HB.out, HF.out]; rfl, HBl.out⟩
        · generalize hid : (p.toList == e.id.toList) = c
          rw [keyB] at hid
          cases c
          · have q3 : (p.toList == e.id.toList) = false := by rw [keyB]; exact hid
            generalize hlast : lastP e a = la at HPB ⊢
            generalize hls : Op.bytesLess la.toList p.toList = ls at HPB
            cases ls
            · have q5 : (Op.bytesLess p.toList la.toList || p.toList == la.toList) = true := by rw [leq_less, hls]; rfl
              have HF : Hid (parTo e e.parents.length = false) := Lib.hid (parTo_stop hlt (by rw [HPB.out, Bool.and_false]))
              clear HPB hls
              go_wp2_with fail
              rw [Exit.noGoto_ret]
              go_ret
              exact ⟨by rw [HB.out, HF.out]; rfl, HBl.out⟩
            · have q5 : (Op.bytesLess p.toList la.toList || p.toList == la.toList) = false := by rw [leq_less, hls]; rfl
              have HN : Hid (parTo e (a + 1) = true) := Lib.hid (by rw [parTo_succ, HT.out, HPB.out, hid]; rfl)
              clear HPB hls
              go_wp2_with fail
              refine ⟨⟨a + 1, rfl, by rw [HNX.out], by go_num, by omega, HBl, HN⟩, ?_⟩
              simp [intOf]; omega
          · have q3 : (p.toList == e.id.toList) = true := by rw [keyB]; exact hid
            have HF : Hid (parTo e e.parents.length = false) := Lib.hid (parTo_stop hlt (by rw [HPB.out, hid]; rfl))
            clear HPB
            go_wp2_with fail
            rw [Exit.noGoto_ret]
            go_ret
            exact ⟨by rw [HB.out, HF.out]; rfl, HBl.out⟩
      · have q1 : decide ((a : Int) < (e.parents.length : Int)) = false := decide_eq_false (by omega)
        obtain rfl : a = e.parents.length := by omega
        go_wp2_with fail
        rw [Exit.noGoto_ret]
        go_ret
        exact ⟨by rw [HB.out, HT.out]; rfl, HBl.out⟩
  · have q4 : decide ((4 : Int) < (e.parents.length : Int)) = true := decide_eq_true (by omega)
    have HB : Hid (behB e = false) := Lib.hid (by unfold behB; rw [decide_eq_false h4, Bool.false_and])
    go_enter Tryz.func113, Tryz.ntmps113
    go_wp2_with fail
    go_step3
    go_wp2_with fail
    rw [Exit.noGoto_ret]
    go_ret
    exact ⟨by rw [HB.out]; rfl, Below.refl _ _⟩

theorem mayDo_any (e : Ev) (w : World) : Calls Tryz.prog 114 #[.int .i64 e.does] w fun r w' => r = .returned (.bool (doB e)) ∧ w' = w := by
  unfold doB
  by_cases h1 : 0 ≤ e.does
  · have q1 : decide (0 ≤ e.does) = true := decide_eq_true h1
    rw [q1, Bool.true_and]
    go_enter Tryz.func114, Tryz.ntmps114
    go_wp2_with fail
    go_ret
    exact ⟨rfl, rfl⟩
  · have q1 : decide (0 ≤ e.does) = false := decide_eq_false h1
    rw [q1, Bool.false_and]
    go_enter Tryz.func114, Tryz.ntmps114
    go_wp2_with fail
    go_ret
    exact ⟨rfl, rfl⟩
/-- An event's box. -/
theorem box_cells {w : World} {B : Nat} {x : EvV} {t : TypeId} (h : w.heap[B]? = some (.cells #[.string x.ev.id, .string x.ev.room, x.pv, .string x.ev.thread, .string x.ev.user, .int .i64 x.ev.does] t (0, 0))) :
    w.cell? ⟨B, 0, none⟩ = some (.string x.ev.id) ∧ w.cell? ⟨B, 1, none⟩ = some (.string x.ev.room) ∧ w.cell? ⟨B, 2, none⟩ = some x.pv ∧ w.cell? ⟨B, 3, none⟩ = some (.string x.ev.thread) ∧ w.cell? ⟨B, 4, none⟩ = some (.string x.ev.user) ∧ w.cell? ⟨B, 5, none⟩ = some (.int .i64 x.ev.does) :=
  ⟨cell_at h 0, cell_at h 1, cell_at h 2, cell_at h 3, cell_at h 4, cell_at h 5⟩

set_option maxHeartbeats 1600000 in
theorem mayThread_any (x : EvV) (w : World) (hx : x.ev.ok) : Calls Tryz.prog 115 #[x.val] w fun r w' => r = .returned (.bool (thrB x.ev)) ∧ Below w.heap.size w w' := by
  have HC := Lib.hid (fun W => event_code x.ev.thread W hx.2.2.1)
  have HU : Hid (thrB x.ev = ((x.ev.thread.toList == []) || (eventB x.ev.thread && !(x.ev.thread.toList == x.ev.id.toList) && (x.ev.does == 0)))) := Lib.hid (by
    unfold thrB
    rw [← keyB, ← keyB, show (⟨#[]⟩ : ByteArray).toList = [] by rw [ByteArray.toList_eq]]
    congr 2)
  have HBx := Lib.hid (box_new (w := w) #[.string x.ev.id, .string x.ev.room, x.pv, .string x.ev.thread, .string x.ev.user, .int .i64 x.ev.does] 33)
  have HBl := Lib.hid (below_new w (.cells #[.string x.ev.id, .string x.ev.room, x.pv, .string x.ev.thread, .string x.ev.user, .int .i64 x.ev.does] 33))
  rw [show x.val = .agg #[.string x.ev.id, .string x.ev.room, x.pv, .string x.ev.thread, .string x.ev.user, .int .i64 x.ev.does] from rfl]
  clear hx
  unfold EvV.pv at *
  go_enter Tryz.func115, Tryz.ntmps115
  go_upto_region 1 with (fail)
  generalize World.alloc _ _ = w1 at HBx HBl ⊢
  generalize hB : w.heap.size = B at HBx ⊢
  obtain ⟨c0, c1, c2, c3, c4, c5⟩ := box_cells HBx.out
  generalize hth : (x.ev.thread.toList == []) = b1 at HU
  cases b1
  · go_wp2_with fail
    go_at_call 110
    refine (HC.out _).mono ?_
    rintro r w2 ⟨rfl, b2⟩
    replace HBx := Lib.hid ((b2.block B (smem_lt HBx.out)).trans HBx.out)
    replace HBl := Lib.hid (HBl.out.trans (b2.mono HBl.out.size))
    clear b2 HC c0 c1 c2 c3 c4 c5
    obtain ⟨c0, c1, c2, c3, c4, c5⟩ := box_cells HBx.out
    generalize eventB x.ev.thread = ev at HU ⊢
    cases ev
    · go_wp2_with fail
      go_ret
      exact ⟨by rw [HU.out]; rfl, HBl.out⟩
    · generalize hid : (x.ev.thread.toList == x.ev.id.toList) = b3 at HU
      cases b3
      · go_wp2_with fail
        go_ret
        exact ⟨by rw [HU.out]; rfl, HBl.out⟩
      · go_wp2_with fail
        go_ret
        exact ⟨by rw [HU.out]; rfl, HBl.out⟩
  · go_wp2_with fail
    go_ret
    exact ⟨by rw [HU.out]; rfl, HBl.out⟩

set_option maxHeartbeats 1600000 in
theorem may_any (x : EvV) (w : World) (hx : x.at w) : Calls Tryz.prog 83 #[x.val] w fun r w' => r = .returned (.bool (mayE x.ev)) ∧ Below w.heap.size w w' := by
  have HX := Lib.hid hx
  have HC1 := Lib.hid (fun W => event_code x.ev.id W hx.2.1)
  have HC2 := Lib.hid (fun W => room_any x.ev.room W hx.2.2.1)
  have HC3 := Lib.hid (fun W => user_any x.ev.user W hx.2.2.2.2.1)
  have HC5 := Lib.hid (fun W => mayDo_any x.ev W)
  have HC6 := Lib.hid (fun W => mayThread_any x W hx.2)
  have HU := Lib.hid (mayE_code x.ev)
  have HBx := Lib.hid (box_new (w := w) #[.string x.ev.id, .string x.ev.room, x.pv, .string x.ev.thread, .string x.ev.user, .int .i64 x.ev.does] 33)
  have HBl := Lib.hid (below_new w (.cells #[.string x.ev.id, .string x.ev.room, x.pv, .string x.ev.thread, .string x.ev.user, .int .i64 x.ev.does] 33))
  rw [show x.val = .agg #[.string x.ev.id, .string x.ev.room, x.pv, .string x.ev.thread, .string x.ev.user, .int .i64 x.ev.does] from rfl] at *
  clear hx
  unfold EvV.pv at *
  go_enter Tryz.func83, Tryz.ntmps83
  go_upto_region 1 with (fail)
  generalize World.alloc _ _ = w1 at HBx HBl ⊢
  generalize hB : w.heap.size = B at HBx ⊢
  obtain ⟨c0, c1, c2, c3, c4, c5⟩ := box_cells HBx.out
  go_wp2_with fail
  go_at_call 110
  refine (HC1.out _).mono ?_
  rintro r w2 ⟨rfl, b2⟩
  replace HBx := Lib.hid ((b2.block B (smem_lt HBx.out)).trans HBx.out)
  replace HBl := Lib.hid (HBl.out.trans (b2.mono HBl.out.size))
  clear b2 c0 c1 c2 c3 c4 c5
  obtain ⟨c0, c1, c2, c3, c4, c5⟩ := box_cells HBx.out
  generalize eventB x.ev.id = b at HU ⊢
  cases b
  · go_wp2_with fail
    go_ret
    exact ⟨by rw [HU.out]; rfl, HBl.out⟩
  go_wp2_with fail
  go_at_call 111
  refine (HC2.out _).mono ?_
  rintro r w3 ⟨rfl, b2⟩
  replace HBx := Lib.hid ((b2.block B (smem_lt HBx.out)).trans HBx.out)
  replace HBl := Lib.hid (HBl.out.trans (b2.mono HBl.out.size))
  clear b2 c0 c1 c2 c3 c4 c5
  obtain ⟨c0, c1, c2, c3, c4, c5⟩ := box_cells HBx.out
  generalize namedB 33 x.ev.room = b at HU ⊢
  cases b
  · go_wp2_with fail
    go_ret
    exact ⟨by rw [HU.out]; rfl, HBl.out⟩
  go_wp2_with fail
  go_at_call 112
  refine (HC3.out _).mono ?_
  rintro r w4 ⟨rfl, b2⟩
  replace HBx := Lib.hid ((b2.block B (smem_lt HBx.out)).trans HBx.out)
  replace HBl := Lib.hid (HBl.out.trans (b2.mono HBl.out.size))
  clear b2 c0 c1 c2 c3 c4 c5
  obtain ⟨c0, c1, c2, c3, c4, c5⟩ := box_cells HBx.out
  generalize namedB 64 x.ev.user = b at HU ⊢
  cases b
  · go_wp2_with fail
    go_ret
    exact ⟨by rw [HU.out]; rfl, HBl.out⟩
  go_wp2_with fail
  have HC4 := Lib.hid (mayBehind_any x.ev (.slice x.A x.ev.parents.length x.cap) w4 (HX.out.1.below HBl.out) HX.out.2.2.2.2.2.1)
  go_at_call 113
  refine (HC4.out).mono ?_
  rintro r w5 ⟨rfl, b2⟩
  replace HBx := Lib.hid ((b2.block B (smem_lt HBx.out)).trans HBx.out)
  replace HBl := Lib.hid (HBl.out.trans (b2.mono HBl.out.size))
  clear b2 c0 c1 c2 c3 c4 c5
  obtain ⟨c0, c1, c2, c3, c4, c5⟩ := box_cells HBx.out
  generalize behB x.ev = b at HU ⊢
  cases b
  · go_wp2_with fail
    go_ret
    exact ⟨by rw [HU.out]; rfl, HBl.out⟩
  go_wp2_with fail
  go_at_call 114
  refine (HC5.out _).mono ?_
  rintro r _ ⟨rfl, rfl⟩
  generalize doB x.ev = b at HU ⊢
  cases b
  · go_wp2_with fail
    go_ret
    exact ⟨by rw [HU.out]; rfl, HBl.out⟩
  go_wp2_with fail
  go_at_call 115
  refine (HC6.out _).mono ?_
  rintro r w7 ⟨rfl, b2⟩
  replace HBx := Lib.hid ((b2.block B (smem_lt HBx.out)).trans HBx.out)
  replace HBl := Lib.hid (HBl.out.trans (b2.mono HBl.out.size))
  clear b2 c0 c1 c2 c3 c4 c5
  obtain ⟨c0, c1, c2, c3, c4, c5⟩ := box_cells HBx.out
  go_wp2_with fail
  go_ret
  exact ⟨by rw [HU.out]; rfl, HBl.out⟩
end Go.Proofs.YtjiecjpepiknmaaGreat
