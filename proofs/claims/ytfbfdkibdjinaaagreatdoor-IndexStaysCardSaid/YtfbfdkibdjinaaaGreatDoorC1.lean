/-
  Package dag: may, order, memory.
-/
import Derived.Test.YtfbfdkibdjinaaaGreatDoorMG
import Derived.Test.YtfbfdkibdjinaaaGreatDoorB3
import Derived.Test.YtfbfdkibdjinaaaGreatDoorB5
import Derived.BigQuiet
import Derived.Test.YtfbfdkibdjinaaaGreatDoorB8
import Derived.Maps.OwnSet
import Derived.Maps.Range
namespace Go.Proofs.YtfbfdkibdjinaaaGreatDoor
set_option maxRecDepth 20000
open Go.RowKit
set_option linter.unusedVariables false
set_option linter.unusedSimpArgs false

theorem event_size {s : ByteArray} (h : eventB s = true) : s.size ≤ 17 := by
  unfold eventB at h
  split at h
  · rw [Bool.and_eq_true] at h
    have := (filledB_size h.2).2
    unfold restS at this
    simp only [ByteArray.size_extract] at this
    omega
  · cases h
theorem named_size {c : Int} {s : ByteArray} (h : namedB c s = true) : s.size ≤ 40 := by
  unfold namedB at h
  split at h
  · simp only [Bool.and_eq_true] at h
    have h1 := (filledB_size h.1.2).2
    have h2 := h.2
    unfold serverB at h2
    rw [Bool.and_eq_true] at h2
    have h3 := (filledB_size h2.1).2
    simp only [ByteArray.size_extract] at h1 h3
    omega
  · cases h
/-- What the code looks at, as it parts it. -/
def behB (e : Ev) : Bool := decide (e.parents.length ≤ 4) && parTo e e.parents.length
def doB (e : Ev) : Bool := decide (0 ≤ e.does) && decide (e.does ≤ 2)
theorem mayE_code (e : Ev) : mayE e = (eventB e.id && namedB 33 e.room && namedB 64 e.user && behB e && doB e && thrB e) := by
  unfold mayE headB behB doB
  cases eventB e.id <;> cases namedB 33 e.room <;> cases namedB 64 e.user <;> cases decide (e.parents.length ≤ 4) <;> cases decide (0 ≤ e.does) <;> cases decide (e.does ≤ 2) <;> cases thrB e <;> cases parTo e e.parents.length <;> rfl
theorem leq_less : ∀ a b : List UInt8, (Op.bytesLess a b || a == b) = !Op.bytesLess b a
  | [], [] => by simp [Op.bytesLess]
  | [], _ :: _ => by simp [Op.bytesLess]
  | _ :: _, [] => by simp [Op.bytesLess]
  | a :: x, b :: y => by
    have ih := leq_less x y
    unfold Op.bytesLess
    by_cases h : a < b
    · have h2 : ¬ b < a := by rw [UInt8.lt_iff_toNat_lt] at *; omega
      have h3 : ¬ b = a := fun e => by subst e; exact h2 h
      simp [h, h2, h3]
    · by_cases h2 : b < a
      · have h3 : ¬ a = b := fun e => by subst e; exact h h2
        simp [h, h2, h3]
      · have h3 : a = b := by
          apply UInt8.toNat_inj.1
          rw [UInt8.lt_iff_toNat_lt] at h h2
          omega
        subst h3
        simpa [h] using ih
/-- The parent ahead of the i-th. -/
def lastP (e : Ev) (i : Nat) : ByteArray := if i = 0 then ⟨#[]⟩ else e.parents.getD (i - 1) ⟨#[]⟩
theorem less_nil : ∀ {a : List UInt8}, a ≠ [] → Op.bytesLess [] a = true
  | [], h => absurd rfl h
  | _ :: _, _ => by simp [Op.bytesLess]
theorem parB_code {e : Ev} {i : Nat} {p : ByteArray} (hp : e.parents[i]? = some p) : parB e i = (eventB p && !decide (p = e.id) && Op.bytesLess (lastP e i).toList p.toList) := by
  unfold parB lastP
  rw [List.getD_eq_getElem?_getD, hp, Option.getD_some]
  by_cases h : i = 0
  · subst h
    rw [if_pos rfl, decide_eq_true rfl, Bool.true_or]
    cases he : eventB p
    · rfl
    · have : Op.bytesLess (⟨#[]⟩ : ByteArray).toList p.toList = true := by
        rw [show (⟨#[]⟩ : ByteArray).toList = [] by rw [ByteArray.toList_eq]]
        apply less_nil
        intro h0
        have hs : p = ⟨#[]⟩ := key_ext (by rw [h0, ByteArray.toList_eq])
        subst hs
        exact absurd he (by decide)
      rw [this]
  · rw [if_neg h, decide_eq_false h, Bool.false_or]

set_option maxHeartbeats 1600000 in
theorem mayBehind_any (e : Ev) (v : Value) (w : World) (hv : LT.Slice w v e.parents) (hp : ∀ p ∈ e.parents, p.size ≤ maxLen) :
    Calls Tryz.prog 64 #[.string e.id, v] w fun r w' => r = .returned (.bool (behB e)) ∧ Below w.heap.size w w' := by
  have HV := Lib.hid hv
  have HP := Lib.hid hp
  obtain ⟨A, cap, rfl, h5, hm, -⟩ := id hv
  have hm : cap ≤ 9223372036854775807 := by unfold maxLen at hm; omega
  clear hv hp
  by_cases h4 : e.parents.length ≤ 4
  · have q4 : decide ((4 : Int) < (e.parents.length : Int)) = false := decide_eq_false (by omega)
    have HB : Hid (behB e = parTo e e.parents.length) := Lib.hid (by unfold behB; rw [decide_eq_true h4, Bool.true_and])
    go_enter Tryz.func64, Tryz.ntmps64
    go_wp2_with fail
    go_step3
    go_wp2_with fail
    go_step3
    go_wp2_with fail
    go_loopw [5, 6, 14] (fun r u i wr => ∃ (a : Nat), r = .bool true ∧ u = .string (lastP e a) ∧ i = .int .i64 (a : Int) ∧ a ≤ e.parents.length ∧ Hid (Below w.heap.size w wr) ∧ Hid (parTo e a = true)) (fun _ _ i _ => e.parents.length - (intOf i).toNat)
    case atStart => exact ⟨0, rfl, rfl, rfl, Nat.zero_le _, Lib.hid (Below.refl _ _), Lib.hid rfl⟩
    case round =>
      obtain ⟨a, rfl, rfl, rfl, ha, HBl, HT⟩ := hrel
      by_cases hlt : a < e.parents.length
      · have q1 : decide ((a : Int) < (e.parents.length : Int)) = true := decide_eq_true (by omega)
        have hp : e.parents[a]? = some e.parents[a] := List.getElem?_eq_getElem hlt
        generalize e.parents[a] = p at hp
        have HC := Lib.hid (fun W => event_code p W (HP.out p (List.mem_of_getElem? hp)))
        have HPB := Lib.hid (parB_code hp)
        have HNX : Hid (lastP e (a + 1) = p) := Lib.hid (by unfold lastP; rw [if_neg (Nat.succ_ne_zero a), Nat.add_sub_cancel, List.getD_eq_getElem?_getD, hp]; rfl)
        obtain ⟨bp, op, rfl, hbp, hcp⟩ := text_at HV.out hp
        have hip := index_any (P := Tryz.prog) knT (by decide) (b := bp) (off := op) (cap := cap) hlt
        simp only [LT] at hip
        rw [Nat.mul_one] at hip
        have e3 : wr.cell? ⟨bp, op + a, none⟩ = some (.string p) := (HBl.out.cell (p := ⟨bp, op + a, none⟩) hbp).trans hcp
        clear hp hcp
        go_wp2_with fail
        go_at_call 61
        refine (HC.out _).mono ?_
        rintro r w2 ⟨rfl, b2⟩
        replace HBl := Lib.hid (HBl.out.trans (b2.mono HBl.out.size))
        clear b2 e3 HC
        generalize hev : eventB p = ev at HPB ⊢
        cases ev
        · have HF : Hid (parTo e e.parents.length = false) := Lib.hid (parTo_stop hlt (by rw [HPB.out]; rfl))
          clear HPB
          go_wp2_with fail
          rw [Exit.noGoto_ret]
          go_ret
          exact ⟨by rw [HB.out, HF.out]; rfl, HBl.out⟩
        · generalize hid : (p.toList == e.id.toList) = c
          rw [keyB] at hid
          cases c
          · have q3 : (p.toList == e.id.toList) = false := by rw [keyB]; exact hid
            generalize hlast : lastP e a = la at HPB ⊢
            generalize hls : Op.bytesLess la.toList p.toList = ls at HPB
            cases ls
            · have q5 : (Op.bytesLess p.toList la.toList || p.toList == la.toList) = true := by rw [leq_less, hls]; rfl
              have HF : Hid (parTo e e.parents.length = false) := Lib.hid (parTo_stop hlt (by rw [HPB.out, Bool.and_false]))
              clear HPB hls
              go_wp2_with fail
              rw [Exit.noGoto_ret]
              go_ret
              exact ⟨by rw [HB.out, HF.out]; rfl, HBl.out⟩
            · have q5 : (Op.bytesLess p.toList la.toList || p.toList == la.toList) = false := by rw [leq_less, hls]; rfl
              have HN : Hid (parTo e (a + 1) = true) := Lib.hid (by rw [parTo_succ, HT.out, HPB.out, hid]; rfl)
              clear HPB hls
              go_wp2_with fail
              refine ⟨⟨a + 1, rfl, by rw [HNX.out], by go_num, by omega, HBl, HN⟩, ?_⟩
              simp [intOf]; omega
          · have q3 : (p.toList == e.id.toList) = true := by rw [keyB]; exact hid
            have HF : Hid (parTo e e.parents.length = false) := Lib.hid (parTo_stop hlt (by rw [HPB.out, hid]; rfl))
            clear HPB
            go_wp2_with fail
            rw [Exit.noGoto_ret]
            go_ret
            exact ⟨by rw [HB.out, HF.out]; rfl, HBl.out⟩
      · have q1 : decide ((a : Int) < (e.parents.length : Int)) = false := decide_eq_false (by omega)
        obtain rfl : a = e.parents.length := by omega
        go_wp2_with fail
        rw [Exit.noGoto_ret]
        go_ret
        exact ⟨by rw [HB.out, HT.out]; rfl, HBl.out⟩
  · have q4 : decide ((4 : Int) < (e.parents.length : Int)) = true := decide_eq_true (by omega)
    have HB : Hid (behB e = false) := Lib.hid (by unfold behB; rw [decide_eq_false h4, Bool.false_and])
    go_enter Tryz.func64, Tryz.ntmps64
    go_wp2_with fail
    go_step3
    go_wp2_with fail
    rw [Exit.noGoto_ret]
    go_ret
    exact ⟨by rw [HB.out]; rfl, Below.refl _ _⟩

theorem mayDo_any (e : Ev) (w : World) : Calls Tryz.prog 65 #[.int .i64 e.does] w fun r w' => r = .returned (.bool (doB e)) ∧ w' = w := by
  unfold doB
  by_cases h1 : 0 ≤ e.does
  · have q1 : decide (0 ≤ e.does) = true := decide_eq_true h1
    rw [q1, Bool.true_and]
    go_enter Tryz.func65, Tryz.ntmps65
    go_wp2_with fail
    go_ret
    exact ⟨rfl, rfl⟩
  · have q1 : decide (0 ≤ e.does) = false := decide_eq_false h1
    rw [q1, Bool.false_and]
    go_enter Tryz.func65, Tryz.ntmps65
    go_wp2_with fail
    go_ret
    exact ⟨rfl, rfl⟩
/-- An event's box. -/
theorem box_cells {w : World} {B : Nat} {x : EvV} {t : TypeId} (h : w.heap[B]? = some (.cells #[.string x.ev.id, .string x.ev.room, x.pv, .string x.ev.thread, .string x.ev.user, .int .i64 x.ev.does] t (0, 0))) :
    w.cell? ⟨B, 0, none⟩ = some (.string x.ev.id) ∧ w.cell? ⟨B, 1, none⟩ = some (.string x.ev.room) ∧ w.cell? ⟨B, 2, none⟩ = some x.pv ∧ w.cell? ⟨B, 3, none⟩ = some (.string x.ev.thread) ∧ w.cell? ⟨B, 4, none⟩ = some (.string x.ev.user) ∧ w.cell? ⟨B, 5, none⟩ = some (.int .i64 x.ev.does) :=
  ⟨cell_at h 0, cell_at h 1, cell_at h 2, cell_at h 3, cell_at h 4, cell_at h 5⟩

set_option maxHeartbeats 1600000 in
theorem mayThread_any (x : EvV) (w : World) (hx : x.ev.ok) : Calls Tryz.prog 66 #[x.val] w fun r w' => r = .returned (.bool (thrB x.ev)) ∧ Below w.heap.size w w' := by
  have HC := Lib.hid (fun W => event_code x.ev.thread W hx.2.2.1)
  have HU : Hid (thrB x.ev = ((x.ev.thread.toList == []) || (eventB x.ev.thread && !(x.ev.thread.toList == x.ev.id.toList) && (x.ev.does == 0)))) := Lib.hid (by
    unfold thrB
    rw [← keyB, ← keyB, show (⟨#[]⟩ : ByteArray).toList = [] by rw [ByteArray.toList_eq]]
    congr 2)
  have HBx := Lib.hid (box_new (w := w) #[.string x.ev.id, .string x.ev.room, x.pv, .string x.ev.thread, .string x.ev.user, .int .i64 x.ev.does] 45)
  have HBl := Lib.hid (below_new w (.cells #[.string x.ev.id, .string x.ev.room, x.pv, .string x.ev.thread, .string x.ev.user, .int .i64 x.ev.does] 45))
  rw [show x.val = .agg #[.string x.ev.id, .string x.ev.room, x.pv, .string x.ev.thread, .string x.ev.user, .int .i64 x.ev.does] from rfl]
  clear hx
  unfold EvV.pv at *
  go_enter Tryz.func66, Tryz.ntmps66
  go_upto_region 1 with (fail)
  generalize World.alloc _ _ = w1 at HBx HBl ⊢
  generalize hB : w.heap.size = B at HBx ⊢
  obtain ⟨c0, c1, c2, c3, c4, c5⟩ := box_cells HBx.out
  generalize hth : (x.ev.thread.toList == []) = b1 at HU
  cases b1
  · go_wp2_with fail
    go_at_call 61
    refine (HC.out _).mono ?_
    rintro r w2 ⟨rfl, b2⟩
    replace HBx := Lib.hid ((b2.block B (smem_lt HBx.out)).trans HBx.out)
    replace HBl := Lib.hid (HBl.out.trans (b2.mono HBl.out.size))
    clear b2 HC c0 c1 c2 c3 c4 c5
    obtain ⟨c0, c1, c2, c3, c4, c5⟩ := box_cells HBx.out
    generalize eventB x.ev.thread = ev at HU ⊢
    cases ev
    · go_wp2_with fail
      go_ret
      exact ⟨by rw [HU.out]; rfl, HBl.out⟩
    · generalize hid : (x.ev.thread.toList == x.ev.id.toList) = b3 at HU
      cases b3
      · go_wp2_with fail
        go_ret
        exact ⟨by rw [HU.out]; rfl, HBl.out⟩
      · go_wp2_with fail
        go_ret
        exact ⟨by rw [HU.out]; rfl, HBl.out⟩
  · go_wp2_with fail
    go_ret
    exact ⟨by rw [HU.out]; rfl, HBl.out⟩

set_option maxHeartbeats 1600000 in
theorem may_any (x : EvV) (w : World) (hx : x.at w) : Calls Tryz.prog 44 #[x.val] w fun r w' => r = .returned (.bool (mayE x.ev)) ∧ Below w.heap.size w w' := by
  have HX := Lib.hid hx
  have HC1 := Lib.hid (fun W => event_code x.ev.id W hx.2.1)
  have HC2 := Lib.hid (fun W => room_any x.ev.room W hx.2.2.1)
  have HC3 := Lib.hid (fun W => user_any x.ev.user W hx.2.2.2.2.1)
  have HC5 := Lib.hid (fun W => mayDo_any x.ev W)
  have HC6 := Lib.hid (fun W => mayThread_any x W hx.2)
  have HU := Lib.hid (mayE_code x.ev)
  have HBx := Lib.hid (box_new (w := w) #[.string x.ev.id, .string x.ev.room, x.pv, .string x.ev.thread, .string x.ev.user, .int .i64 x.ev.does] 45)
  have HBl := Lib.hid (below_new w (.cells #[.string x.ev.id, .string x.ev.room, x.pv, .string x.ev.thread, .string x.ev.user, .int .i64 x.ev.does] 45))
  rw [show x.val = .agg #[.string x.ev.id, .string x.ev.room, x.pv, .string x.ev.thread, .string x.ev.user, .int .i64 x.ev.does] from rfl] at *
  clear hx
  unfold EvV.pv at *
  go_enter Tryz.func44, Tryz.ntmps44
  go_upto_region 1 with (fail)
  generalize World.alloc _ _ = w1 at HBx HBl ⊢
  generalize hB : w.heap.size = B at HBx ⊢
  obtain ⟨c0, c1, c2, c3, c4, c5⟩ := box_cells HBx.out
  go_wp2_with fail
  go_at_call 61
  refine (HC1.out _).mono ?_
  rintro r w2 ⟨rfl, b2⟩
  replace HBx := Lib.hid ((b2.block B (smem_lt HBx.out)).trans HBx.out)
  replace HBl := Lib.hid (HBl.out.trans (b2.mono HBl.out.size))
  clear b2 c0 c1 c2 c3 c4 c5
  obtain ⟨c0, c1, c2, c3, c4, c5⟩ := box_cells HBx.out
  generalize eventB x.ev.id = b at HU ⊢
  cases b
  · go_wp2_with fail
    go_ret
    exact ⟨by rw [HU.out]; rfl, HBl.out⟩
  go_wp2_with fail
  go_at_call 62
  refine (HC2.out _).mono ?_
  rintro r w3 ⟨rfl, b2⟩
  replace HBx := Lib.hid ((b2.block B (smem_lt HBx.out)).trans HBx.out)
  replace HBl := Lib.hid (HBl.out.trans (b2.mono HBl.out.size))
  clear b2 c0 c1 c2 c3 c4 c5
  obtain ⟨c0, c1, c2, c3, c4, c5⟩ := box_cells HBx.out
  generalize namedB 33 x.ev.room = b at HU ⊢
  cases b
  · go_wp2_with fail
    go_ret
    exact ⟨by rw [HU.out]; rfl, HBl.out⟩
  go_wp2_with fail
  go_at_call 63
  refine (HC3.out _).mono ?_
  rintro r w4 ⟨rfl, b2⟩
  replace HBx := Lib.hid ((b2.block B (smem_lt HBx.out)).trans HBx.out)
  replace HBl := Lib.hid (HBl.out.trans (b2.mono HBl.out.size))
  clear b2 c0 c1 c2 c3 c4 c5
  obtain ⟨c0, c1, c2, c3, c4, c5⟩ := box_cells HBx.out
  generalize namedB 64 x.ev.user = b at HU ⊢
  cases b
  · go_wp2_with fail
    go_ret
    exact ⟨by rw [HU.out]; rfl, HBl.out⟩
  go_wp2_with fail
  have HC4 := Lib.hid (mayBehind_any x.ev (.slice x.A x.ev.parents.length x.cap) w4 (HX.out.1.below HBl.out) HX.out.2.2.2.2.2.1)
  go_at_call 64
  refine (HC4.out).mono ?_
  rintro r w5 ⟨rfl, b2⟩
  replace HBx := Lib.hid ((b2.block B (smem_lt HBx.out)).trans HBx.out)
  replace HBl := Lib.hid (HBl.out.trans (b2.mono HBl.out.size))
  clear b2 c0 c1 c2 c3 c4 c5
  obtain ⟨c0, c1, c2, c3, c4, c5⟩ := box_cells HBx.out
  generalize behB x.ev = b at HU ⊢
  cases b
  · go_wp2_with fail
    go_ret
    exact ⟨by rw [HU.out]; rfl, HBl.out⟩
  go_wp2_with fail
  go_at_call 65
  refine (HC5.out _).mono ?_
  rintro r _ ⟨rfl, rfl⟩
  generalize doB x.ev = b at HU ⊢
  cases b
  · go_wp2_with fail
    go_ret
    exact ⟨by rw [HU.out]; rfl, HBl.out⟩
  go_wp2_with fail
  go_at_call 66
  refine (HC6.out _).mono ?_
  rintro r w7 ⟨rfl, b2⟩
  replace HBx := Lib.hid ((b2.block B (smem_lt HBx.out)).trans HBx.out)
  replace HBl := Lib.hid (HBl.out.trans (b2.mono HBl.out.size))
  clear b2 c0 c1 c2 c3 c4 c5
  obtain ⟨c0, c1, c2, c3, c4, c5⟩ := box_cells HBx.out
  go_wp2_with fail
  go_ret
  exact ⟨by rw [HU.out]; rfl, HBl.out⟩
end Go.Proofs.YtfbfdkibdjinaaaGreatDoor

namespace Go.Proofs.YtfbfdkibdjinaaaGreatDoor
set_option maxRecDepth 20000
open Go.RowKit
set_option linter.unusedVariables false
set_option linter.unusedSimpArgs false

/-- How numbers lie. -/
def LI2 : Lies Int := ⟨3, 1, fun x => [.int .i64 x], fun _ => rfl, fun x u hu => by
  simp only [List.mem_cons, List.not_mem_nil, or_false] at hu
  subst hu; rfl⟩
theorem knI2 : Kn Tryz.prog LI2 96 (.int .i64 0) 8 := ⟨Tryz.underlying96, by kernel_rfl, rfl, by decide⟩
def orI (a b : Int) : Int := if a = 0 then b else a
set_option maxHeartbeats 800000 in
theorem or_any (a b : Int) (B : Nat) (w : World) (c0 : w.cell? ⟨B, 0, none⟩ = some (.int .i64 a)) (c1 : w.cell? ⟨B, 1, none⟩ = some (.int .i64 b)) :
    Calls Tryz.prog 39 #[.slice (some ⟨B, 0, none⟩) 2 2] w fun e w' => e = .returned (.int .i64 (orI a b)) ∧ w' = w := by
  have hi0 : ∀ W : World, (Instr.indexAt 96 (.slice (some ⟨B, 0, none⟩) 2 2) (.int .i64 (0 : Nat))).run Tryz.prog W = .ok (.pointer (some ⟨B, 0, none⟩)) W := by
    have := index_any (P := Tryz.prog) knI2 (by decide) (b := B) (off := 0) (cap := 2) (len := 2) (i := 0) (by decide)
    simpa [LI2] using this
  have hi1 : ∀ W : World, (Instr.indexAt 96 (.slice (some ⟨B, 0, none⟩) 2 2) (.int .i64 (1 : Nat))).run Tryz.prog W = .ok (.pointer (some ⟨B, 1, none⟩)) W := by
    have := index_any (P := Tryz.prog) knI2 (by decide) (b := B) (off := 0) (cap := 2) (len := 2) (i := 1) (by decide)
    simpa [LI2] using this
  by_cases ha : a = 0
  · subst ha
    have HR : Hid (orI 0 b = b) := Lib.hid (if_pos rfl)
    go_enter Tryz.func39, Tryz.ntmps39
    go_wp2_with fail
    go_loopw [8] (fun i wr => wr = w ∧ ∃ (k : Nat), i = .int .i64 (k : Int) ∧ (k = 0 ∨ k = 1 ∨ (k = 2 ∧ b = 0))) (fun i _ => 2 - (intOf i).toNat)
    case atStart => exact ⟨rfl, 0, rfl, .inl rfl⟩
    case round =>
      obtain ⟨rfl, k, rfl, hk⟩ := hrel
      rcases hk with rfl | rfl | ⟨rfl, rfl⟩
      · go_wp2_with fail
        exact ⟨⟨trivial, 1, rfl, .inr (.inl rfl)⟩, by simp [intOf]⟩
      · by_cases hb : b = 0
        · subst hb
          go_wp2_with fail
          exact ⟨⟨trivial, 2, rfl, .inr (.inr ⟨rfl, trivial⟩)⟩, by simp [intOf]⟩
        · have q : (b == 0) = false := by rw [beq_eq_false_iff_ne]; exact hb
          go_wp2_with fail
          go_ret
          exact ⟨by rw [HR.out]; rfl, rfl⟩
      · go_wp2_with fail
        go_ret
        exact ⟨by rw [HR.out]; rfl, rfl⟩
  · have HR : Hid (orI a b = a) := Lib.hid (if_neg ha)
    have q : (a == 0) = false := by rw [beq_eq_false_iff_ne]; exact ha
    go_enter Tryz.func39, Tryz.ntmps39
    go_wp2_with fail
    go_loopw [8] (fun i wr => wr = w ∧ i = .int .i64 ((0 : Nat) : Int)) (fun i _ => 2 - (intOf i).toNat)
    case atStart => exact ⟨rfl, rfl⟩
    case round =>
      obtain ⟨rfl, rfl⟩ := hrel
      go_wp2_with fail
      go_ret
      exact ⟨by rw [HR.out]; rfl, rfl⟩
theorem cmpB_lt : ∀ a b : List UInt8, Lib.compareBytes a b = (bif Op.bytesLess a b then -1 else bif Op.bytesLess b a then 1 else 0)
  | [], [] => by simp [Lib.compareBytes, Op.bytesLess]
  | [], _ :: _ => by simp [Lib.compareBytes, Op.bytesLess]
  | _ :: _, [] => by simp [Lib.compareBytes, Op.bytesLess]
  | a :: x, b :: y => by
    unfold Lib.compareBytes Op.bytesLess
    by_cases h : a < b
    · simp [h]
    · by_cases h2 : b < a
      · have : ¬ a = b := fun e => by rw [e] at h2; exact absurd h2 (by rw [e] at h; exact h)
        have hq : (a == b) = false := by rw [beq_eq_false_iff_ne]; exact this
        simp [h, h2, hq]
      · have : a = b := by
          apply UInt8.toNat_inj.1
          rw [UInt8.lt_iff_toNat_lt] at h h2
          omega
        subst this
        simp [h, cmpB_lt x y]
theorem cmpP_code (a b : Po) : orI (Lib.compareInt a.depth b.depth) (Lib.compareBytes a.id.data.toList b.id.data.toList) = cmpP a b := by
  unfold orI cmpP beforeP Lib.compareInt
  rw [cmpB_lt, ByteArray.toList_eq, ByteArray.toList_eq]
  by_cases h : a.depth < b.depth
  · have h2 : ¬ b.depth < a.depth := by omega
    have h3 : ¬ b.depth = a.depth := by omega
    simp [h]
  · by_cases h2 : b.depth < a.depth
    · have h3 : ¬ a.depth = b.depth := by omega
      simp [h, h2, h3]
    · have h3 : a.depth = b.depth := by omega
      simp [h3]

set_option maxHeartbeats 1600000 in
theorem compare_any (a b : Po) (w : World) : Calls Tryz.prog 24 #[.agg #[.int .i64 a.depth, .string a.id], .agg #[.int .i64 b.depth, .string b.id]] w fun e w' => e = .returned (.int .i64 (cmpP a b)) ∧ Below w.heap.size w w' := by
  have hs1 : (w.alloc (.cells #[.int .i64 a.depth, .string a.id] 47)).heap.size = w.heap.size + 1 := by simp
  have H3 := Lib.hid (heap_alloc_new (w.alloc (.cells #[.int .i64 a.depth, .string a.id] 47)) (.cells #[.int .i64 b.depth, .string b.id] 47))
  have H2 := Lib.hid ((heap_alloc_old (w.alloc (.cells #[.int .i64 a.depth, .string a.id] 47)) (.cells #[.int .i64 b.depth, .string b.id] 47) (r := w.heap.size) (by rw [hs1]; omega)).trans (heap_alloc_new w _))
  have HB := Lib.hid (((Gr.refl w).alloc (.cells #[.int .i64 a.depth, .string a.id] 47)).alloc (.cells #[.int .i64 b.depth, .string b.id] 47)).below
  rw [hs1] at H3
  clear hs1
  have HQ1 := Lib.hid (fun W => Tryz.cmp_Compare_int a.depth b.depth W)
  have HQ2 := Lib.hid (fun W => Tryz.strings_Compare a.id b.id W)
  have HU := Lib.hid (cmpP_code a b)
  generalize Lib.compareInt a.depth b.depth = x at HQ1 HU
  generalize Lib.compareBytes a.id.data.toList b.id.data.toList = y at HQ2 HU
  go_enter Tryz.func24, Tryz.ntmps24
  go_upto_region 1 with (fail)
  generalize World.alloc _ _ = w1 at H2 H3 HB ⊢
  generalize w.heap.size + 1 = B3 at H3 ⊢
  generalize hB2 : w.heap.size = B2 at H2 ⊢
  have HS : w1.drew.cell? ⟨B2, 0, none⟩ = some (.int .i64 a.depth) ∧ w1.drew.cell? ⟨B2, 1, none⟩ = some (.string a.id) ∧ w1.drew.cell? ⟨B3, 0, none⟩ = some (.int .i64 b.depth) ∧ w1.drew.cell? ⟨B3, 1, none⟩ = some (.string b.id) ∧ Below w.heap.size w w1.drew := ⟨cell_at H2.out 0, cell_at H2.out 1, cell_at H3.out 0, cell_at H3.out 1, HB.out.drew⟩
  refine wp_region_held_drew (S := fun w' => w'.cell? ⟨B2, 0, none⟩ = some (.int .i64 a.depth) ∧ w'.cell? ⟨B2, 1, none⟩ = some (.string a.id) ∧ w'.cell? ⟨B3, 0, none⟩ = some (.int .i64 b.depth) ∧ w'.cell? ⟨B3, 1, none⟩ = some (.string b.id) ∧ Below w.heap.size w w') (by kernel_rfl) HS (fun hHeld => ?_)
  clear HS H2 H3 HB
  generalize w1.drew = wd at hHeld ⊢
  refine wpAnyH_take (i := 0) (oi := ⟨some 5, _, _, _, _, _⟩) (v := ?vc0) rfl (by kernel_rfl) (by kernel_rfl) (by kernel_rfl) (fun _ _ _ h => h) (Or.inl ⟨by rfl, ?yc0⟩) hHeld ?rc0
  case yc0 =>
    intro wx hSx
    go_simp
    try with_reducible rfl
  try simp only [Act.put, List.setIfInBounds_toArray, List.set_cons_zero, List.set_cons_succ]
  refine wpAnyH_take (i := 2) (oi := ⟨some 7, _, _, _, _, _⟩) (v := ?vc2) rfl (by kernel_rfl) (by kernel_rfl) (by kernel_rfl) (fun _ _ _ h => h) (Or.inl ⟨by rfl, ?yc2⟩) hHeld ?rc2
  case yc2 =>
    intro wx hSx
    go_simp
    try with_reducible rfl
  try simp only [Act.put, List.setIfInBounds_toArray, List.set_cons_zero, List.set_cons_succ]
  refine wpAnyH_take (i := 5) (oi := ⟨some 10, _, _, _, _, _⟩) (v := ?vc5) rfl (by kernel_rfl) (by kernel_rfl) (by kernel_rfl) (fun _ _ _ h => h) (Or.inl ⟨by rfl, ?yc5⟩) hHeld ?rc5
  case yc5 =>
    intro wx hSx
    go_simp
    try with_reducible rfl
  try simp only [Act.put, List.setIfInBounds_toArray, List.set_cons_zero, List.set_cons_succ]
  refine wpAnyH_take (i := 7) (oi := ⟨some 12, _, _, _, _, _⟩) (v := ?vc7) rfl (by kernel_rfl) (by kernel_rfl) (by kernel_rfl) (fun _ _ _ h => h) (Or.inl ⟨by rfl, ?yc7⟩) hHeld ?rc7
  case yc7 =>
    intro wx hSx
    go_simp
    try with_reducible rfl
  try simp only [Act.put, List.setIfInBounds_toArray, List.set_cons_zero, List.set_cons_succ]
  refine wpAnyH_take (i := 1) (oi := ⟨some 6, _, _, _, _, _⟩) (v := ?vc1) rfl (by kernel_rfl) (by kernel_rfl) (by kernel_rfl) (fun _ _ _ h => h) (Or.inl ⟨by rfl, ?yc1⟩) hHeld ?rc1
  case yc1 =>
    intro wx hSx
    obtain ⟨z1, z2, z3, z4, -⟩ := hSx
    go_simp
    try with_reducible rfl
  try simp only [Act.put, List.setIfInBounds_toArray, List.set_cons_zero, List.set_cons_succ]
  refine wpAnyH_take (i := 3) (oi := ⟨some 8, _, _, _, _, _⟩) (v := ?vc3) rfl (by kernel_rfl) (by kernel_rfl) (by kernel_rfl) (fun _ _ _ h => h) (Or.inl ⟨by rfl, ?yc3⟩) hHeld ?rc3
  case yc3 =>
    intro wx hSx
    obtain ⟨z1, z2, z3, z4, -⟩ := hSx
    go_simp
    try with_reducible rfl
  try simp only [Act.put, List.setIfInBounds_toArray, List.set_cons_zero, List.set_cons_succ]
  refine wpAnyH_take (i := 6) (oi := ⟨some 11, _, _, _, _, _⟩) (v := ?vc6) rfl (by kernel_rfl) (by kernel_rfl) (by kernel_rfl) (fun _ _ _ h => h) (Or.inl ⟨by rfl, ?yc6⟩) hHeld ?rc6
  case yc6 =>
    intro wx hSx
    obtain ⟨z1, z2, z3, z4, -⟩ := hSx
    go_simp
    try with_reducible rfl
  try simp only [Act.put, List.setIfInBounds_toArray, List.set_cons_zero, List.set_cons_succ]
  refine wpAnyH_take (i := 8) (oi := ⟨some 13, _, _, _, _, _⟩) (v := ?vc8) rfl (by kernel_rfl) (by kernel_rfl) (by kernel_rfl) (fun _ _ _ h => h) (Or.inl ⟨by rfl, ?yc8⟩) hHeld ?rc8
  case yc8 =>
    intro wx hSx
    obtain ⟨z1, z2, z3, z4, -⟩ := hSx
    go_simp
    try with_reducible rfl
  try simp only [Act.put, List.setIfInBounds_toArray, List.set_cons_zero, List.set_cons_succ]
  refine anyH_asks (i := 4) (oi := ⟨some 9, _, _, _, _, _⟩) (v := .int .i64 x) rfl (by kernel_rfl) (by kernel_rfl) (by kernel_rfl) (fun _ _ _ h => h) ⟨by rfl, fun wx hSx => ⟨_, _, ?ec4, (HQ1.out _).mono (fun _ _ h => ⟨h.1, h.2.symm⟩)⟩⟩ hHeld ?rc4
  case ec4 => go_simp
  try simp only [Act.put, List.setIfInBounds_toArray, List.set_cons_zero, List.set_cons_succ]
  refine anyH_asks (i := 9) (oi := ⟨some 14, _, _, _, _, _⟩) (v := .int .i64 y) rfl (by kernel_rfl) (by kernel_rfl) (by kernel_rfl) (fun _ _ _ h => h) ⟨by rfl, fun wx hSx => ⟨_, _, ?ec9, (HQ2.out _).mono (fun _ _ h => ⟨h.1, h.2.symm⟩)⟩⟩ hHeld ?rc9
  case ec9 => go_simp
  try simp only [Act.put, List.setIfInBounds_toArray, List.set_cons_zero, List.set_cons_succ]
  refine wpAnyH_ready (rs := [10]) (by kernel_rfl) (by simp) ?_
  refine AllReadyH.cons (o := ⟨some 15, _, _, _, _, _⟩) rfl (fun K hK => ?_) AllReadyH.nil
  have hNW : (wd.alloc (.cells #[.int .i64 x, .int .i64 y] 3)).cell? ⟨B2, 0, none⟩ = some (.int .i64 a.depth) ∧ (wd.alloc (.cells #[.int .i64 x, .int .i64 y] 3)).cell? ⟨B2, 1, none⟩ = some (.string a.id) ∧ (wd.alloc (.cells #[.int .i64 x, .int .i64 y] 3)).cell? ⟨B3, 0, none⟩ = some (.int .i64 b.depth) ∧ (wd.alloc (.cells #[.int .i64 x, .int .i64 y] 3)).cell? ⟨B3, 1, none⟩ = some (.string b.id) ∧ Below w.heap.size w (wd.alloc (.cells #[.int .i64 x, .int .i64 y] 3)) := by
    obtain ⟨z1, z2, z3, z4, z5⟩ := hHeld
    have bn := below_new wd (.cells #[.int .i64 x, .int .i64 y] 3)
    exact ⟨(bn.cell (World.block_lt_of_cell? _ _ z1)).trans z1, (bn.cell (World.block_lt_of_cell? _ _ z2)).trans z2, (bn.cell (World.block_lt_of_cell? _ _ z3)).trans z3, (bn.cell (World.block_lt_of_cell? _ _ z4)).trans z4, z5.trans (bn.mono z5.size)⟩
  have hn := heap_alloc_new wd (.cells #[.int .i64 x, .int .i64 y] 3)
  go_simp
  refine hK.out _ _ hNW (fun hHeld => ?_)
  clear hK K hNW
  try simp only [Act.put, List.setIfInBounds_toArray, List.set_cons_zero, List.set_cons_succ]
  refine wpAnyH_ready (rs := [11]) (by kernel_rfl) (by simp) ?_
  refine AllReadyH.cons (o := ⟨some 16, _, _, _, _, _⟩) rfl (fun K hK => ?_) AllReadyH.nil
  go_simp
  refine (or_any x y wd.heap.size _ (cell_at hn 0) (cell_at hn 1)).mono ?_
  rintro e wn ⟨rfl, rfl⟩
  refine hK.out _ _ hHeld (fun hHeld => ?_)
  clear hK K
  try simp only [Act.put, List.setIfInBounds_toArray, List.set_cons_zero, List.set_cons_succ]
  refine wpAnyH_take (i := 12) (oi := ⟨some 4, _, _, _, _, _⟩) (v := ?vc12) rfl (by kernel_rfl) (by kernel_rfl) (by kernel_rfl) (fun _ _ _ h => h) (Or.inl ⟨by rfl, ?yc12⟩) hHeld ?rc12
  case yc12 =>
    intro wx hSx
    go_simp
    try with_reducible rfl
  try simp only [Act.put, List.setIfInBounds_toArray, List.set_cons_zero, List.set_cons_succ]
  refine wpAnyH_done (by kernel_rfl) ?_ _
  go_wp2_with fail
  go_ret
  exact ⟨by rw [← HU.out]; rfl, hHeld.2.2.2.2⟩

end Go.Proofs.YtfbfdkibdjinaaaGreatDoor

namespace Go.Proofs.YtfbfdkibdjinaaaGreatDoor
set_option maxRecDepth 20000
open Go.RowKit Go.Maps Go.ChangeMaps
set_option linter.unusedVariables false
set_option linter.unusedSimpArgs false

/-- A node: an event, and how deep it stands. -/
structure NdV where
  x : EvV
  d : Nat
def NdV.cells (n : NdV) : List Value := [.string n.x.ev.id, .string n.x.ev.room, n.x.pv, .string n.x.ev.thread, .string n.x.ev.user, .int .i64 n.x.ev.does, .int .i64 (n.d : Int)]
def NdV.val (n : NdV) : Value := .agg #[.string n.x.ev.id, .string n.x.ev.room, n.x.pv, .string n.x.ev.thread, .string n.x.ev.user, .int .i64 n.x.ev.does, .int .i64 (n.d : Int)]
def zeroN : Value := .agg #[.string ⟨#[]⟩, .string ⟨#[]⟩, .slice none 0 0, .string ⟨#[]⟩, .string ⟨#[]⟩, .int .i64 0, .int .i64 0]
abbrev nevs (ns : List NdV) : List Ev := ns.map (fun n => n.x.ev)
abbrev Dv := DataW Value
def heldR (v : Value) : Option (Dv × List MemPlace) := some (.held v, [])
def kl (k : ByteArray) : Lit := .string k.data.toList
theorem kl_inj {a b : ByteArray} (h : kl a = kl b) : a = b := by
  unfold kl at h
  injection h with h
  exact (key_eq a b).2 h
theorem kl_key (k : ByteArray) : WideAt.IsKeyLit (kl k) := by simp [kl, WideAt.IsKeyLit]
def NdV.entry (n : NdV) : Lit × Dv := (kl n.x.ev.id, .held n.val)
/-- The map says: these nodes. -/
def NdM (D : Dv) (ns : List NdV) : Prop := ∃ es, D = .map es ∧ es.Perm (ns.map NdV.entry)
abbrev OwnN (w : World) (mb n : Nat) (D : Dv) : Prop := w.ownsMap Tryz.prog 9 heldR mb n D
theorem keyed : Maps.Keyed Tryz.prog 9 := Maps.string_keyed Tryz.underlying9
theorem keyIs {k : ByteArray} (h : k.size ≤ maxLen) : keyOf Tryz.prog 9 (.string k) = some (kl k) := WideMaps.keyOf_string_mk Tryz.underlying9 h
theorem zeroIs (w : World) : (zeroValue 89).run Tryz.prog w = .ok zeroN w := by kernel_rfl
theorem OwnN.keep {w w' : World} {mb n : Nat} {D : Dv} (h : OwnN w mb n D) (hb : w'.heap[mb]? = w.heap[mb]?) : OwnN w' mb n D := by
  obtain ⟨xs, clock, hb', h'⟩ := h
  exact ⟨xs, clock, hb.trans hb', h'⟩
theorem OwnN.same {w : World} {mb n n' : Nat} {D D' : Dv} (h : OwnN w mb n D) (h' : OwnN w mb n' D') : D = D' := by
  obtain ⟨xs, clock, hb, _, _, rfl⟩ := h
  obtain ⟨ys, clock', hb', _, _, rfl⟩ := h'
  rw [hb] at hb'
  injection hb' with hb'
  injection hb' with h1 h2
  rw [h1]
theorem OwnN.lt {w : World} {mb n : Nat} {D : Dv} (h : OwnN w mb n D) : mb < w.heap.size := World.ownsMap.lt h
/-- IDs are there once. -/
theorem valid_nodup {room : ByteArray} {l : List Ev} (h : Valid room l) : (l.map Ev.id).Nodup := by
  rw [List.nodup_iff_pairwise_ne, List.pairwise_iff_getElem]
  intro i j hi hj hij
  rw [List.length_map] at hi hj
  rw [List.getElem_map, List.getElem_map]
  intro he
  have h1 := (err_zero (h j l[j] (List.getElem?_eq_getElem hj))).2.2.1
  have h2 : hasE (l.take j) l[j].id = true := has_iff.2 ⟨l[i], by
    rw [List.mem_take_iff_getElem]
    exact ⟨i, by omega, rfl⟩, he⟩
  rw [h2] at h1
  cases h1
theorem entries_apart {ns : List NdV} {es : List (Lit × Dv)} (hp : es.Perm (ns.map NdV.entry)) (hn : ((nevs ns).map Ev.id).Nodup) : es.Pairwise (fun p q => p.1 ≠ q.1) := by
  have h1 : (ns.map NdV.entry).Pairwise (fun p q => p.1 ≠ q.1) := by
    rw [List.pairwise_map]
    rw [List.nodup_iff_pairwise_ne, List.map_map, List.pairwise_map] at hn
    exact hn.imp (fun h e => h (kl_inj e))
  exact (hp.pairwise_iff (fun h e => h e.symm)).2 h1
theorem NdM.has {D : Dv} {ns : List NdV} (h : NdM D ns) (k : ByteArray) : Maps.has D (kl k) = hasE (nevs ns) k := by
  obtain ⟨es, rfl, hp⟩ := h
  rw [Bool.eq_iff_iff, has_iff, Maps.has_eq, List.any_eq_true]
  constructor
  · rintro ⟨p, hm, hk⟩
    obtain ⟨n, hn, rfl⟩ := List.mem_map.1 (hp.mem_iff.1 hm)
    refine ⟨n.x.ev, List.mem_map.2 ⟨n, hn, rfl⟩, ?_⟩
    simp only [NdV.entry, kl, Lit.sameKey, beq_iff_eq] at hk
    exact (key_eq _ _).2 hk
  · rintro ⟨e, hm, rfl⟩
    obtain ⟨n, hn, rfl⟩ := List.mem_map.1 hm
    exact ⟨n.entry, hp.mem_iff.2 (List.mem_map.2 ⟨n, hn, rfl⟩), WideAt.sameKey_self (kl_key _)⟩
theorem NdM.at_ {D : Dv} {ns : List NdV} (h : NdM D ns) (hn : ((nevs ns).map Ev.id).Nodup) {n : NdV} (hm : n ∈ ns) (zd : Dv) : D.atKey (kl n.x.ev.id) zd = .held n.val := by
  obtain ⟨es, rfl, hp⟩ := h
  exact WideAt.atKey_mem zd (kl_key _) (entries_apart hp hn) (hp.mem_iff.2 (List.mem_map.2 ⟨n, hm, rfl⟩))
theorem NdM.put {D : Dv} {ns : List NdV} (h : NdM D ns) (n : NdV) (hno : hasE (nevs ns) n.x.ev.id = false) : NdM (D.put (kl n.x.ev.id) (.held n.val)) (ns ++ [n]) := by
  have hh := h.has n.x.ev.id
  obtain ⟨es, rfl, hp⟩ := h
  refine ⟨_, DataW.put_eq _ _ _, ?_⟩
  unfold putKey
  refine (WideShapes.insert_perm _ _).trans ?_
  have hf : es.filter (notKey (kl n.x.ev.id)) = es := by
    rw [List.filter_eq_self]
    intro p hm
    unfold notKey
    rw [hno, Maps.has_eq, List.any_eq_false] at hh
    have := hh p hm
    simpa using this
  rw [hf, List.map_append]
  exact (List.Perm.cons _ hp).trans (List.perm_append_comm (l₁ := [n.entry]))
theorem NdM.nil : NdM (.map []) [] := ⟨[], rfl, List.Perm.refl _⟩
theorem NdM.mem {D : Dv} {ns : List NdV} (h : NdM D ns) {es : List (Lit × Dv)} (hD : D = .map es) (p : Lit × Dv) : p ∈ es ↔ ∃ n ∈ ns, p = n.entry := by
  obtain ⟨es', rfl, hp⟩ := h
  injection hD with hD
  subst hD
  rw [hp.mem_iff, List.mem_map]
  exact ⟨fun ⟨n, h1, h2⟩ => ⟨n, h1, h2.symm⟩, fun ⟨n, h1, h2⟩ => ⟨n, h1, h2.symm⟩⟩

structure DgS (w : World) (g : Nat) (room : ByteArray) (mb : Nat) (ns : List NdV) (D : Dv) : Prop where
  hd : w.heap[g]? = some (.cells #[.string room, .map (some mb)] 93 (0, 0))
  map : OwnN w mb ns.length D
  is : NdM D ns
  par : ∀ n ∈ ns, LT.Mine w 0 n.x.pv n.x.ev.parents
  dep : ns.map NdV.d = deps (nevs ns)
  val : Valid room (nevs ns)
  rs : room.size ≤ 40
def blkV : Value → Option Nat
  | .agg cs => match cs[2]? with
    | some pv => pv.ownBlock
    | none => none
  | _ => none
def blkD : Dv → Option Nat
  | .held v => blkV v
  | _ => none
theorem blk_entry (n : NdV) : blkD n.entry.2 = n.x.pv.ownBlock := rfl
/-- A dag's blocks. -/
def ownC (w : World) (g k : Nat) : Prop := ∃ room mb n D, w.heap[g]? = some (.cells #[.string room, .map (some mb)] 93 (0, 0)) ∧ OwnN w mb n D ∧ (k = g ∨ k = mb ∨ ∃ es, D = .map es ∧ ∃ p ∈ es, blkD p.2 = some k)
section
variable {w w' : World} {g mb : Nat} {room : ByteArray} {ns : List NdV} {D : Dv}
theorem DgS.own (h : DgS w g room mb ns D) (k : Nat) : ownC w g k ↔ (k = g ∨ k = mb ∨ ∃ n ∈ ns, n.x.pv.ownBlock = some k) := by
  constructor
  · rintro ⟨room', mb', n', D', h1, h2, h3⟩
    rw [h.hd] at h1
    injection h1 with h1
    injection h1 with h1
    have e1 := congrArg (fun a : Array Value => a[1]?) h1
    simp only [List.getElem?_toArray, List.getElem?_cons_succ, List.getElem?_cons_zero, Option.some.injEq, Value.map.injEq] at e1
    subst e1
    have e2 := h.map.same h2
    subst e2
    rcases h3 with h3 | h3 | ⟨es, hD, p, hp, hk⟩
    · exact .inl h3
    · exact .inr (.inl h3)
    · obtain ⟨n, hn, rfl⟩ := (h.is.mem hD p).1 hp
      exact .inr (.inr ⟨n, hn, hk⟩)
  · rintro (h3 | h3 | ⟨n, hn, hk⟩)
    · exact ⟨_, _, _, _, h.hd, h.map, .inl h3⟩
    · exact ⟨_, _, _, _, h.hd, h.map, .inr (.inl h3)⟩
    · obtain ⟨es, hD, hp⟩ := id h.is
      exact ⟨_, _, _, _, h.hd, h.map, .inr (.inr ⟨es, hD, n.entry, (h.is.mem hD _).2 ⟨n, hn, rfl⟩, hk⟩)⟩
theorem DgS.old (h : DgS w g room mb ns D) {k : Nat} (ho : ownC w g k) : k < w.heap.size := by
  rcases (h.own k).1 ho with rfl | rfl | ⟨n, hn, hk⟩
  · exact smem_lt h.hd
  · exact h.map.lt
  · exact ((h.par n hn).lt k hk).2
theorem DgS.keep (h : DgS w g room mb ns D) (hk : ∀ k, ownC w g k → w'.heap[k]? = w.heap[k]?) : DgS w' g room mb ns D :=
  ⟨(hk g ((h.own g).2 (.inl rfl))).trans h.hd, h.map.keep (hk mb ((h.own mb).2 (.inr (.inl rfl)))), h.is, fun n hn => (h.par n hn).keep fun k hv => hk k ((h.own k).2 (.inr (.inr ⟨n, hn, hv⟩))), h.dep, h.val, h.rs⟩
theorem DgS.below (h : DgS w g room mb ns D) (hb : Below w.heap.size w w') : DgS w' g room mb ns D := h.keep fun k hk => hb.block k (h.old hk)
theorem DgS.drewN (h : DgS w g room mb ns D) (n : Nat) : DgS (w.drewN n) g room mb ns D := h.keep fun _ _ => rfl
theorem DgS.drew (h : DgS w g room mb ns D) : DgS w.drew g room mb ns D := h.keep fun _ _ => rfl
theorem DgS.ids (h : DgS w g room mb ns D) : ((nevs ns).map Ev.id).Nodup := valid_nodup h.val
theorem DgS.c0 (h : DgS w g room mb ns D) : w.cell? ⟨g, 0, none⟩ = some (.string room) := cell_at h.hd 0
theorem DgS.c1 (h : DgS w g room mb ns D) : w.cell? ⟨g, 1, none⟩ = some (.map (some mb)) := cell_at h.hd 1
theorem DgS.gm (h : DgS w g room mb ns D) : g ≠ mb := fun e => by
  subst e
  obtain ⟨xs, clock, hb, _⟩ := h.map
  rw [h.hd] at hb
  cases hb
theorem DgS.node (h : DgS w g room mb ns D) {n : NdV} (hn : n ∈ ns) : mayE n.x.ev = true ∧ n.x.ev.room = room := by
  obtain ⟨i, hi, he⟩ := List.getElem_of_mem hn
  have := err_zero (h.val i n.x.ev (by rw [List.getElem?_map, List.getElem?_eq_getElem hi, he]; rfl))
  exact ⟨this.1, this.2.1⟩
/-- A key is looked up. -/
theorem DgS.look (h : DgS w g room mb ns D) (k : ByteArray) (hk : k.size ≤ maxLen) (b : Bool) :
    (hasE (nevs ns) k = false ∧ (Instr.lookup 91 (.map (some mb)) (.string k) true).run Tryz.prog w = .ok (.tuple #[zeroN, .bool false]) w)
    ∨ (hasE (nevs ns) k = true ∧ ∃ n ∈ ns, n.x.ev.id = k ∧ (Instr.lookup 91 (.map (some mb)) (.string k) true).run Tryz.prog w = .ok (.tuple #[n.val, .bool true]) w) := by
  obtain ⟨v, ps, hr, hv⟩ := World.ownsMap.look_ok h.map keyed Tryz.underlying91 (zeroIs w) (zd := .held zeroN) (zp := []) rfl (keyIs hk)
  rw [h.is.has k] at hr
  cases hh : hasE (nevs ns) k
  · refine .inl ⟨rfl, ?_⟩
    have hz := Maps.atKey_of_not_has (D := D) (k := kl k) (by rw [h.is.has k]; exact hh) (.held zeroN)
    rw [hz] at hv
    injection hv with hv
    injection hv with hv _
    injection hv with hv
    rw [hr, hh, hv]
  · obtain ⟨e, hm, he⟩ := has_iff.1 hh
    obtain ⟨n, hn, rfl⟩ := List.mem_map.1 hm
    refine .inr ⟨rfl, n, hn, he, ?_⟩
    rw [← he, h.is.at_ h.ids hn] at hv
    injection hv with hv
    injection hv with hv _
    injection hv with hv
    rw [hr, hh, hv]
end
/-- What a name may be at most. -/
theorem may_short {e : Ev} (h : mayE e = true) : e.id.size ≤ 40 ∧ e.room.size ≤ 40 ∧ e.thread.size ≤ 40 ∧ e.user.size ≤ 40 ∧ (∀ p ∈ e.parents, p.size ≤ 40) ∧ 0 ≤ e.does ∧ e.does ≤ 2 ∧ e.parents.length ≤ 4 := by
  rw [mayE_code] at h
  simp only [Bool.and_eq_true] at h
  obtain ⟨⟨⟨⟨⟨h1, h2⟩, h3⟩, h4⟩, h5⟩, h6⟩ := h
  unfold behB at h4
  unfold doB at h5
  rw [Bool.and_eq_true, decide_eq_true_eq] at h4
  rw [Bool.and_eq_true, decide_eq_true_eq, decide_eq_true_eq] at h5
  refine ⟨Nat.le_trans (event_size h1) (by omega), named_size h2, ?_, named_size h3, fun p hp => ?_, h5.1, h5.2, h4.1⟩
  · unfold thrB at h6
    rw [Bool.or_eq_true] at h6
    rcases h6 with h6 | h6
    · rw [of_decide_eq_true h6]; decide
    · simp only [Bool.and_eq_true] at h6
      exact Nat.le_trans (event_size h6.1.1) (by omega)
  · obtain ⟨i, hi, he⟩ := List.getElem_of_mem hp
    have h7 := (List.all_eq_true.1 h4.2) i (by rw [List.mem_range]; exact hi)
    rw [parB_code (List.getElem?_eq_getElem hi)] at h7
    simp only [Bool.and_eq_true] at h7
    rw [he] at h7
    exact Nat.le_trans (event_size h7.1.1) (by omega)
theorem may_ok {e : Ev} (h : mayE e = true) : e.ok := by
  obtain ⟨h1, h2, h3, h4, h5, h6, h7, _⟩ := may_short h
  have hm : (40 : Nat) ≤ maxLen := by unfold maxLen; omega
  exact ⟨Nat.le_trans h1 hm, Nat.le_trans h2 hm, Nat.le_trans h3 hm, Nat.le_trans h4 hm, fun p hp => Nat.le_trans (h5 p hp) hm, by omega, by omega⟩
end Go.Proofs.YtfbfdkibdjinaaaGreatDoor
