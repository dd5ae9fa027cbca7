/-
  Plain facts on EDUs; an EDU that is handed in; orders.
-/
import Derived.Test.YtnabbebkmafakaaMA
import Derived.Test.YtnabbebkmafakaaMD
import Derived.OrdersHeld
import Derived.Deep.RegionHeld
import Derived.Lib.SmallJoins
import Derived.OpenShut
namespace Go.Proofs.Ytnabbebkmafakaa
set_option maxRecDepth 20000
set_option linter.unusedVariables false
set_option linter.unusedSimpArgs false

section
variable {P : Program} {ops : Array Oper} {Q : Exit → Act → World → Prop} {md : Region.Mode}

/-- The condition may be made narrower. -/
theorem anyH_narrow {S S' : World → Prop} (hS : ∀ w, S' w → S w) : ∀ (fuel : Nat) (listed : Array Bool) (a : Act) (w : World), wpAnyH P md ops Q S' fuel listed a w → wpAnyH P md ops Q S fuel listed a w
  | 0, _, _, _, h => h
  | fuel + 1, _, _, _, h => ⟨h.1, fun i hi => wpOp_mono (fun a' w' h' => ⟨hS _ h'.1, anyH_narrow hS fuel _ a' w' h'.2⟩) (h.2 i hi)⟩

variable {S : World → Prop}

/-- In every world that meets S the operation calls a function that answers v and leaves the world as it was. -/
def Asks (P : Program) (ops : Array Oper) (S : World → Prop) (o : Oper) (v : Value) (a : Act) : Prop :=
  Region.wanted o (yielded ops a.tmps) = true ∧ ∀ w, S w → ∃ f args, (execOp a.eval o).run P w = .ok (.enter f args) w ∧ Calls P f args w fun e w' => e = .returned v ∧ w = w'

theorem Asks.here {i : Nat} {o : Oper} {v : Value} {a : Act} (hi : ops[i]? = some o) (hy : Asks P ops S o v a) {K : Act → World → Prop} {w : World} (hS : S w) (h : K (a.put o.dst v) w) : wpOp P ops Q i K a w := by
  unfold wpOp
  simp only [hi]
  rw [if_pos hy.1]
  obtain ⟨f, args, hr, hc⟩ := hy.2 w hS
  left
  unfold Oper.wp
  rw [hr, Oper.upon_enter]
  exact hc.mono fun e w' ⟨he, hw⟩ => by subst he; subst hw; exact h

theorem Asks.stays {oi : Oper} {v : Value} {a b : Act} (hy : Asks P ops S oi v a) (he : execOp b.eval oi = execOp a.eval oi)
    (hw : Region.wanted oi (yielded ops b.tmps) = Region.wanted oi (yielded ops a.tmps)) : Asks P ops S oi v b := by
  unfold Asks at *
  rw [he, hw]
  exact hy

/-- Another operation does not see whether the answer is there already. -/
theorem Asks.past {j : Nat} {oi oj : Oper} {v : Value} (hj : ops[j]? = some oj) (hap : oi.apart ops oj = true)
    (hsi : ∀ cs b, oi.op ≠ .select cs b) (hsj : ∀ cs b, oj.op ≠ .select cs b)
    (hQ : ∀ c a w, Q (.panic c) (a.put oi.dst v) w → Q (.panic c) a w) {K : Act → World → Prop} {a : Act} {w : World}
    (hy : Asks P ops S oi v a) (h : wpOp P ops Q j K (a.put oi.dst v) w) :
    wpOp P ops Q j (fun b w' => Asks P ops S oi v b ∧ K (b.put oi.dst v) w') a w := by
  obtain ⟨n1, n2, n3⟩ := Oper.apart_spec hap
  have stay : ∀ (b : Act) (u : Value), Asks P ops S oi v b → Asks P ops S oi v (b.put oj.dst u) := fun b u hb =>
    hb.stays (execOp_put oi hsi b oj.dst u n3) (wanted_put oi b oj.dst u n3)
  have turn : ∀ (b : Act) (u : Value) (w' : World), K ((b.put oi.dst v).put oj.dst u) w' → K ((b.put oj.dst u).put oi.dst v) w' := fun b u w' hk => by
    rw [← Act.put_comm b v u n2]; exact hk
  unfold wpOp at h ⊢
  simp only [hj] at h ⊢
  rw [wanted_put oj a oi.dst v n1] at h
  by_cases hw : Region.wanted oj (yielded ops a.tmps) = true
  · rw [if_pos hw] at h ⊢
    have same := execOp_put oj hsj a oi.dst v n1
    rcases h with h | ⟨h, out⟩
    · left
      unfold Oper.wp at h ⊢
      rw [same] at h
      revert h
      cases (execOp a.eval oj).run P w with
      | halt x w' => intro h; cases x <;> simp only [Oper.upon] at h ⊢; exact hQ _ _ _ h
      | ok n w' =>
        intro h
        cases n <;> simp only [Oper.upon] at h ⊢
        case value u => exact ⟨stay a u hy, turn a u _ h⟩
        case skip => exact ⟨stay a _ hy, turn a _ _ h⟩
        case defer d =>
          refine ⟨stay _ _ (hy.stays rfl rfl), turn _ _ _ ?_⟩
          rw [← Act.put_defers]
          exact h
        case enter f args =>
          refine h.mono fun e w'' he => ?_
          cases e with
          | returned u => exact ⟨stay a u hy, turn a u _ he⟩
          | panicked c => exact hQ _ _ _ he
          | outgrown => exact he
        case row r args => exact Rows.mono h fun u w'' he => ⟨stay a u hy, turn a u _ he⟩
    · right
      refine ⟨?_, out⟩
      unfold Oper.asks at h ⊢
      rw [same] at h
      exact h
  · rw [if_neg hw] at h ⊢
    exact ⟨stay a _ hy, turn a _ _ h⟩

/-- Such a call may be taken first. -/
theorem anyH_asks_first {i : Nat} {oi : Oper} {v : Value} (hi : ops[i]? = some oi) (hsel : ∀ (j : Nat) (o : Oper) cs b, ops[j]? = some o → o.op ≠ .select cs b)
    (hQ : ∀ c a w, Q (.panic c) (a.put oi.dst v) w → Q (.panic c) a w) :
    ∀ (fuel : Nat) (listed : Array Bool) (a : Act) (w : World),
      (∀ j oj, ops[j]? = some oj → j ≠ i → listed.getD j true = false → (∀ e ∈ oj.after, Region.binds md e = true → e.on ≠ i) → oi.apart ops oj = true) →
      i ∈ Region.ready md ops listed → Asks P ops S oi v a → S w →
      wpAnyH P md ops Q S fuel (listed.setIfInBounds i true) (a.put oi.dst v) w → wpAnyH P md ops Q S (fuel + 1) listed a w := by
  intro fuel
  induction fuel with
  | zero =>
    intro listed a w _ hr hy hS H
    refine ⟨fun h => (by rw [h] at hr; cases hr), fun j hj => ?_⟩
    by_cases e : j = i
    · subst e; exact hy.here hi hS ⟨hS, H⟩
    · have hn := ready_mono hj e
      rw [H.1] at hn
      cases hn
  | succ fuel ih =>
    intro listed a w hfree hr hy hS H
    refine ⟨fun h => (by rw [h] at hr; cases hr), fun j hj => ?_⟩
    by_cases e : j = i
    · subst e; exact hy.here hi hS ⟨hS, H⟩
    · obtain ⟨hun, oj, hoj, hall⟩ := mem_ready.1 hj
      have hno : ∀ x ∈ oj.after, Region.binds md x = true → x.on ≠ i := fun x hx hb he => by
        have g1 := hall x hx hb
        have g0 := (mem_ready.1 hr).1
        rw [he] at g1
        rcases Nat.lt_or_ge i listed.size with hlt | hge
        · simp [hlt] at g0 g1; rw [g0] at g1; cases g1
        · simp [Array.getElem?_eq_none hge] at g1
      refine wpOp_mono (fun b w' hb => ⟨hb.2.1, ih (listed.setIfInBounds j true) b w' ?_ (ready_mono hr (Ne.symm e)) hb.1 hb.2.1 ?_⟩)
        (Asks.past hoj (hfree j oj hoj e hun hno) (fun cs b => hsel i oi cs b hi) (fun cs b => hsel j oj cs b hoj) hQ hy (H.2 j (ready_mono hj e)))
      · intro k ok hk hki hku hkn
        refine hfree k ok hk hki ?_ hkn
        by_cases hjk : j = k
        · subst hjk; exact hun
        · rw [getD_set_ne true hjk] at hku; exact hku
      · rw [Array.setIfInBounds_comm _ _ e]
        exact hb.2.2

theorem anyH_asks {i : Nat} {oi : Oper} {v : Value} {fuel : Nat} {listed : Array Bool} {a : Act} {w : World} (hi : ops[i]? = some oi)
    (hs : Region.noSelect ops = true) (hf : Region.free md ops listed i = true) (hr : (Region.ready md ops listed).contains i = true)
    (hQ : ∀ c a w, Q (.panic c) (a.put oi.dst v) w → Q (.panic c) a w) (hy : Asks P ops S oi v a) (hS : S w)
    (h : wpAnyH P md ops Q S fuel (listed.setIfInBounds i true) (a.put oi.dst v) w) : wpAnyH P md ops Q S (fuel + 1) listed a w :=
  anyH_asks_first hi (Region.noSelect_spec hs) hQ fuel listed a w (Region.free_spec hi hf) (by simpa using hr) hy hS h
end
end Go.Proofs.Ytnabbebkmafakaa

namespace Go.Proofs.Ytnabbebkmafakaa
set_option maxRecDepth 20000
open Go.RowKit
set_option linter.unusedVariables false
set_option linter.unusedSimpArgs false

/-- An EDU. -/
structure Edu where
  kind : Int
  room : ByteArray
  user : ByteArray
  event : ByteArray
  thread : ByteArray
  priv : Bool
  on : Bool
  span : Int
  state : Int
  tick : Int
  stamp : Int

/-- As a value. -/
def Edu.val (e : Edu) : Value := .agg #[.int .i64 e.kind, .string e.room, .string e.user, .string e.event, .string e.thread, .bool e.priv, .bool e.on, .int .i64 e.span, .int .i64 e.state, .int .i64 e.tick, .int .i64 e.stamp]

/-- Its numbers are as an int has them. -/
def Edu.fits (e : Edu) : Prop := (-9223372036854775808 ≤ e.kind ∧ e.kind ≤ 9223372036854775807) ∧ (-9223372036854775808 ≤ e.span ∧ e.span ≤ 9223372036854775807) ∧ (-9223372036854775808 ≤ e.state ∧ e.state ≤ 9223372036854775807) ∧ (-9223372036854775808 ≤ e.tick ∧ e.tick ≤ 9223372036854775807) ∧ (-9223372036854775808 ≤ e.stamp ∧ e.stamp ≤ 9223372036854775807)

def stampsB (e : Edu) : Bool := decide (0 ≤ e.tick ∧ e.tick ≤ 1099511627776 ∧ 0 ≤ e.stamp ∧ e.stamp ≤ 1099511627776)
def kindB (e : Edu) : Bool :=
  if e.kind = 1 then namedB 33 e.room && eventB e.event && threadB e.thread && !e.on && decide (e.span = 0) && decide (e.state = 0)
  else if e.kind = 2 then namedB 33 e.room && (if e.on then decide (1 ≤ e.span ∧ e.span ≤ 60) else decide (e.span = 0)) && decide (e.event.size = 0) && decide (e.thread.size = 0) && decide (e.state = 0) && !e.priv
  else if e.kind = 3 then decide (e.room.size = 0) && decide (e.event.size = 0) && decide (e.thread.size = 0) && !e.on && decide (e.span = 0) && !e.priv && decide (0 ≤ e.state ∧ e.state ≤ 2)
  else false
/-- May it be local? -/
def localB (e : Edu) : Bool := namedB 64 e.user && stampsB e && kindB e
/-- May it be? -/
def mayB (e : Edu) : Bool := localB e && !e.priv

/-- Its bytes. -/
def bytesB (e : Edu) : List UInt8 :=
  digs (natI e.kind) ++ (textB e.room ++ (textB e.user ++ (textB e.event ++ (textB e.thread ++ (flagB e.on ++ (digs (natI e.span) ++ (digs (natI e.state) ++ (digs (natI e.tick) ++ digs (natI e.stamp)))))))))

/-- What is read of bytes as an EDU, its texts of at most so many bytes, and where the reader is behind it. -/
def readE (m : Int) (bs : List UInt8) : Edu × St :=
  let a := numS (bs, 0)
  let b := textS a.2 m
  let c := textS b.2 m
  let d := textS c.2 m
  let f := textS d.2 m
  let g := flagS f.2
  let h := numS g.2
  let i := numS h.2
  let j := numS i.2
  let k := numS j.2
  ({ kind := a.1, room := strOf b.1, user := strOf c.1, event := strOf d.1, thread := strOf f.1, priv := false, on := g.1, span := h.1, state := i.1, tick := j.1, stamp := k.1 }, k.2)
/-- Is it one? -/
def readB (m : Int) (bs : List UInt8) : Bool := decide (endS (readE m bs).2 = 0) && mayB (readE m bs).1

/-- Names are short. -/
theorem named_size {sign : Int} {s : ByteArray} (h : namedB sign s = true) : s.size ≤ 34 := by
  by_cases hz : 0 < s.size
  · unfold namedB at h
    rw [dif_pos hz] at h
    simp only [Bool.and_eq_true, decide_eq_true_iff] at h
    obtain ⟨⟨⟨_, h1⟩, h2⟩, h3⟩ := h
    have h4 := filledB_size h2
    have h5 : filledB hostI (s.extract ((colonK s).toNat + 1) s.size) = true := by
      unfold serverB at h3
      rw [Bool.and_eq_true] at h3
      exact h3.1
    have h6 := filledB_size h5
    have hc := colonK_lt s
    rw [Lib.size_eq, Lib.extract_data, List.length_take, List.length_drop, ← Lib.size_eq] at h4 h6
    omega
  · omega
theorem event_size {s : ByteArray} (h : eventB s = true) : s.size ≤ 34 := by
  by_cases hz : 0 < s.size
  · unfold eventB at h
    rw [dif_pos hz] at h
    simp only [Bool.and_eq_true] at h
    have h4 := filledB_size h.2
    rw [restS_size] at h4
    omega
  · omega
theorem thread_size {s : ByteArray} (h : threadB s = true) : s.size ≤ 34 := by
  unfold threadB at h
  rw [Bool.or_eq_true, Bool.or_eq_true, beq_iff_eq, beq_iff_eq] at h
  have hz := Lib.size_eq s
  rw [← Lib.toList_data] at hz
  rcases h with (h | h) | h
  · rw [h] at hz
    have h0 : s.size = 0 := hz
    omega
  · rw [h] at hz
    have h0 : s.size = 4 := hz
    omega
  · exact event_size h

/-- What is known of one that may be. -/
theorem may_small {e : Edu} (h : localB e = true) : e.room.size ≤ 34 ∧ e.user.size ≤ 34 ∧ e.event.size ≤ 34 ∧ e.thread.size ≤ 34 ∧ (1 ≤ e.kind ∧ e.kind ≤ 3) ∧ (0 ≤ e.span ∧ e.span ≤ 60) ∧ (0 ≤ e.state ∧ e.state ≤ 2) ∧ (0 ≤ e.tick ∧ e.tick ≤ 1099511627776) ∧ (0 ≤ e.stamp ∧ e.stamp ≤ 1099511627776) := by
  unfold localB stampsB kindB at h
  rw [Bool.and_eq_true, Bool.and_eq_true, decide_eq_true_iff] at h
  obtain ⟨⟨hu, ht⟩, hk⟩ := h
  have hu := named_size hu
  split at hk
  · simp only [Bool.and_eq_true, decide_eq_true_iff, Bool.not_eq_true'] at hk
    obtain ⟨⟨⟨⟨⟨hr, he⟩, hth⟩, hon⟩, hs⟩, hst⟩ := hk
    have := named_size hr
    have := event_size he
    have := thread_size hth
    omega
  · split at hk
    · simp only [Bool.and_eq_true, decide_eq_true_iff, Bool.not_eq_true'] at hk
      obtain ⟨⟨⟨⟨⟨hr, hs⟩, he⟩, hth⟩, hst⟩, hp⟩ := hk
      have := named_size hr
      have hs' : 0 ≤ e.span ∧ e.span ≤ 60 := by
        split at hs
        · rw [decide_eq_true_iff] at hs; omega
        · rw [decide_eq_true_iff] at hs; omega
      omega
    · split at hk
      · simp only [Bool.and_eq_true, decide_eq_true_iff, Bool.not_eq_true'] at hk
        obtain ⟨⟨⟨⟨⟨⟨hr, he⟩, hth⟩, hon⟩, hs⟩, hp⟩, hst⟩ := hk
        omega
      · cases hk

theorem natI_small {n : Int} (h0 : 0 ≤ n) (h1 : n ≤ 1099511627776) : natI n < 128 ^ 9 ∧ ((natI n : Nat) : Int) = n := by
  rw [pow128_9]
  unfold natI
  omega
theorem textS_put {f : ByteArray} {m : Int} (h : f.size ≤ 34) (hm : 34 ≤ m) (r : List UInt8) : textS (textB f ++ r, 0) m = (f.data.toList, (r, 0)) := by
  have hn := numS_digs f.size (Nat.lt_of_le_of_lt h (by decide)) (f.data.toList ++ r) 0
  have hl : f.data.toList.length = f.size := by rw [Array.length_toList]; rfl
  unfold textB
  rw [List.append_assoc]
  rw [textS_take (n := f.size) (s1 := (f.data.toList ++ r, 0)) (by rw [hn]) (by rw [hn]) (by omega) (by simp only [List.length_append]; omega) rfl]
  simp only
  rw [← hl, List.take_left, List.drop_left]

/-- What is written is read as it was. -/
theorem read_bytes {e : Edu} {m : Int} (h : mayB e = true) (hm : 34 ≤ m) : readE m (bytesB e) = (e, ([], 0)) := by
  unfold mayB at h
  rw [Bool.and_eq_true, Bool.not_eq_true'] at h
  obtain ⟨hl, hp⟩ := h
  obtain ⟨h1, h2, h3, h4, h5, h6, h7, h8, h9⟩ := may_small hl
  obtain ⟨k1, k2⟩ := natI_small (n := e.kind) (by omega) (by omega)
  obtain ⟨s1, s2⟩ := natI_small (n := e.span) (by omega) (by omega)
  obtain ⟨t1, t2⟩ := natI_small (n := e.state) (by omega) (by omega)
  obtain ⟨u1, u2⟩ := natI_small (n := e.tick) (by omega) (by omega)
  obtain ⟨v1, v2⟩ := natI_small (n := e.stamp) (by omega) (by omega)
  have hlast := numS_digs (natI e.stamp) v1 [] 0
  rw [List.append_nil] at hlast
  unfold readE bytesB
  simp only [numS_digs _ k1, textS_put h1 hm, textS_put h2 hm, textS_put h3 hm, textS_put h4 hm, flagS_flag, numS_digs _ s1, numS_digs _ t1, numS_digs _ u1, hlast, strOf_toList, k2, s2, t2, u2, v2]
  rw [← hp]
theorem read_ok {e : Edu} {m : Int} (h : mayB e = true) (hm : 34 ≤ m) : readB m (bytesB e) = true := by
  unfold readB
  rw [read_bytes h hm, h]
  rfl
/-- No two have the same bytes. -/
theorem bytes_inj {a b : Edu} (ha : mayB a = true) (hb : mayB b = true) (h : bytesB a = bytesB b) : a = b := by
  have h1 := read_bytes (m := 34) ha (by decide)
  rw [h, read_bytes hb (by decide)] at h1
  exact (congrArg Prod.fst h1).symm

/-- An error stays. -/
theorem failS_err {s : St} {x : Nat} (hx : x ≠ 0) : (failS s x).2 ≠ 0 := failS_bad s x hx
theorem numS_was {s : St} (h : (numS s).2.2 = 0) : s.2 = 0 := by
  unfold numS at h
  split at h
  · exact h
  · rename_i hn
    exact absurd h (failS_err hn)
theorem textS_was {s : St} {m : Int} (h : (textS s m).2.2 = 0) : (numS s).2.2 = 0 ∧ ((numS s).1 : Int) ≤ m ∧ (numS s).1 ≤ (numS s).2.1.length ∧ (textS s m).1 = (numS s).2.1.take (numS s).1 := by
  by_cases hm : m < ((numS s).1 : Int)
  · rw [textS_most rfl rfl hm] at h
    exact absurd h (failS_err (by decide))
  · by_cases hl : (numS s).2.1.length < (numS s).1
    · rw [textS_short rfl rfl hm hl] at h
      exact absurd h (failS_err (by decide))
    · by_cases he : (numS s).2.2 = 0
      · exact ⟨he, by omega, by omega, by rw [textS_take rfl rfl hm hl he]⟩
      · rw [textS_err rfl rfl hm hl he] at h
        exact absurd h he
theorem flagS_was {s : St} (h : (flagS s).2.2 = 0) : s.2 = 0 := by
  obtain ⟨bs, e⟩ := s
  cases bs with
  | nil => exact absurd h (failS_err (by decide))
  | cons b r =>
    unfold flagS at h
    simp only at h
    split at h
    · exact absurd h (failS_err (by decide))
    · exact h
/-- Another bound tells the same, where the text is not above it. -/
theorem textS_same {s : St} {m m' : Int} (h : (textS s m).2.2 = 0) (hl : ((textS s m).1.length : Int) ≤ m') : textS s m' = textS s m := by
  obtain ⟨he, h1, h2, h3⟩ := textS_was h
  rw [h3, List.length_take, Nat.min_eq_left h2] at hl
  rw [textS_take (most := m) rfl rfl (by omega) (by omega) he, textS_take (most := m') rfl rfl (by omega) (by omega) he]
theorem end_zero {s : St} (h : endS s = 0) : s.2 = 0 ∧ s.1 = [] := by
  unfold endS at h
  split at h
  · cases h
  · rename_i hh
    refine ⟨h, ?_⟩
    cases hs : s.1 with
    | nil => rfl
    | cons b r => exact absurd ⟨h, by rw [hs]; simp⟩ hh

/-- Whatever bound is set on its texts, from 34 on. -/
theorem read_same {m m' : Int} {bs : List UInt8} (hm' : 34 ≤ m') (h : readB m bs = true) : readE m' bs = readE m bs := by
  unfold readB at h
  rw [Bool.and_eq_true, decide_eq_true_iff] at h
  obtain ⟨h1, h2⟩ := h
  unfold mayB at h2
  rw [Bool.and_eq_true] at h2
  obtain ⟨z1, z2, z3, z4, _⟩ := may_small h2.1
  have e0 := (end_zero h1).1
  unfold readE at e0 z1 z2 z3 z4
  simp only at e0 z1 z2 z3 z4
  rw [strOf_size] at z1 z2 z3 z4
  have w9 := numS_was (numS_was (numS_was (numS_was e0)))
  have w4 := flagS_was w9
  have w3 := numS_was (textS_was w4).1
  have w2 := numS_was (textS_was w3).1
  have w1 := numS_was (textS_was w2).1
  have q1 := textS_same (m' := m') w1 (by omega)
  have q2 := textS_same (m' := m') w2 (by omega)
  have q3 := textS_same (m' := m') w3 (by omega)
  have q4 := textS_same (m' := m') w4 (by omega)
  unfold readE
  simp only [q1, q2, q3, q4]
theorem readB_same {m m' : Int} (hm : 34 ≤ m) (hm' : 34 ≤ m') (bs : List UInt8) : readB m' bs = readB m bs := by
  cases h : readB m bs
  · cases h' : readB m' bs
    · rfl
    · have := read_same hm h'
      unfold readB at h h'
      rw [this] at h
      rw [h] at h'
      cases h'
  · have := read_same hm' h
    unfold readB at h ⊢
    rw [this]
    exact h

/-- Which one of two rows of bytes is the greater. -/
theorem cmp_self (a : List UInt8) : Lib.compareBytes a a = 0 := by
  induction a with
  | nil => rfl
  | cons x l ih => unfold Lib.compareBytes; simp [ih]
theorem cmp_zero {a b : List UInt8} (h : Lib.compareBytes a b = 0) : a = b := by
  induction a generalizing b with
  | nil => cases b with
    | nil => rfl
    | cons y m => unfold Lib.compareBytes at h; cases h
  | cons x l ih => cases b with
    | nil => unfold Lib.compareBytes at h; cases h
    | cons y m =>
      unfold Lib.compareBytes at h
      split at h
      · cases h
      · split at h
        · cases h
        · rename_i h1 h2
          rw [ih h, UInt8.le_antisymm (UInt8.not_lt.1 h2) (UInt8.not_lt.1 h1)]
theorem cmp_range (a b : List UInt8) : Lib.compareBytes a b = -1 ∨ Lib.compareBytes a b = 0 ∨ Lib.compareBytes a b = 1 := by
  induction a generalizing b with
  | nil => cases b <;> simp [Lib.compareBytes]
  | cons x l ih => cases b with
    | nil => simp [Lib.compareBytes]
    | cons y m =>
      unfold Lib.compareBytes
      split
      · simp
      · split
        · simp
        · exact ih m
theorem cmp_swap (a b : List UInt8) : Lib.compareBytes b a = -Lib.compareBytes a b := by
  induction a generalizing b with
  | nil => cases b <;> simp [Lib.compareBytes]
  | cons x l ih => cases b with
    | nil => simp [Lib.compareBytes]
    | cons y m =>
      unfold Lib.compareBytes
      by_cases h1 : x < y
      · have h2 : ¬ y < x := fun h => UInt8.lt_irrefl _ (UInt8.lt_trans h1 h)
        simp [h1, h2]
      · by_cases h2 : y < x
        · simp [h1, h2]
        · simp [h1, h2, ih]
theorem cmp_trans {a b c : List UInt8} (h1 : Lib.compareBytes a b ≤ 0) (h2 : Lib.compareBytes b c ≤ 0) : Lib.compareBytes a c ≤ 0 := by
  induction a generalizing b c with
  | nil => cases c <;> simp [Lib.compareBytes]
  | cons x l ih => cases b with
    | nil => simp [Lib.compareBytes] at h1
    | cons y m => cases c with
      | nil => simp [Lib.compareBytes] at h2
      | cons z n =>
        unfold Lib.compareBytes at h1 h2 ⊢
        by_cases hxy : x < y
        · by_cases hyz : y < z
          · simp [UInt8.lt_trans hxy hyz]
          · by_cases hzy : z < y
            · simp [hyz, hzy] at h2
            · have : y = z := UInt8.le_antisymm (UInt8.not_lt.1 hzy) (UInt8.not_lt.1 hyz)
              subst this
              simp [hxy]
        · by_cases hyx : y < x
          · simp [hxy, hyx] at h1
          · have : x = y := UInt8.le_antisymm (UInt8.not_lt.1 hyx) (UInt8.not_lt.1 hxy)
            subst this
            by_cases hxz : x < z
            · simp [hxz]
            · by_cases hzx : z < x
              · simp [hxz, hzx] at h2
              · simp [hxz, hzx] at h2 ⊢
                simp at h1
                exact ih h1 h2

/-- Which one of two is later. -/
def cmpE (a b : Edu) : Int := if a.stamp < b.stamp then -1 else if b.stamp < a.stamp then 1 else Lib.compareBytes (bytesB a) (bytesB b)
theorem cmpE_range (a b : Edu) : cmpE a b = -1 ∨ cmpE a b = 0 ∨ cmpE a b = 1 := by
  unfold cmpE
  split
  · simp
  · split
    · simp
    · exact cmp_range _ _
theorem cmpE_swap (a b : Edu) : cmpE b a = -cmpE a b := by
  unfold cmpE
  by_cases h1 : a.stamp < b.stamp
  · have h2 : ¬ b.stamp < a.stamp := by omega
    simp [h1, h2]
  · by_cases h2 : b.stamp < a.stamp
    · simp [h1, h2]
    · simp [h1, h2, cmp_swap (bytesB a)]
theorem cmpE_zero {a b : Edu} (ha : mayB a = true) (hb : mayB b = true) : cmpE a b = 0 ↔ a = b := by
  constructor
  · intro h
    unfold cmpE at h
    split at h
    · cases h
    · split at h
      · cases h
      · exact bytes_inj ha hb (cmp_zero h)
  · rintro rfl
    unfold cmpE
    simp [cmp_self]
theorem cmpE_trans {a b c : Edu} (h1 : cmpE a b ≤ 0) (h2 : cmpE b c ≤ 0) : cmpE a c ≤ 0 := by
  unfold cmpE at h1 h2 ⊢
  by_cases x1 : a.stamp < b.stamp
  · by_cases y1 : b.stamp < c.stamp
    · rw [if_pos (by omega)]; decide
    · by_cases y2 : c.stamp < b.stamp
      · rw [if_neg y1, if_pos y2] at h2; exact absurd h2 (by decide)
      · rw [if_pos (by omega)]; decide
  · by_cases x2 : b.stamp < a.stamp
    · rw [if_neg x1, if_pos x2] at h1; exact absurd h1 (by decide)
    · rw [if_neg x1, if_neg x2] at h1
      by_cases y1 : b.stamp < c.stamp
      · rw [if_pos (by omega)]; decide
      · by_cases y2 : c.stamp < b.stamp
        · rw [if_neg y1, if_pos y2] at h2; exact absurd h2 (by decide)
        · rw [if_neg y1, if_neg y2] at h2
          rw [if_neg (by omega), if_neg (by omega)]
          exact cmp_trans h1 h2
end Go.Proofs.Ytnabbebkmafakaa

namespace Go.Proofs.Ytnabbebkmafakaa
set_option maxRecDepth 20000
open Go.RowKit
set_option linter.unusedVariables false
set_option linter.unusedSimpArgs false

/-- The small world's names, by their places. -/
def serverK (k : Nat) : ByteArray := strOf [115, UInt8.ofNat (49 + k)]
def userK (k : Nat) : ByteArray := strOf [64, UInt8.ofNat (97 + k / 3), 58, 115, UInt8.ofNat (49 + k % 3)]
def roomK (k : Nat) : ByteArray := if k = 0 then strOf [33, 114, 58, 115, 49] else strOf [33, 113, 58, 115, 50]
def eventK (k : Nat) : ByteArray := strOf [36, 101, UInt8.ofNat (48 + k)]
def threadK (k : Nat) : ByteArray := if k = 9 then strOf [] else if k = 10 then strOf [109, 97, 105, 110] else eventK k
/-- .. of any number. -/
def aroundN (n m : Int) : Nat := (aroundI n m).toNat
theorem aroundN_lt (n : Int) {m : Nat} (h : 0 < m) : aroundN n (m : Int) < m := by
  have := aroundI_bd n (m : Int) (by omega)
  unfold aroundN
  omega
theorem aroundN_cast (n : Int) {m : Int} (h : 0 < m) : ((aroundN n m : Nat) : Int) = aroundI n m := by
  have := aroundI_bd n m h
  unfold aroundN
  omega
def userS (n : Int) : ByteArray := userK (aroundN n 9)
def roomS (n : Int) : ByteArray := roomK (aroundN n 2)
def eventS (n : Int) : ByteArray := eventK (aroundN n 9)
def threadS (n : Int) : ByteArray := threadK (aroundN n 11)

theorem serverK_server : ∀ k : Fin 3, serverB (serverK k.val) = true := by decide +kernel
theorem userK_user : ∀ k : Fin 9, namedB 64 (userK k.val) = true := by decide +kernel
theorem roomK_room : ∀ k : Fin 2, namedB 33 (roomK k.val) = true := by decide +kernel
theorem eventK_event : ∀ k : Fin 9, eventB (eventK k.val) = true := by decide +kernel
theorem threadK_thread : ∀ k : Fin 11, threadB (threadK k.val) = true := by decide +kernel
theorem userS_user (n : Int) : namedB 64 (userS n) = true := userK_user ⟨aroundN n 9, aroundN_lt n (m := 9) (by decide)⟩
theorem roomS_room (n : Int) : namedB 33 (roomS n) = true := roomK_room ⟨aroundN n 2, aroundN_lt n (m := 2) (by decide)⟩
theorem eventS_event (n : Int) : eventB (eventS n) = true := eventK_event ⟨aroundN n 9, aroundN_lt n (m := 9) (by decide)⟩
theorem threadS_thread (n : Int) : threadB (threadS n) = true := threadK_thread ⟨aroundN n 11, aroundN_lt n (m := 11) (by decide)⟩

/-- Which number an event's name is made of: a text's length may be near the greatest number, and the sum goes around. -/
def evI (e : Edu) : Int := IntKind.i64.wrap ((e.event.size : Int) + aroundI e.tick 9)
theorem evI_bd (e : Edu) : -9223372036854775808 ≤ evI e ∧ evI e ≤ 9223372036854775807 := by
  unfold evI
  rw [IntKind.wrap_i64]
  omega
/-- One that may be local, made of any: a receipt, that one types, that one is there. -/
def good1 (e : Edu) : Edu := { kind := 1, room := roomS e.span, user := userS e.state, event := eventS (evI e), thread := threadS (e.thread.size : Int), priv := e.priv, on := false, span := 0, state := 0, tick := aroundI e.tick 100, stamp := aroundI e.stamp 9 }
def good2 (e : Edu) : Edu := { kind := 2, room := roomS e.span, user := userS e.state, event := ⟨#[]⟩, thread := ⟨#[]⟩, priv := false, on := e.on, span := if e.on then 1 + aroundI e.span 60 else 0, state := 0, tick := aroundI e.tick 100, stamp := aroundI e.stamp 9 }
def good3 (e : Edu) : Edu := { kind := 3, room := ⟨#[]⟩, user := userS e.state, event := ⟨#[]⟩, thread := ⟨#[]⟩, priv := false, on := false, span := 0, state := aroundI e.span 3, tick := aroundI e.tick 100, stamp := aroundI e.stamp 9 }
def goodE (e : Edu) : Edu := if aroundI e.kind 3 = 0 then good1 e else if aroundI e.kind 3 = 1 then good2 e else good3 e
theorem good_ways (e : Edu) : (aroundI e.kind 3 = 0 ∧ goodE e = good1 e) ∨ (aroundI e.kind 3 = 1 ∧ goodE e = good2 e) ∨ (aroundI e.kind 3 = 2 ∧ goodE e = good3 e) := by
  have hk := aroundI_bd e.kind 3 (by decide)
  unfold goodE
  by_cases h0 : aroundI e.kind 3 = 0
  · exact .inl ⟨h0, by rw [if_pos h0]⟩
  · by_cases h1 : aroundI e.kind 3 = 1
    · exact .inr (.inl ⟨h1, by rw [if_neg h0, if_pos h1]⟩)
    · exact .inr (.inr ⟨by omega, by rw [if_neg h0, if_neg h1]⟩)
theorem good_local (e : Edu) : localB (goodE e) = true := by
  have ht := aroundI_bd e.tick 100 (by decide)
  have hs := aroundI_bd e.stamp 9 (by decide)
  have hp := aroundI_bd e.span 60 (by decide)
  have hq := aroundI_bd e.span 3 (by decide)
  have hz : (ByteArray.mk #[]).size = 0 := rfl
  unfold localB stampsB kindB
  rw [Bool.and_eq_true, Bool.and_eq_true, decide_eq_true_iff]
  rcases good_ways e with ⟨_, h⟩ | ⟨_, h⟩ | ⟨_, h⟩
  · rw [h]
    refine ⟨⟨userS_user _, ?_⟩, ?_⟩
    · simp only [good1]; omega
    · rw [if_pos (show (good1 e).kind = 1 from rfl)]
      simp [good1, roomS_room, eventS_event, threadS_thread]
  · rw [h]
    refine ⟨⟨userS_user _, ?_⟩, ?_⟩
    · simp only [good2]; omega
    · rw [if_neg (show (good2 e).kind ≠ 1 by simp [good2]), if_pos (show (good2 e).kind = 2 from rfl)]
      simp only [good2, roomS_room, hz]
      by_cases ho : e.on = true
      · have h1 : decide (1 ≤ 1 + aroundI e.span 60 ∧ 1 + aroundI e.span 60 ≤ 60) = true := decide_eq_true (by omega)
        simp only [if_pos ho, h1]
        decide
      · simp only [if_neg ho]
        decide
  · rw [h]
    refine ⟨⟨userS_user _, ?_⟩, ?_⟩
    · simp only [good3]; omega
    · rw [if_neg (show (good3 e).kind ≠ 1 by simp [good3]), if_neg (show (good3 e).kind ≠ 2 by simp [good3]), if_pos (show (good3 e).kind = 3 from rfl)]
      have h1 : decide (0 ≤ (good3 e).state ∧ (good3 e).state ≤ 2) = true := decide_eq_true (by simp only [good3]; omega)
      rw [h1]
      simp [good3, hz]
/-- .. and that may be. -/
def publicE (e : Edu) : Edu := { goodE e with priv := false }
theorem public_may (e : Edu) : mayB (publicE e) = true := by
  have h := good_local e
  unfold mayB
  rw [Bool.and_eq_true]
  refine ⟨?_, rfl⟩
  unfold localB at h ⊢
  rw [Bool.and_eq_true, Bool.and_eq_true] at h ⊢
  refine ⟨⟨h.1.1, h.1.2⟩, ?_⟩
  have hk := h.2
  unfold publicE kindB at *
  simp only at hk ⊢
  split
  · rename_i h1
    rw [if_pos h1] at hk
    exact hk
  · rename_i h1
    rw [if_neg h1] at hk
    split
    · rename_i h2
      rw [if_pos h2] at hk
      simp only [Bool.and_eq_true] at hk ⊢
      exact ⟨hk.1, rfl⟩
    · rename_i h2
      rw [if_neg h2] at hk
      split
      · rename_i h3
        rw [if_pos h3] at hk
        simp only [Bool.and_eq_true] at hk ⊢
        exact ⟨⟨hk.1.1, rfl⟩, hk.2⟩
      · rename_i h3
        rw [if_neg h3] at hk
        exact hk

/-- Its texts cut. -/
def fewE (e : Edu) : Edu := { e with room := fewS e.room 40, user := fewS e.user 40, event := fewS e.event 40, thread := fewS e.thread 40 }
/-- What it is of. -/
def sameE (a b : Edu) : Bool := decide (a.kind = b.kind) && (a.room == b.room) && (a.user == b.user) && (a.thread == b.thread) && (a.priv == b.priv)
end Go.Proofs.Ytnabbebkmafakaa

namespace Go.Proofs.Ytnabbebkmafakaa
set_option maxRecDepth 20000
open Go.Joins Go.ChangeShapes Go.WideShapes Go.RowKit Go.Deep
set_option linter.unusedVariables false
set_option linter.unusedSimpArgs false

section
variable {H : Type} {enc : TypeId × Value → H} {P : Program} {w : World} {base : Nat} {spare : Nat → Bool} {held : Bool}
set_option maxHeartbeats 1600000 in
theorem open_agg11 {r : Reach} {b0 : Nat} {t : TypeId} {f0 f1 f2 f3 f4 f5 f6 f7 f8 f9 f10 : Field} {v : Value} {d : DataW H} {p : List MemPlace} (hs : P.underlying t = some (.struct #[f0, f1, f2, f3, f4, f5, f6, f7, f8, f9, f10])) (hone : oneCellFields P #[f0, f1, f2, f3, f4, f5, f6, f7, f8, f9, f10] = true) (hC : P.cellsOf t = 11)
    (hv : Value.okWide P w r b0 t v) (h : DataW.Trod enc P w base spare held t v d p) :
    ∃ (v0 v1 v2 v3 v4 v5 v6 v7 v8 v9 v10 : Value) (y0 y1 y2 y3 y4 y5 y6 y7 y8 y9 y10 : DataW H × List MemPlace) (n : Nat), v = .agg #[v0, v1, v2, v3, v4, v5, v6, v7, v8, v9, v10] ∧ d = .agg [y0.1, y1.1, y2.1, y3.1, y4.1, y5.1, y6.1, y7.1, y8.1, y9.1, y10.1] ∧ p = y0.2 ++ (y1.2 ++ (y2.2 ++ (y3.2 ++ (y4.2 ++ (y5.2 ++ (y6.2 ++ (y7.2 ++ (y8.2 ++ (y9.2 ++ (y10.2)))))))))) ∧ DataW.trod enc P w base spare held n f0.type [v0] = some y0 ∧ DataW.trod enc P w base spare held n f1.type [v1] = some y1 ∧ DataW.trod enc P w base spare held n f2.type [v2] = some y2 ∧ DataW.trod enc P w base spare held n f3.type [v3] = some y3 ∧ DataW.trod enc P w base spare held n f4.type [v4] = some y4 ∧ DataW.trod enc P w base spare held n f5.type [v5] = some y5 ∧ DataW.trod enc P w base spare held n f6.type [v6] = some y6 ∧ DataW.trod enc P w base spare held n f7.type [v7] = some y7 ∧ DataW.trod enc P w base spare held n f8.type [v8] = some y8 ∧ DataW.trod enc P w base spare held n f9.type [v9] = some y9 ∧ DataW.trod enc P w base spare held n f10.type [v10] = some y10 := by
  obtain ⟨cs, rfl, hsz⟩ := okWide_struct hs hv
  obtain ⟨l⟩ := cs
  match l, hsz.trans hC with
  | [c0, c1, c2, c3, c4, c5, c6, c7, c8, c9, c10], _ =>
    obtain ⟨fuel, hf⟩ := h
    obtain ⟨xs, n, _, hx, _, hlen, hg⟩ := DataW.trod_struct hs hf
    obtain ⟨o0, k0⟩ := hone_of hone 0 f0 rfl
    obtain ⟨o1, k1⟩ := hone_of hone 1 f1 rfl
    obtain ⟨o2, k2⟩ := hone_of hone 2 f2 rfl
    obtain ⟨o3, k3⟩ := hone_of hone 3 f3 rfl
    obtain ⟨o4, k4⟩ := hone_of hone 4 f4 rfl
    obtain ⟨o5, k5⟩ := hone_of hone 5 f5 rfl
    obtain ⟨o6, k6⟩ := hone_of hone 6 f6 rfl
    obtain ⟨o7, k7⟩ := hone_of hone 7 f7 rfl
    obtain ⟨o8, k8⟩ := hone_of hone 8 f8 rfl
    obtain ⟨o9, k9⟩ := hone_of hone 9 f9 rfl
    obtain ⟨o10, k10⟩ := hone_of hone 10 f10 rfl
    match xs, hlen with
    | [y0, y1, y2, y3, y4, y5, y6, y7, y8, y9, y10], _ =>
      simp only [Prod.mk.injEq] at hx
      exact ⟨c0, c1, c2, c3, c4, c5, c6, c7, c8, c9, c10, y0, y1, y2, y3, y4, y5, y6, y7, y8, y9, y10, n, rfl, by simpa using hx.1, by simpa using hx.2, by simpa [Value.cells, o0, k0] using hg 0 f0 rfl, by simpa [Value.cells, o1, k1] using hg 1 f1 rfl, by simpa [Value.cells, o2, k2] using hg 2 f2 rfl, by simpa [Value.cells, o3, k3] using hg 3 f3 rfl, by simpa [Value.cells, o4, k4] using hg 4 f4 rfl, by simpa [Value.cells, o5, k5] using hg 5 f5 rfl, by simpa [Value.cells, o6, k6] using hg 6 f6 rfl, by simpa [Value.cells, o7, k7] using hg 7 f7 rfl, by simpa [Value.cells, o8, k8] using hg 8 f8 rfl, by simpa [Value.cells, o9, k9] using hg 9 f9 rfl, by simpa [Value.cells, o10, k10] using hg 10 f10 rfl⟩

/-- An EDU that is handed in. -/
theorem open_edu {r : Reach} {b0 : Nat} {t : TypeId} {f0 f1 f2 f3 f4 f5 f6 f7 f8 f9 f10 : Field} {v : Value} {d : DataW H} {p : List MemPlace} (hs : P.underlying t = some (.struct #[f0, f1, f2, f3, f4, f5, f6, f7, f8, f9, f10])) (hone : oneCellFields P #[f0, f1, f2, f3, f4, f5, f6, f7, f8, f9, f10] = true) (hC : P.cellsOf t = 11)
    (u0 : P.underlying f0.type = some (.int .i64)) (u1 : P.underlying f1.type = some .string) (u2 : P.underlying f2.type = some .string) (u3 : P.underlying f3.type = some .string) (u4 : P.underlying f4.type = some .string) (u5 : P.underlying f5.type = some .bool) (u6 : P.underlying f6.type = some .bool) (u7 : P.underlying f7.type = some (.int .i64)) (u8 : P.underlying f8.type = some (.int .i64)) (u9 : P.underlying f9.type = some (.int .i64)) (u10 : P.underlying f10.type = some (.int .i64))
    (hv : Value.okWide P w r b0 t v) (h : DataW.Trod enc P w base spare held t v d p) :
    ∃ e : Edu, v = e.val ∧ e.fits ∧ e.room.size ≤ maxLen ∧ e.user.size ≤ maxLen ∧ e.event.size ≤ maxLen ∧ e.thread.size ≤ maxLen ∧ p = [] := by
  obtain ⟨v0, v1, v2, v3, v4, v5, v6, v7, v8, v9, v10, y0, y1, y2, y3, y4, y5, y6, y7, y8, y9, y10, n, rfl, _, rfl, t0, t1, t2, t3, t4, t5, t6, t7, t8, t9, t10⟩ := open_agg11 hs hone hC hv h
  obtain ⟨x0, e0, rfl, w0⟩ := DataW.trod_int u0 t0
  obtain ⟨x1, e1, rfl, w1⟩ := DataW.trod_string u1 t1
  obtain ⟨x2, e2, rfl, w2⟩ := DataW.trod_string u2 t2
  obtain ⟨x3, e3, rfl, w3⟩ := DataW.trod_string u3 t3
  obtain ⟨x4, e4, rfl, w4⟩ := DataW.trod_string u4 t4
  obtain ⟨x5, e5, rfl⟩ := DataW.trod_bool u5 t5
  obtain ⟨x6, e6, rfl⟩ := DataW.trod_bool u6 t6
  obtain ⟨x7, e7, rfl, w7⟩ := DataW.trod_int u7 t7
  obtain ⟨x8, e8, rfl, w8⟩ := DataW.trod_int u8 t8
  obtain ⟨x9, e9, rfl, w9⟩ := DataW.trod_int u9 t9
  obtain ⟨x10, e10, rfl, w10⟩ := DataW.trod_int u10 t10
  simp only [List.cons.injEq, and_true] at e0 e1 e2 e3 e4 e5 e6 e7 e8 e9 e10
  subst e0 e1 e2 e3 e4 e5 e6 e7 e8 e9 e10
  exact ⟨⟨x0, x1, x2, x3, x4, x5, x6, x7, x8, x9, x10⟩, rfl, ⟨bounds_i64 w0, bounds_i64 w7, bounds_i64 w8, bounds_i64 w9, bounds_i64 w10⟩, w1, w2, w3, w4, rfl⟩
end
end Go.Proofs.Ytnabbebkmafakaa
