/-
  A statement whose operations may be carried out in any order: a call that answers one value and leaves the world as it was, in every world that meets a condition, may be taken first; and the condition may be made narrower on the way. No program is named here.
-/
import Derived.OrdersHeld
import Derived.Deep.RegionHeld
namespace Go.Proofs.Ytahgkhcmchbpbaa
set_option linter.unusedVariables false
set_option linter.unusedSimpArgs false

section
variable {P : Program} {ops : Array Oper} {Q : Exit → Act → World → Prop} {md : Region.Mode}

/-- The condition may be made narrower. -/
theorem anyH_narrow {S S' : World → Prop} (hS : ∀ w, S' w → S w) : ∀ (fuel : Nat) (listed : Array Bool) (a : Act) (w : World), wpAnyH P md ops Q S' fuel listed a w → wpAnyH P md ops Q S fuel listed a w
  | 0, _, _, _, h => h
  | fuel + 1, _, _, _, h => ⟨h.1, fun i hi => wpOp_mono (fun a' w' h' => ⟨hS _ h'.1, anyH_narrow hS fuel _ a' w' h'.2⟩) (h.2 i hi)⟩

variable {S : World → Prop}

/-- In every world that meets S the operation calls a function that answers v and leaves the world as it was. -/
def Asks (P : Program) (ops : Array Oper) (S : World → Prop) (o : Oper) (v : Value) (a : Act) : Prop :=
  Region.wanted o (yielded ops a.tmps) = true ∧ ∀ w, S w → ∃ f args, (execOp a.eval o).run P w = .ok (.enter f args) w ∧ Calls P f args w fun e w' => e = .returned v ∧ w = w'

theorem Asks.here {i : Nat} {o : Oper} {v : Value} {a : Act} (hi : ops[i]? = some o) (hy : Asks P ops S o v a) {K : Act → World → Prop} {w : World} (hS : S w) (h : K (a.put o.dst v) w) : wpOp P ops Q i K a w := by
  unfold wpOp
  simp only [hi]
  rw [if_pos hy.1]
  obtain ⟨f, args, hr, hc⟩ := hy.2 w hS
  left
  unfold Oper.wp
  rw [hr, Oper.upon_enter]
  exact hc.mono fun e w' ⟨he, hw⟩ => by subst he; subst hw; exact h

theorem Asks.stays {oi : Oper} {v : Value} {a b : Act} (hy : Asks P ops S oi v a) (he : execOp b.eval oi = execOp a.eval oi)
    (hw : Region.wanted oi (yielded ops b.tmps) = Region.wanted oi (yielded ops a.tmps)) : Asks P ops S oi v b := by
  unfold Asks at *
  rw [he, hw]
  exact hy

/-- Another operation does not see whether the answer is there already. -/
theorem Asks.past {j : Nat} {oi oj : Oper} {v : Value} (hj : ops[j]? = some oj) (hap : oi.apart ops oj = true)
    (hsi : ∀ cs b, oi.op ≠ .select cs b) (hsj : ∀ cs b, oj.op ≠ .select cs b)
    (hQ : ∀ c a w, Q (.panic c) (a.put oi.dst v) w → Q (.panic c) a w) {K : Act → World → Prop} {a : Act} {w : World}
    (hy : Asks P ops S oi v a) (h : wpOp P ops Q j K (a.put oi.dst v) w) :
    wpOp P ops Q j (fun b w' => Asks P ops S oi v b ∧ K (b.put oi.dst v) w') a w := by
  obtain ⟨n1, n2, n3⟩ := Oper.apart_spec hap
  have stay : ∀ (b : Act) (u : Value), Asks P ops S oi v b → Asks P ops S oi v (b.put oj.dst u) := fun b u hb =>
    hb.stays (execOp_put oi hsi b oj.dst u n3) (wanted_put oi b oj.dst u n3)
  have turn : ∀ (b : Act) (u : Value) (w' : World), K ((b.put oi.dst v).put oj.dst u) w' → K ((b.put oj.dst u).put oi.dst v) w' := fun b u w' hk => by
    rw [← Act.put_comm b v u n2]; exact hk
  unfold wpOp at h ⊢
  simp only [hj] at h ⊢
  rw [wanted_put oj a oi.dst v n1] at h
  by_cases hw : Region.wanted oj (yielded ops a.tmps) = true
  · rw [if_pos hw] at h ⊢
    have same := execOp_put oj hsj a oi.dst v n1
    rcases h with h | ⟨h, out⟩
    · left
      unfold Oper.wp at h ⊢
      rw [same] at h
      revert h
      cases (execOp a.eval oj).run P w with
      | halt x w' => intro h; cases x <;> simp only [Oper.upon] at h ⊢; exact hQ _ _ _ h
      | ok n w' =>
        intro h
        cases n <;> simp only [Oper.upon] at h ⊢
        case value u => exact ⟨stay a u hy, turn a u _ h⟩
        case skip => exact ⟨stay a _ hy, turn a _ _ h⟩
        case defer d =>
          refine ⟨stay _ _ (hy.stays rfl rfl), turn _ _ _ ?_⟩
          rw [← Act.put_defers]
          exact h
        case enter f args =>
          refine h.mono fun e w'' he => ?_
          cases e with
          | returned u => exact ⟨stay a u hy, turn a u _ he⟩
          | panicked c => exact hQ _ _ _ he
          | outgrown => exact he
        case row r args => exact Rows.mono h fun u w'' he => ⟨stay a u hy, turn a u _ he⟩
    · right
      refine ⟨?_, out⟩
      unfold Oper.asks at h ⊢
      rw [same] at h
      exact h
  · rw [if_neg hw] at h ⊢
    exact ⟨stay a _ hy, turn a _ _ h⟩

/-- Such a call may be taken first. -/
theorem anyH_asks_first {i : Nat} {oi : Oper} {v : Value} (hi : ops[i]? = some oi) (hsel : ∀ (j : Nat) (o : Oper) cs b, ops[j]? = some o → o.op ≠ .select cs b)
    (hQ : ∀ c a w, Q (.panic c) (a.put oi.dst v) w → Q (.panic c) a w) :
    ∀ (fuel : Nat) (listed : Array Bool) (a : Act) (w : World),
      (∀ j oj, ops[j]? = some oj → j ≠ i → listed.getD j true = false → (∀ e ∈ oj.after, Region.binds md e = true → e.on ≠ i) → oi.apart ops oj = true) →
      i ∈ Region.ready md ops listed → Asks P ops S oi v a → S w →
      wpAnyH P md ops Q S fuel (listed.setIfInBounds i true) (a.put oi.dst v) w → wpAnyH P md ops Q S (fuel + 1) listed a w := by
  intro fuel
  induction fuel with
  | zero =>
    intro listed a w _ hr hy hS H
    refine ⟨fun h => (by rw [h] at hr; cases hr), fun j hj => ?_⟩
    by_cases e : j = i
    · subst e; exact hy.here hi hS ⟨hS, H⟩
    · have hn := ready_mono hj e
      rw [H.1] at hn
      cases hn
  | succ fuel ih =>
    intro listed a w hfree hr hy hS H
    refine ⟨fun h => (by rw [h] at hr; cases hr), fun j hj => ?_⟩
    by_cases e : j = i
    · subst e; exact hy.here hi hS ⟨hS, H⟩
    · obtain ⟨hun, oj, hoj, hall⟩ := mem_ready.1 hj
      have hno : ∀ x ∈ oj.after, Region.binds md x = true → x.on ≠ i := fun x hx hb he => by
        have g1 := hall x hx hb
        have g0 := (mem_ready.1 hr).1
        rw [he] at g1
        rcases Nat.lt_or_ge i listed.size with hlt | hge
        · simp [hlt] at g0 g1; rw [g0] at g1; cases g1
        · simp [Array.getElem?_eq_none hge] at g1
      refine wpOp_mono (fun b w' hb => ⟨hb.2.1, ih (listed.setIfInBounds j true) b w' ?_ (ready_mono hr (Ne.symm e)) hb.1 hb.2.1 ?_⟩)
        (Asks.past hoj (hfree j oj hoj e hun hno) (fun cs b => hsel i oi cs b hi) (fun cs b => hsel j oj cs b hoj) hQ hy (H.2 j (ready_mono hj e)))
      · intro k ok hk hki hku hkn
        refine hfree k ok hk hki ?_ hkn
        by_cases hjk : j = k
        · subst hjk; exact hun
        · rw [getD_set_ne true hjk] at hku; exact hku
      · rw [Array.setIfInBounds_comm _ _ e]
        exact hb.2.2

theorem anyH_asks {i : Nat} {oi : Oper} {v : Value} {fuel : Nat} {listed : Array Bool} {a : Act} {w : World} (hi : ops[i]? = some oi)
    (hs : Region.noSelect ops = true) (hf : Region.free md ops listed i = true) (hr : (Region.ready md ops listed).contains i = true)
    (hQ : ∀ c a w, Q (.panic c) (a.put oi.dst v) w → Q (.panic c) a w) (hy : Asks P ops S oi v a) (hS : S w)
    (h : wpAnyH P md ops Q S fuel (listed.setIfInBounds i true) (a.put oi.dst v) w) : wpAnyH P md ops Q S (fuel + 1) listed a w :=
  anyH_asks_first hi (Region.noSelect_spec hs) hQ fuel listed a w (Region.free_spec hi hf) (by simpa using hr) hy hS h
end
end Go.Proofs.Ytahgkhcmchbpbaa
