/-
  A step behind all others settles it: plain facts.
-/
import Derived.Test.YtfbfdkibdjinaaaGreatM9A
import Derived.Test.YtfbfdkibdjinaaaGreatDagMk
namespace Go.Proofs.YtfbfdkibdjinaaaGreat
set_option maxRecDepth 20000
set_option linter.unusedVariables false
set_option linter.unusedSimpArgs false

def yK (i : Nat) : ByteArray := ⟨#[36, 121, UInt8.ofNat (48 + i)]⟩
def zK : ByteArray := ⟨#[36, 122]⟩
theorem yK_event : ∀ i : Fin 9, eventB (yK i.val) = true := by decide +kernel
theorem zK_event : eventB zK = true := by decide +kernel
theorem yK_ne : ∀ i j : Fin 9, i ≠ j → yK i.val ≠ yK j.val := by decide +kernel
theorem yK_event_ne : ∀ i k : Fin 9, eventK k.val ≠ yK i.val ∧ eventK k.val ≠ zK ∧ yK i.val ≠ zK := by decide +kernel
theorem yK_less : ∀ i k : Fin 9, Op.bytesLess (eventK k.val).toList (yK i.val).toList = true := by decide +kernel
theorem yK_put : ∀ i k : Fin 9, putL (yK i.val) (putL (eventK k.val) []) = [eventK k.val, yK i.val] := by decide +kernel

section
variable (room user : ByteArray) (h : List ByteArray) (E : List Ev)
def yPar (i : Nat) : List ByteArray := if i = 0 then [h.getD i ⟨#[]⟩] else [h.getD i ⟨#[]⟩, yK (i - 1)]
def yEv (i : Nat) : Ev := ⟨yK i, room, yPar h i, ⟨#[]⟩, user, 0⟩
def chain (i : Nat) : List Ev := E ++ (List.range i).map (yEv room user h)
def zPar : List ByteArray := if h.length = 0 then [] else [yK (h.length - 1)]
def zEv (d : Int) : Ev := ⟨zK, room, zPar h, ⟨#[]⟩, user, d⟩
end
section
variable {room user : ByteArray} {h : List ByteArray} {E : List Ev}
theorem chain_zero : chain room user h E 0 = E := by simp [chain]
theorem chain_succ (i : Nat) : chain room user h E (i + 1) = chain room user h E i ++ [yEv room user h i] := by
  unfold chain
  rw [List.range_succ, List.map_append, List.append_assoc]
  rfl
theorem chain_len (i : Nat) : (chain room user h E i).length = E.length + i := by simp [chain]
theorem chain_old {e : Ev} (i : Nat) (he : e ∈ E) : e ∈ chain room user h E i := List.mem_append.2 (.inl he)
theorem chain_new {i j : Nat} (hj : j < i) : yEv room user h j ∈ chain room user h E i := List.mem_append.2 (.inr (List.mem_map.2 ⟨j, List.mem_range.2 hj, rfl⟩))
theorem chain_mem {i : Nat} {e : Ev} (he : e ∈ chain room user h E i) : e ∈ E ∨ ∃ j, j < i ∧ e = yEv room user h j := by
  rcases List.mem_append.1 he with h1 | h1
  · exact .inl h1
  · obtain ⟨j, hj, rfl⟩ := List.mem_map.1 h1
    exact .inr ⟨j, List.mem_range.1 hj, rfl⟩
/-- What a chain stands on. -/
structure ChainOk (room user : ByteArray) (h : List ByteArray) (E : List Ev) : Prop where
  val : Valid room E
  room : namedB 33 room = true
  user : namedB 64 user = true
  len : h.length ≤ 9
  ids : ∀ e ∈ E, ∃ k : Fin 9, e.id = eventK k.val
  head : ∀ p ∈ h, ∃ e ∈ E, e.id = p
theorem head_get {i : Nat} (hi : i < h.length) : h[i]? = some (h.getD i ⟨#[]⟩) ∧ h.getD i ⟨#[]⟩ ∈ h := by
  have h1 : h[i]? = some h[i] := List.getElem?_eq_getElem hi
  have h2 : h.getD i ⟨#[]⟩ = h[i] := by rw [List.getD_eq_getElem?_getD, h1]; rfl
  rw [h2]
  exact ⟨h1, List.getElem_mem hi⟩
theorem ChainOk.headK (c : ChainOk room user h E) {i : Nat} (hi : i < h.length) : ∃ k : Fin 9, h.getD i ⟨#[]⟩ = eventK k.val := by
  obtain ⟨e, he, hp⟩ := c.head _ (head_get hi).2
  obtain ⟨k, hk⟩ := c.ids e he
  exact ⟨k, hp.symm.trans hk⟩
theorem ChainOk.par (c : ChainOk room user h E) {i : Nat} (hi : i < h.length) : (if i = 0 then [h.getD i ⟨#[]⟩] else putL (yK (i - 1)) (putL (h.getD i ⟨#[]⟩) [])) = yPar h i := by
  unfold yPar
  split
  · rfl
  · obtain ⟨k, hk⟩ := c.headK hi
    rw [hk]
    exact yK_put ⟨i - 1, by have := c.len; omega⟩ k
theorem ChainOk.may (c : ChainOk room user h E) {i : Nat} (hi : i < h.length) : mayE (yEv room user h i) = true := by
  have hl := c.len
  obtain ⟨k, hk⟩ := c.headK hi
  have h1 := yK_event ⟨i, by omega⟩
  have h2 := eventK_event k
  have h3 := (yK_event_ne ⟨i, by omega⟩ k).1
  simp only at h1 h3
  unfold mayE headB thrB
  rw [parTo, List.all_eq_true.2 (fun j hj => ?_)]
  · simp only [yEv, h1, c.room, c.user, yPar]
    split <;> simp
  · rw [List.mem_range] at hj
    by_cases h0 : i = 0
    · subst h0
      have hj0 : j = 0 := by simp only [yEv, yPar, if_pos, List.length_cons, List.length_nil] at hj; omega
      subst hj0
      unfold parB
      simp only [yEv, yPar, if_pos, List.getD_cons_zero, hk, h2, Bool.true_and]
      simp [h3]
    · have hy := yK_event ⟨i - 1, by omega⟩
      have hyn := yK_ne ⟨i - 1, by omega⟩ ⟨i, by omega⟩ (by intro e; injection e with e; omega)
      have hyl := yK_less ⟨i - 1, by omega⟩ k
      simp only at hy hyn hyl
      have hj2 : j = 0 ∨ j = 1 := by simp only [yEv, yPar, if_neg h0, List.length_cons, List.length_nil] at hj; omega
      rcases hj2 with rfl | rfl
      · unfold parB
        simp only [yEv, yPar, if_neg h0, List.getD_cons_zero, hk, h2, Bool.true_and]
        simp [h3]
      · unfold parB
        simp only [yEv, yPar, if_neg h0, List.getD_cons_zero, List.getD_cons_succ, hk, hy, hyl, Bool.true_and, Nat.sub_self]
        simp [hyn]
theorem err_ok {l : List Ev} {e : Ev} (hm : mayE e = true) (hr : e.room = room) (hh : hasE l e.id = false) (hp : ∀ p ∈ e.parents, hasE l p = true) (ht : e.thread = ⟨#[]⟩) : errA room l e = 0 := by
  unfold errA
  rw [if_neg (by simp [hm, hr]), if_neg (by simp [hh]), if_neg (by rw [List.all_eq_true.2 hp]; simp), if_pos ht]
theorem ChainOk.err (c : ChainOk room user h E) {i : Nat} (hi : i < h.length) : errA room (chain room user h E i) (yEv room user h i) = 0 := by
  have hl := c.len
  refine err_ok (c.may hi) rfl ?_ ?_ rfl
  · rw [Bool.eq_false_iff]
    intro hh
    obtain ⟨e, he, hid⟩ := has_iff.1 hh
    rcases chain_mem he with h1 | ⟨j, hj, rfl⟩
    · obtain ⟨k, hk⟩ := c.ids e h1
      rw [hk] at hid
      exact (yK_event_ne ⟨i, by omega⟩ k).1 hid
    · exact yK_ne ⟨j, by omega⟩ ⟨i, by omega⟩ (by intro e; injection e with e; omega) hid
  · intro p hp
    have hhead : hasE (chain room user h E i) (h.getD i ⟨#[]⟩) = true := by
      obtain ⟨e, he, hep⟩ := c.head _ (head_get hi).2
      exact has_iff.2 ⟨e, chain_old i he, hep⟩
    simp only [yEv, yPar] at hp
    split at hp
    · rw [List.mem_singleton.1 hp]; exact hhead
    · rcases List.mem_cons.1 hp with rfl | hp
      · exact hhead
      · rw [List.mem_singleton.1 hp]
        exact has_iff.2 ⟨_, chain_new (j := i - 1) (by omega), rfl⟩
theorem ChainOk.valid (c : ChainOk room user h E) : ∀ i, i ≤ h.length → Valid room (chain room user h E i)
  | 0, _ => by rw [chain_zero]; exact c.val
  | i + 1, hi => by rw [chain_succ]; exact valid_snoc (c.valid i (by omega)) (c.err (by omega))
theorem ChainOk.zerr (c : ChainOk room user h E) {d : Int} (hd0 : 0 ≤ d) (hd2 : d ≤ 2) : errA room (chain room user h E h.length) (zEv room user h d) = 0 := by
  have hl := c.len
  refine err_ok ?_ rfl ?_ ?_ rfl
  · have h1 := zK_event
    unfold mayE headB thrB
    rw [parTo, List.all_eq_true.2 (fun j hj => ?_)]
    · simp only [zEv, h1, c.room, c.user, zPar, hd0, hd2]
      split <;> simp
    · rw [List.mem_range] at hj
      by_cases h0 : h.length = 0
      · simp only [zEv, zPar, if_pos h0, List.length_nil] at hj; omega
      · have hj0 : j = 0 := by simp only [zEv, zPar, if_neg h0, List.length_cons, List.length_nil] at hj; omega
        subst hj0
        have hy := yK_event ⟨h.length - 1, by omega⟩
        have hyn := (yK_event_ne ⟨h.length - 1, by omega⟩ 0).2.2
        simp only at hy hyn
        unfold parB
        simp only [zEv, zPar, if_neg h0, List.getD_cons_zero, hy, Bool.true_and]
        simp [hyn]
  · rw [Bool.eq_false_iff]
    intro hh
    obtain ⟨e, he, hid⟩ := has_iff.1 hh
    rcases chain_mem he with h1 | ⟨j, hj, rfl⟩
    · obtain ⟨k, hk⟩ := c.ids e h1
      rw [hk] at hid
      exact (yK_event_ne 0 k).2.1 hid
    · exact (yK_event_ne ⟨j, by omega⟩ 0).2.2 hid
  · intro p hp
    simp only [zEv, zPar] at hp
    split at hp
    · cases hp
    · rw [List.mem_singleton.1 hp]
      exact has_iff.2 ⟨_, chain_new (j := h.length - 1) (by omega), rfl⟩
/-- The dag with the step at its end. -/
def endL (room user : ByteArray) (h : List ByteArray) (E : List Ev) (d : Int) : List Ev := chain room user h E h.length ++ [zEv room user h d]
theorem ChainOk.endValid (c : ChainOk room user h E) {d : Int} (hd0 : 0 ≤ d) (hd2 : d ≤ 2) : Valid room (endL room user h E d) := valid_snoc (c.valid _ (Nat.le_refl _)) (c.zerr hd0 hd2)
theorem end_mem {d : Int} {e : Ev} (he : e ∈ endL room user h E d) : e ∈ E ∨ (∃ j, j < h.length ∧ e = yEv room user h j) ∨ e = zEv room user h d := by
  rcases List.mem_append.1 he with h1 | h1
  · rcases chain_mem h1 with h2 | h2
    · exact .inl h2
    · exact .inr (.inl h2)
  · exact .inr (.inr (List.mem_singleton.1 h1))
theorem max_of (g : Ev → Nat) : ∀ l : List Ev, l ≠ [] → ∃ e ∈ l, ∀ f ∈ l, g f ≤ g e
  | [], h => (h rfl).elim
  | [x], _ => ⟨x, List.mem_cons_self, fun f hf => by rw [List.mem_singleton.1 hf]; exact Nat.le_refl _⟩
  | x :: y :: r, _ => by
    obtain ⟨e, he, hm⟩ := max_of g (y :: r) (by simp)
    by_cases hx : g e ≤ g x
    · refine ⟨x, List.mem_cons_self, fun f hf => ?_⟩
      rcases List.mem_cons.1 hf with rfl | hf
      · exact Nat.le_refl _
      · exact Nat.le_trans (hm f hf) hx
    · refine ⟨e, List.mem_cons_of_mem _ he, fun f hf => ?_⟩
      rcases List.mem_cons.1 hf with rfl | hf
      · omega
      · exact hm f hf
theorem end_deep (hh : h = headsL E) (c : ChainOk room user h E) {d : Int} (hd0 : 0 ≤ d) (hd2 : d ≤ 2) {f : Ev} (hf : f ∈ E) : depthL (endL room user h E d) f.id < depthL (endL room user h E d) zK := by
  have hv := c.endValid hd0 hd2
  have hin : ∀ e ∈ E, e ∈ endL room user h E d := fun e he => List.mem_append.2 (.inl (chain_old _ he))
  have hyin : ∀ j, j < h.length → yEv room user h j ∈ endL room user h E d := fun j hj => List.mem_append.2 (.inl (chain_new hj))
  have hzin : zEv room user h d ∈ endL room user h E d := List.mem_append.2 (.inr List.mem_cons_self)
  generalize hF : endL room user h E d = F at hv hin hyin hzin
  obtain ⟨e, he, hmax⟩ := max_of (fun x => depthL F x.id) E (fun h0 => by rw [h0] at hf; cases hf)
  have hhead : isHead E e.id = true := by
    unfold isHead
    rw [List.all_eq_true]
    intro x hx
    rw [List.all_eq_true]
    intro p hp
    simp only [Bool.not_eq_true', decide_eq_false_iff_not]
    rintro rfl
    have h1 := depth_less hv (hin x hx) hp
    have h2 := hmax x hx
    omega
  have hmem : e.id ∈ h := by
    rw [hh]
    unfold headsL
    exact List.mem_map.2 ⟨e, List.mem_filter.2 ⟨((allL_row c.val).2 e).2 he, hhead⟩, rfl⟩
  obtain ⟨i, hi, hie⟩ := List.getElem_of_mem hmem
  have hgi : h.getD i ⟨#[]⟩ = e.id := by rw [List.getD_eq_getElem?_getD, List.getElem?_eq_getElem hi, hie]; rfl
  have h1 : depthL F e.id < depthL F (yK i) := by
    refine depth_less hv (hyin i hi) ?_
    show e.id ∈ yPar h i
    unfold yPar
    rw [hgi]
    split <;> simp
  have h2 : ∀ n, i + n < h.length → depthL F (yK i) ≤ depthL F (yK (i + n)) := by
    intro n
    induction n with
    | zero => intro _; exact Nat.le_refl _
    | succ n ih =>
      intro hn
      refine Nat.le_trans (ih (by omega)) (Nat.le_of_lt (depth_less (e := yEv room user h (i + (n + 1))) hv (hyin _ hn) ?_))
      show yK (i + n) ∈ yPar h (i + (n + 1))
      unfold yPar
      rw [if_neg (by omega)]
      simp [show i + (n + 1) - 1 = i + n by omega]
  have h3 := h2 (h.length - 1 - i) (by omega)
  rw [show i + (h.length - 1 - i) = h.length - 1 by omega] at h3
  have h4 : depthL F (yK (h.length - 1)) < depthL F zK := by
    refine depth_less (e := zEv room user h d) hv hzin ?_
    show _ ∈ zPar h
    unfold zPar
    rw [if_neg (by omega)]
    exact List.mem_cons_self
  have h5 := hmax f hf
  omega
theorem depth_snoc {l : List Ev} {e : Ev} {k : ByteArray} (hh : hasE l k = true) : depthL (l ++ [e]) k = depthL l k := by
  have h1 := idx_take (l := l ++ [e]) (k := k) (n := l.length) (by rw [List.take_left]; exact hh)
  rw [List.take_left] at h1
  obtain ⟨h1, i, hi, hil⟩ := h1
  unfold depthL
  rw [h1, hi, deps_snoc]
  show (deps l ++ [depE l (deps l) e]).getD i 0 = (deps l).getD i 0
  rw [List.getD_eq_getElem?_getD, List.getD_eq_getElem?_getD, List.getElem?_append_left (by rw [deps_len]; exact hil)]
theorem depth_chain {f : Ev} (hf : f ∈ E) : ∀ i, depthL (chain room user h E i) f.id = depthL E f.id
  | 0 => by rw [chain_zero]
  | i + 1 => by rw [chain_succ, depth_snoc (has_iff.2 ⟨f, chain_old i hf, rfl⟩), depth_chain hf i]
theorem depth_end {d : Int} {f : Ev} (hf : f ∈ E) : depthL (endL room user h E d) f.id = depthL E f.id := by
  unfold endL
  rw [depth_snoc (has_iff.2 ⟨f, chain_old _ hf, rfl⟩), depth_chain hf]
theorem step_y (u : ByteArray) (j : Nat) : stepB u (yEv room user h j) = false := by simp [stepB, yEv]
/-- The user's own. -/
theorem end_join (hh : h = headsL E) (c : ChainOk room user h E) {d : Int} (hd0 : 1 ≤ d) (hd2 : d ≤ 2) : joinL (endL room user h E d) user = decide (d = 1) := by
  have hv := c.endValid (d := d) (by omega) hd2
  have hl : lastL (endL room user h E d) user = some (zEv room user h d) := by
    refine isLast_unique (lastL_is hv user) ⟨List.mem_append.2 (.inr List.mem_cons_self), ?_, fun f hf hs => ?_⟩
    · show (decide (user = user) && !decide (d = 0)) = true
      rw [decide_eq_true rfl, decide_eq_false (by omega)]
      rfl
    · rcases end_mem hf with h1 | ⟨j, hj, rfl⟩ | rfl
      · have h2 := end_deep hh c (d := d) (by omega) hd2 h1
        refine .inr ?_
        have h3 : (posL (endL room user h E d) f.id).depth < (posL (endL room user h E d) zK).depth := Int.ofNat_lt.2 h2
        unfold beforeP
        show (decide ((posL (endL room user h E d) f.id).depth < (posL (endL room user h E d) zK).depth) || _) = true
        rw [decide_eq_true h3, Bool.true_or]
      · rw [step_y] at hs; cases hs
      · exact .inl rfl
  unfold joinL
  rw [hl]
  rfl
/-- Another one's. -/
theorem end_other (c : ChainOk room user h E) {d : Int} (hd0 : 0 ≤ d) (hd2 : d ≤ 2) {u : ByteArray} (hu : u ≠ user) : joinL (endL room user h E d) u = joinL E u := by
  have hv := c.endValid hd0 hd2
  have hz : stepB u (zEv room user h d) = false := by
    unfold stepB zEv
    rw [decide_eq_false (fun e => hu (Eq.symm e)), Bool.false_and]
  have hl : lastL (endL room user h E d) u = lastL E u := by
    refine isLast_unique (lastL_is hv u) ?_
    have h1 := lastL_is c.val u
    cases ho : lastL E u with
    | none =>
      rw [ho] at h1
      intro f hf
      rcases end_mem hf with h2 | ⟨j, hj, rfl⟩ | rfl
      · exact h1 f h2
      · exact step_y u j
      · exact hz
    | some e =>
      rw [ho] at h1
      obtain ⟨h2, h3, h4⟩ := h1
      refine ⟨List.mem_append.2 (.inl (chain_old _ h2)), h3, fun f hf hs => ?_⟩
      rcases end_mem hf with h5 | ⟨j, hj, rfl⟩ | rfl
      · rcases h4 f h5 hs with h6 | h6
        · exact .inl h6
        · refine .inr ?_
          unfold posL at *
          rw [depth_end h5, depth_end h2]
          exact h6
      · rw [step_y] at hs; cases hs
      · rw [hz] at hs; cases hs
  unfold joinL
  rw [hl]
/-- Who is joined then. -/
def wantL (user : ByteArray) (us : List ByteArray) (d : Int) : List ByteArray := if d = 1 then putL user (us.filter (fun x => !decide (x = user))) else us.filter (fun x => !decide (x = user))
theorem end_users (hh : h = headsL E) (c : ChainOk room user h E) {d : Int} (hd0 : 1 ≤ d) (hd2 : d ≤ 2) : usersL (endL room user h E d) = wantL user (usersL E) d := by
  have hv := c.endValid (d := d) (by omega) hd2
  have hup : Up ((usersL E).filter (fun x => !decide (x = user))) := List.Pairwise.filter _ (usersL_up E)
  refine up_unique (usersL_up _) ?_ (fun x => ?_)
  · unfold wantL
    split
    · exact putL_up _ _ hup
    · exact hup
  · rw [usersL_mem hv]
    have hfm : x ∈ (usersL E).filter (fun x => !decide (x = user)) ↔ joinL E x = true ∧ x ≠ user := by
      rw [List.mem_filter, usersL_mem c.val]
      simp
    by_cases hx : x = user
    · subst hx
      rw [end_join hh c hd0 hd2]
      unfold wantL
      split
      · rename_i h1
        rw [putL_mem]
        simp [h1]
      · rename_i h1
        rw [hfm]
        simp [h1]
    · rw [end_other c (by omega) hd2 hx]
      unfold wantL
      split
      · rw [putL_mem, hfm]
        simp [hx]
      · rw [hfm]
        simp [hx]
end
theorem heads_mem {room : ByteArray} {E : List Ev} (hv : Valid room E) : ∀ p ∈ headsL E, ∃ e ∈ E, e.id = p := by
  intro p hp
  unfold headsL at hp
  obtain ⟨e, he, rfl⟩ := List.mem_map.1 hp
  exact ⟨e, ((allL_row hv).2 e).1 (List.mem_filter.1 he).1, rfl⟩
end Go.Proofs.YtfbfdkibdjinaaaGreat
