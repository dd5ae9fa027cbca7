/-
  Where each key's entry stands, as a map that is read says it; lists of entries whose keys are all different, one taken away, one put. Plain facts.
-/
import Derived.Test.YtkbmkbmbkmeenaaHpPlain
import Derived.Maps.OwnSet
namespace Go.Proofs.Ytkbmkbmbkmeenaa
set_option linter.unusedVariables false
set_option linter.unusedSimpArgs false
open Go.Maps

def kl (k : ByteArray) : Lit := .string k.data.toList
theorem kl_inj {a b : ByteArray} (h : kl a = kl b) : a = b := by
  unfold kl at h
  injection h with h
  exact (byteArray_eq_iff a b).2 h
theorem kl_key (k : ByteArray) : WideAt.IsKeyLit (kl k) := by simp [kl, WideAt.IsKeyLit]
abbrev Dm := DataW Unit
def numD (i : Nat) : Dm := .lit (.int .i64 (i : Int))
def zeroD : Dm := .lit (.int .i64 0)
/-- The map says that key k stands at i. -/
def AtM (D : Dm) (k : ByteArray) (i : Nat) : Prop := has D (kl k) = true ∧ D.atKey (kl k) zeroD = numD i
/-- Each key is there, at its place, but maybe that at i; no other one is. -/
def PlH (D : Dm) (es : List Ent) (i : Nat) : Prop := (∀ j, j < es.length → j ≠ i → AtM D (nth es j).key j) ∧ ∀ k, has D k = true → ∃ j, j < es.length ∧ kl (nth es j).key = k
def Pl (D : Dm) (es : List Ent) : Prop := (∀ j, j < es.length → AtM D (nth es j).key j) ∧ ∀ k, has D k = true → ∃ j, j < es.length ∧ kl (nth es j).key = k
def KeysE (es : List Ent) : Prop := (es.map Ent.key).Nodup
theorem KeysE.inj {es : List Ent} (h : KeysE es) {i j : Nat} (hi : i < es.length) (hj : j < es.length) (he : (nth es i).key = (nth es j).key) : i = j := by
  unfold KeysE at h
  have := (List.nodup_iff_pairwise_ne.1 h)
  rw [List.pairwise_iff_getElem] at this
  rcases Nat.lt_trichotomy i j with hl | hl | hl
  · exact absurd (by rw [List.getElem_map, List.getElem_map, nth_get hi, nth_get hj]; exact he) (this i j (by simpa using hi) (by simpa using hj) hl)
  · exact hl
  · exact absurd (by rw [List.getElem_map, List.getElem_map, nth_get hi, nth_get hj]; exact he.symm) (this j i (by simpa using hj) (by simpa using hi) hl)
theorem KeysE.perm {es es' : List Ent} (h : KeysE es) (hp : es'.Perm es) : KeysE es' := (hp.map Ent.key).nodup_iff.2 h
theorem Pl.hole {D : Dm} {es : List Ent} (h : Pl D es) (i : Nat) : PlH D es i := ⟨fun j hj _ => h.1 j hj, h.2⟩
theorem at_put_same {D : Dm} (hD : IsMap D) (k : ByteArray) (i : Nat) : AtM (D.put (kl k) (numD i)) k i := ⟨has_put_same hD (kl_key k) _, atKey_put_same hD (kl_key k) _ _⟩
theorem at_put_other {D : Dm} {k k' : ByteArray} {i j : Nat} (hne : k' ≠ k) (h : AtM D k' j) : AtM (D.put (kl k) (numD i)) k' j :=
  ⟨by rw [has_put_other (fun e => hne (kl_inj e))]; exact h.1, by rw [atKey_put_other (fun e => hne (kl_inj e))]; exact h.2⟩
theorem at_del_other {D : Dm} {k k' : ByteArray} {j : Nat} (hne : k' ≠ k) (h : AtM D k' j) : AtM (D.del (kl k)) k' j :=
  ⟨by rw [has_del_other (fun e => hne (kl_inj e))]; exact h.1, by rw [atKey_del_other (fun e => hne (kl_inj e))]; exact h.2⟩
/-- The hole is filled. -/
theorem PlH.fill {D : Dm} {es : List Ent} {i : Nat} (h : PlH D es i) (hD : IsMap D) (hi : i < es.length) (hk : KeysE es) : Pl (D.put (kl (nth es i).key) (numD i)) es := by
  refine ⟨fun j hj => ?_, fun k hh => ?_⟩
  · by_cases e : j = i
    · subst e; exact at_put_same hD _ _
    · exact at_put_other (fun e' => e (hk.inj hj hi e')) (h.1 j hj e)
  · by_cases e : k = kl (nth es i).key
    · exact ⟨i, hi, e.symm⟩
    · rw [has_put_other e] at hh
      exact h.2 k hh
/-- The hole goes on to a. -/
theorem PlH.move {D : Dm} {es : List Ent} {i a : Nat} (h : PlH D es i) (hD : IsMap D) (hi : i < es.length) (ha : a < es.length) (hai : a ≠ i) (hk : KeysE es) : PlH (D.put (kl (nth es a).key) (numD i)) (swp es i a) a := by
  refine ⟨fun j hj hja => ?_, fun k hh => ?_⟩
  · rw [swp_len] at hj
    rw [swp_nth hi ha, if_neg hja]
    by_cases e : j = i
    · subst e
      rw [if_pos rfl]
      exact at_put_same hD _ _
    · rw [if_neg e]
      exact at_put_other (fun e' => hja (hk.inj hj ha e')) (h.1 j hj e)
  · rw [swp_len]
    by_cases e : k = kl (nth es a).key
    · exact ⟨i, hi, by rw [swp_nth hi ha, if_neg (fun e => hai e.symm), if_pos rfl]; exact e.symm⟩
    · rw [has_put_other e] at hh
      obtain ⟨j, hj, hjk⟩ := h.2 k hh
      by_cases h1 : j = a
      · subst h1; exact absurd hjk.symm e
      · by_cases h2 : j = i
        · subst h2
          exact ⟨a, ha, by rw [swp_nth hi ha, if_pos rfl]; exact hjk⟩
        · exact ⟨j, hj, by rw [swp_nth hi ha, if_neg h1, if_neg h2]; exact hjk⟩
theorem nodup_le {α : Type} [DecidableEq α] : ∀ {l m : List α}, l.Nodup → (∀ x ∈ l, x ∈ m) → l.length ≤ m.length
  | [], m, _, _ => Nat.zero_le _
  | a :: l, m, h, hs => by
    obtain ⟨h1, h2⟩ := List.nodup_cons.1 h
    have ha := hs a List.mem_cons_self
    have := nodup_le (l := l) (m := m.erase a) h2 (fun x hx => (List.mem_erase_of_ne (a := x) (b := a) (fun e => h1 (by rw [← e]; exact hx))).2 (hs x (List.mem_cons_of_mem _ hx)))
    rw [List.length_erase_of_mem ha] at this
    have : 0 < m.length := List.length_pos_of_mem ha
    simp only [List.length_cons]
    omega
/-- What every map that is read is. -/
def Fine (D : Dm) : Prop := ∃ xs, D = .map xs ∧ xs.Pairwise (fun p q => p.1 ≠ q.1) ∧ ∀ p ∈ xs, WideAt.IsKeyLit p.1
theorem Fine.isMap {D : Dm} (h : Fine D) : IsMap D := let ⟨xs, e, _⟩ := h; ⟨xs, e⟩
/-- As many as there are. -/
theorem PlH.size {D : Dm} {es : List Ent} {i : Nat} (h : PlH D es i) (ht : Fine D) : Maps.size D ≤ es.length := by
  obtain ⟨xs, rfl, hp, hl⟩ := ht
  have hn : (xs.map (·.1)).Nodup := by
    rw [List.nodup_iff_pairwise_ne, List.pairwise_map]
    exact hp
  have hk : ∀ x ∈ xs.map (·.1), x ∈ es.map (fun e => kl e.key) := by
    intro x hx
    obtain ⟨p, hp, rfl⟩ := List.mem_map.1 hx
    obtain ⟨j, hj, hjk⟩ := h.2 p.1 (List.any_eq_true.2 ⟨p, hp, WideAt.sameKey_self (hl p hp)⟩)
    exact List.mem_map.2 ⟨_, nth_mem hj, hjk⟩
  classical
  have := nodup_le hn hk
  simpa [Maps.size] using this
theorem nil_fine : Fine (.map []) := ⟨[], rfl, List.Pairwise.nil, fun p hp => by cases hp⟩
theorem pl_nil : Pl (.map []) [] := ⟨fun j hj => absurd hj (Nat.not_lt_zero j), fun k hk => by simp [Maps.has] at hk⟩

/-- A key is asked for. -/
theorem Pl.ask {D : Dm} {es : List Ent} (h : Pl D es) (k : ByteArray) : (has D (kl k) = false ∧ ∀ i, i < es.length → (nth es i).key ≠ k) ∨ (has D (kl k) = true ∧ ∃ i, i < es.length ∧ (nth es i).key = k ∧ D.atKey (kl k) zeroD = numD i) := by
  cases hh : has D (kl k)
  · refine .inl ⟨rfl, fun i hi e => ?_⟩
    have := (h.1 i hi).1
    rw [e, hh] at this
    cases this
  · obtain ⟨i, hi, he⟩ := h.2 _ hh
    have e := kl_inj he
    subst e
    exact .inr ⟨rfl, i, hi, rfl, (h.1 i hi).2⟩
theorem perm_keys {es l : List Ent} (hp : es.Perm l) (hr : RowL l) : KeysE es := (hp.map Ent.key).nodup_iff.2 hr.2
theorem ask_miss {es l : List Ent} {k : ByteArray} (hp : es.Perm l) (h : ∀ i, i < es.length → (nth es i).key ≠ k) : hasL k l = false ∧ tickL k l = 0 ∧ dropL k l = l := by
  have hm : ∀ (i : Nat) x, l[i]? = some x → x.key ≠ k := fun i x hx => by
    obtain ⟨j, hj, rfl⟩ := mem_nth (hp.mem_iff.2 (List.mem_of_getElem? hx))
    exact h j hj
  obtain ⟨h1, h2, h3⟩ := drop_miss hm
  exact ⟨h2, h3, h1⟩
theorem ask_hit {es l : List Ent} {i : Nat} (hp : es.Perm l) (hr : RowL l) (hi : i < es.length) : hasL (nth es i).key l = true ∧ tickL (nth es i).key l = (nth es i).tick :=
  have hm := hp.mem_iff.1 (nth_mem hi)
  ⟨has_iff.2 ⟨_, hm, rfl⟩, tick_of hr.2 hm⟩
theorem drop_cons {x : Ent} : ∀ {l : List Ent}, (l.map Ent.key).Nodup → x ∈ l → (x :: dropL x.key l).Perm l
  | [], _, h => by cases h
  | y :: r, hn, h => by
    simp only [List.map_cons, List.nodup_cons, List.mem_map, not_exists, not_and] at hn
    unfold dropL
    by_cases e : y.key = x.key
    · rw [if_pos e]
      rcases List.mem_cons.1 h with rfl | h
      · exact List.Perm.refl _
      · exact absurd e.symm (hn.1 x h)
    · rw [if_neg e]
      rcases List.mem_cons.1 h with rfl | h
      · exact absurd rfl e
      · exact (List.Perm.swap y x _).trans ((drop_cons hn.2 h).cons y)
theorem ins_perm (x : Ent) : ∀ l : List Ent, (insL x l).Perm (x :: l)
  | [] => List.Perm.refl _
  | y :: r => by
    unfold insL
    cases beforeB y x
    · exact List.Perm.refl _
    · exact ((ins_perm x r).cons y).trans (List.Perm.swap x y r)
/-- One is taken away. -/
theorem drop_perm {es es' l : List Ent} {x : Ent} (hp : es.Perm l) (hr : RowL l) (hx : (x :: es').Perm es) : es'.Perm (dropL x.key l) := by
  have h1 := hx.trans hp
  have hm : x ∈ l := h1.mem_iff.1 List.mem_cons_self
  exact (h1.trans (drop_cons hr.2 hm).symm).cons_inv
theorem cut_perm {es : List Ent} {i : Nat} (hi : i < es.length) : (nth es i :: es.eraseIdx i).Perm es := by
  have h1 : es.take i ++ nth es i :: es.drop (i + 1) = es := by
    rw [← nth_get hi, ← List.drop_eq_getElem_cons hi]
    exact List.take_append_drop i es
  rw [List.eraseIdx_eq_take_drop_succ]
  generalize nth es i = z at *
  exact (List.perm_middle.symm).trans (List.Perm.of_eq h1)
theorem set_perm {es : List Ent} {i : Nat} (x : Ent) (hi : i < es.length) : (es.set i x).Perm (x :: es.eraseIdx i) := by
  have h := cut_perm (es := es.set i x) (i := i) (by simpa using hi)
  rw [nth_set x _ hi, if_pos rfl, List.eraseIdx_set_eq] at h
  exact h.symm
theorem take_last {es : List Ent} {n : Nat} (hn : es.length = n + 1) : es = es.take n ++ [nth es n] := by
  have h1 : es.take (n + 1) = es := by rw [← hn]; exact List.take_length
  rw [List.take_add_one, nth_some (by omega)] at h1
  exact h1.symm
theorem take_end {es : List Ent} {n : Nat} (hn : es.length = n + 1) : (nth es n :: es.take n).Perm es := by
  have h := take_last hn
  generalize nth es n = z at *
  generalize es.take n = t at *
  subst h
  exact (List.perm_append_singleton z t).symm
theorem take_mid {es : List Ent} {n i : Nat} (hn : es.length = n + 1) (hi : i < n) : (nth es i :: (es.take n).set i (nth es n)).Perm es := by
  have hl : (es.take n).length = n := by rw [List.length_take]; omega
  have h1 := set_perm (es := es.take n) (i := i) (nth es n) (by omega)
  have h2 := cut_perm (es := es.take n) (i := i) (by omega)
  rw [nth_take hi] at h2
  exact (h1.cons _).trans ((List.Perm.swap _ _ _).trans ((h2.cons _).trans (take_end hn)))
theorem wrong_mid {es : List Ent} {n i : Nat} (h : HeapE es) (hn : es.length = n + 1) (hi : i < n) : Wrong ((es.take n).set i (nth es n)) i := (h.take n).wrong (by rw [List.length_take]; omega) _
theorem pl_end {D : Dm} {es : List Ent} {n : Nat} (h : Pl D es) (hk : KeysE es) (hn : es.length = n + 1) : Pl (D.del (kl (nth es n).key)) (es.take n) := by
  have hl : (es.take n).length = n := by rw [List.length_take]; omega
  refine ⟨fun j hj => ?_, fun k hh => ?_⟩
  · rw [hl] at hj
    rw [nth_take hj]
    exact at_del_other (fun e => by have := hk.inj (by omega) (by omega) e; omega) (h.1 j (by omega))
  · by_cases e : k = kl (nth es n).key
    · subst e; rw [has_del_same] at hh; cases hh
    · rw [has_del_other e] at hh
      obtain ⟨j, hj, rfl⟩ := h.2 k hh
      by_cases hjn : j = n
      · subst hjn; exact absurd rfl e
      · exact ⟨j, by omega, by rw [nth_take (by omega)]⟩
theorem pl_mid {D : Dm} {es : List Ent} {n i : Nat} (h : Pl D es) (hD : IsMap D) (hk : KeysE es) (hn : es.length = n + 1) (hi : i < n) : PlH ((D.del (kl (nth es i).key)).put (kl (nth es n).key) (numD i)) ((es.take n).set i (nth es n)) i := by
  have hl : (es.take n).length = n := by rw [List.length_take]; omega
  have hil : i < (es.take n).length := by omega
  refine ⟨fun j hj hji => ?_, fun k hh => ?_⟩
  · rw [List.length_set, hl] at hj
    rw [nth_set _ _ hil, if_neg hji, nth_take hj]
    exact at_put_other (fun e => by have := hk.inj (by omega) (by omega) e; omega) (at_del_other (fun e => hji (hk.inj (by omega) (by omega) e)) (h.1 j (by omega)))
  · rw [List.length_set, hl]
    by_cases e : k = kl (nth es n).key
    · exact ⟨i, hi, by rw [nth_set _ _ hil, if_pos rfl]; exact e.symm⟩
    · rw [has_put_other e] at hh
      by_cases e2 : k = kl (nth es i).key
      · subst e2; rw [has_del_same] at hh; cases hh
      · rw [has_del_other e2] at hh
        obtain ⟨j, hj, rfl⟩ := h.2 k hh
        have h1 : j ≠ n := fun e' => e (by rw [e'])
        have h2 : j ≠ i := fun e' => e2 (by rw [e'])
        exact ⟨j, by omega, by rw [nth_set _ _ hil, if_neg h2, nth_take (by omega)]⟩
/-- One is put. -/
theorem put_old {es l : List Ent} {i : Nat} {x : Ent} (hp : es.Perm l) (hr : RowL l) (hi : i < es.length) (hx : (nth es i).key = x.key) : (es.set i x).Perm (putL x l) := by
  have h1 := drop_perm hp hr (cut_perm hi)
  rw [hx] at h1
  exact (set_perm x hi).trans ((h1.cons x).trans (ins_perm x _).symm)
theorem put_new {es l : List Ent} {x : Ent} (hp : es.Perm l) (hx : ∀ i, i < es.length → (nth es i).key ≠ x.key) : (es ++ [x]).Perm (putL x l) := by
  obtain ⟨_, _, h⟩ := ask_miss hp hx
  unfold putL
  rw [h]
  exact (List.perm_append_singleton x es).trans ((hp.cons x).trans (ins_perm x l).symm)
theorem plh_old {D : Dm} {es : List Ent} {i : Nat} {x : Ent} (h : Pl D es) (hi : i < es.length) (hx : (nth es i).key = x.key) : PlH D (es.set i x) i := by
  refine ⟨fun j hj hji => ?_, fun k hh => ?_⟩
  · rw [List.length_set] at hj
    rw [nth_set _ _ hi, if_neg hji]
    exact h.1 j hj
  · obtain ⟨j, hj, rfl⟩ := h.2 k hh
    refine ⟨j, by rw [List.length_set]; exact hj, ?_⟩
    rw [nth_set _ _ hi]
    by_cases e : j = i
    · subst e; rw [if_pos rfl, hx]
    · rw [if_neg e]
theorem plh_new {D : Dm} {es : List Ent} (x : Ent) (h : Pl D es) : PlH D (es ++ [x]) es.length := by
  refine ⟨fun j hj hji => ?_, fun k hh => ?_⟩
  · simp only [List.length_append, List.length_cons, List.length_nil] at hj
    rw [nth_left (by omega)]
    exact h.1 j (by omega)
  · obtain ⟨j, hj, rfl⟩ := h.2 k hh
    exact ⟨j, by simp; omega, by rw [nth_left hj]⟩
end Go.Proofs.Ytkbmkbmbkmeenaa
