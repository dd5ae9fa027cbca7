/-
  Marks: keys, and how they stand; tables of marks in their row: what is put, what is there, in whatever order. Plain facts.
-/
import Derived.Test.YtmialpaldkpmbaaRcG
namespace Go.Proofs.Ytmialpaldkpmbaa
set_option maxRecDepth 20000
set_option linter.unusedVariables false
set_option linter.unusedSimpArgs false

/-- A key. -/
structure Rk where
  room : ByteArray
  user : ByteArray
  thread : ByteArray
  priv : Bool
instance : DecidableEq Rk := fun a b => decidable_of_iff (a.room = b.room ∧ a.user = b.user ∧ a.thread = b.thread ∧ a.priv = b.priv) (by cases a; cases b; simp)
instance decPo : DecidableEq Po := fun a b => decidable_of_iff (a.depth = b.depth ∧ a.id = b.id) (by cases a; cases b; simp)
/-- A mark. -/
structure Mk where
  k : Rk
  po : Po
instance : DecidableEq Mk := fun a b => decidable_of_iff (a.k = b.k ∧ a.po = b.po) (by cases a; cases b; simp)
/-- Its texts are as long as a copy may be. -/
def Rk.ok (k : Rk) : Prop := k.room.size ≤ 281474976710656 ∧ k.user.size ≤ 281474976710656 ∧ k.thread.size ≤ 281474976710656
def Mk.ok (m : Mk) : Prop := m.k.ok ∧ m.po.id.size ≤ 281474976710656
def bltB (x y : ByteArray) : Bool := Op.bytesLess x.toList y.toList
theorem bltB_iff (x y : ByteArray) : bltB x y = true ↔ x.toList < y.toList := by simp [bltB, Proofs.bytesLess_eq]
theorem bl_irrefl (x : ByteArray) : ¬ x.toList < x.toList := List.lt_irrefl _
theorem bl_tri (x y : ByteArray) : x.toList < y.toList ∨ x = y ∨ y.toList < x.toList := by
  by_cases h : x.toList < y.toList
  · exact .inl h
  · by_cases h' : y.toList < x.toList
    · exact .inr (.inr h')
    · exact .inr (.inl (key_ext (List.le_antisymm (List.not_lt.1 h') (List.not_lt.1 h))))
/-- Does a key stand ahead? -/
def beforeK (a b : Rk) : Bool :=
  bif a.room.toList == b.room.toList then bif a.user.toList == b.user.toList then bif a.thread.toList == b.thread.toList then !a.priv && b.priv else bltB a.thread b.thread else bltB a.user b.user else bltB a.room b.room
theorem eqT_iff (x y : ByteArray) : (x.toList == y.toList) = decide (x = y) := by
  rw [Bool.eq_iff_iff, beq_iff_eq, decide_eq_true_eq]
  exact ⟨key_ext, fun h => by rw [h]⟩
theorem beforeK_iff (a b : Rk) : beforeK a b = true ↔ a.room.toList < b.room.toList ∨ (a.room = b.room ∧ (a.user.toList < b.user.toList ∨ (a.user = b.user ∧ (a.thread.toList < b.thread.toList ∨ (a.thread = b.thread ∧ a.priv = false ∧ b.priv = true))))) := by
  unfold beforeK
  rw [eqT_iff, eqT_iff, eqT_iff]
  by_cases h1 : a.room = b.room
  · rw [decide_eq_true h1, cond_true, h1]
    by_cases h2 : a.user = b.user
    · rw [decide_eq_true h2, cond_true, h2]
      by_cases h3 : a.thread = b.thread
      · rw [decide_eq_true h3, cond_true, h3]
        simp [List.lt_irrefl]
      · rw [decide_eq_false h3, cond_false, bltB_iff]
        simp [List.lt_irrefl, h3]
    · rw [decide_eq_false h2, cond_false, bltB_iff]
      simp [List.lt_irrefl, h2]
  · rw [decide_eq_false h1, cond_false, bltB_iff]
    simp [h1]
theorem bk_irrefl (a : Rk) : beforeK a a = false := by
  rw [Bool.eq_false_iff]
  intro h
  rw [beforeK_iff] at h
  simp [List.lt_irrefl] at h
theorem bk_trans {a b c : Rk} (h : beforeK a b = true) (k : beforeK b c = true) : beforeK a c = true := by
  rw [beforeK_iff] at *
  rcases h with h | ⟨h, h'⟩
  · rcases k with k | ⟨k, -⟩
    · exact .inl (List.lt_trans h k)
    · exact .inl (by rw [← k]; exact h)
  · rcases k with k | ⟨k, k'⟩
    · exact .inl (by rw [h]; exact k)
    · refine .inr ⟨h.trans k, ?_⟩
      rcases h' with h' | ⟨h', h2⟩
      · rcases k' with k' | ⟨k', -⟩
        · exact .inl (List.lt_trans h' k')
        · exact .inl (by rw [← k']; exact h')
      · rcases k' with k' | ⟨k', k2⟩
        · exact .inl (by rw [h']; exact k')
        · refine .inr ⟨h'.trans k', ?_⟩
          rcases h2 with h2 | ⟨h2, h3, h4⟩
          · rcases k2 with k2 | ⟨k2, -⟩
            · exact .inl (List.lt_trans h2 k2)
            · exact .inl (by rw [← k2]; exact h2)
          · rcases k2 with k2 | ⟨k2, k3, k4⟩
            · exact .inl (by rw [h2]; exact k2)
            · rw [h4] at k3; cases k3
theorem bk_total {a b : Rk} (h : a ≠ b) : beforeK a b = true ∨ beforeK b a = true := by
  rw [beforeK_iff, beforeK_iff]
  rcases bl_tri a.room b.room with h1 | h1 | h1
  · exact .inl (.inl h1)
  · rcases bl_tri a.user b.user with h2 | h2 | h2
    · exact .inl (.inr ⟨h1, .inl h2⟩)
    · rcases bl_tri a.thread b.thread with h3 | h3 | h3
      · exact .inl (.inr ⟨h1, .inr ⟨h2, .inl h3⟩⟩)
      · cases ha : a.priv
        · cases hb : b.priv
          · exact absurd (by cases a; cases b; simp_all) h
          · exact .inl (.inr ⟨h1, .inr ⟨h2, .inr ⟨h3, rfl, rfl⟩⟩⟩)
        · cases hb : b.priv
          · exact .inr (.inr ⟨h1.symm, .inr ⟨h2.symm, .inr ⟨h3.symm, rfl, rfl⟩⟩⟩)
          · exact absurd (by cases a; cases b; simp_all) h
      · exact .inr (.inr ⟨h1.symm, .inr ⟨h2.symm, .inl h3⟩⟩)
    · exact .inr (.inr ⟨h1.symm, .inl h2⟩)
  · exact .inr (.inl h1)
theorem bk_asym {a b : Rk} (h : beforeK a b = true) : beforeK b a = false := by
  rw [Bool.eq_false_iff]
  intro h'
  have := bk_trans h h'
  rw [bk_irrefl] at this
  cases this
theorem bk_ne {a b : Rk} (h : beforeK a b = true) : a ≠ b := fun e => by
  rw [e, bk_irrefl] at h
  cases h
/-- How keys stand. -/
def cmpK (a b : Rk) : Int := bif beforeK a b then -1 else bif beforeK b a then 1 else 0
theorem cmpK_lt (a b : Rk) : decide (cmpK a b < 0) = beforeK a b := by
  unfold cmpK
  cases h : beforeK a b
  · cases h' : beforeK b a <;> decide
  · rw [cond_true]; decide
theorem cmpK_gt (a b : Rk) : decide (0 < cmpK a b) = beforeK b a := by
  unfold cmpK
  cases h : beforeK a b
  · cases h' : beforeK b a <;> decide
  · rw [bk_asym h, cond_true]
    decide
theorem cmpK_zero (a b : Rk) : decide (cmpK a b = 0) = decide (a = b) := by
  unfold cmpK
  by_cases e : a = b
  · subst e
    rw [bk_irrefl]
    simp
  · rw [decide_eq_false e]
    rcases bk_total e with h | h
    · rw [h, cond_true]; decide
    · rw [bk_asym h, h, cond_false, cond_true]; decide
theorem cmpK_le {a b : Rk} : cmpK a b ≤ 0 ↔ beforeK b a = false := by
  have h := cmpK_gt a b
  rw [← h, decide_eq_false_iff_not]
  omega
theorem cmpK_bd (a b : Rk) : -1 ≤ cmpK a b ∧ cmpK a b ≤ 1 := by
  unfold cmpK
  cases beforeK a b <;> cases beforeK b a <;> decide
theorem le_transK {a b c : Rk} (h : cmpK a b ≤ 0) (k : cmpK b c ≤ 0) : cmpK a c ≤ 0 := by
  rw [cmpK_le] at *
  rw [Bool.eq_false_iff]
  intro hc
  by_cases e : a = b
  · subst e
    rw [hc] at k
    cases k
  · rcases bk_total e with h1 | h1
    · rw [bk_trans hc h1] at k
      cases k
    · rw [h] at h1
      cases h1
/-- What is not private stands ahead. -/
def rankI (p : Bool) : Int := bif p then 1 else 0
theorem cmpK_code (a b : Rk) : orI (Lib.compareBytes a.room.data.toList b.room.data.toList) (orI (Lib.compareBytes a.user.data.toList b.user.data.toList) (orI (Lib.compareBytes a.thread.data.toList b.thread.data.toList) (Lib.compareInt (rankI a.priv) (rankI b.priv)))) = cmpK a b := by
  have hc : ∀ x y : ByteArray, Lib.compareBytes x.data.toList y.data.toList = bif decide (x = y) then 0 else bif bltB x y then -1 else 1 := fun x y => by
    rw [cmpB_lt, ← ByteArray.toList_eq, ← ByteArray.toList_eq]
    show (bif bltB x y then (-1 : Int) else bif bltB y x then 1 else 0) = _
    rcases bl_tri x y with h | h | h
    · rw [(bltB_iff x y).2 h, decide_eq_false (fun e => bl_irrefl y (by rw [e] at h; exact h))]
      rfl
    · subst h
      rw [show bltB x x = false from by rw [Bool.eq_false_iff]; exact fun e => bl_irrefl x ((bltB_iff x x).1 e)]
      simp
    · have h1 : bltB x y = false := by
        rw [Bool.eq_false_iff]
        exact fun e => bl_irrefl x (List.lt_trans ((bltB_iff x y).1 e) h)
      rw [h1, (bltB_iff y x).2 h, decide_eq_false (fun e => bl_irrefl y (by rw [e] at h; exact h))]
      rfl
  have hb : ∀ {x y : ByteArray}, x ≠ y → bltB y x = !bltB x y := fun {x y} h => by
    rcases bl_tri x y with h1 | h1 | h1
    · rw [(bltB_iff x y).2 h1, Bool.not_true, Bool.eq_false_iff]
      exact fun e => bl_irrefl x (List.lt_trans h1 ((bltB_iff y x).1 e))
    · exact absurd h1 h
    · rw [(bltB_iff y x).2 h1, show bltB x y = false from by rw [Bool.eq_false_iff]; exact fun e => bl_irrefl x (List.lt_trans ((bltB_iff x y).1 e) h1)]
      rfl
  rw [hc, hc, hc]
  unfold cmpK beforeK
  rw [eqT_iff, eqT_iff, eqT_iff, eqT_iff, eqT_iff, eqT_iff]
  by_cases h1 : a.room = b.room
  · by_cases h2 : a.user = b.user
    · by_cases h3 : a.thread = b.thread
      · simp only [h1, h2, h3, decide_true, cond_true]
        cases a.priv <;> cases b.priv <;> rfl
      · have h3' : ¬ b.thread = a.thread := fun e => h3 e.symm
        simp only [h1, h2, h3, h3', decide_true, decide_false, cond_true, cond_false, hb h3]
        cases bltB a.thread b.thread <;> rfl
    · have h2' : ¬ b.user = a.user := fun e => h2 e.symm
      simp only [h1, h2, h2', decide_true, decide_false, cond_true, cond_false, hb h2]
      cases bltB a.user b.user <;> rfl
  · have h1' : ¬ b.room = a.room := fun e => h1 e.symm
    simp only [h1, h1', decide_false, cond_false, hb h1]
    cases bltB a.room b.room <;> rfl

/-! ### Tables -/
/-- In their row, each key once. -/
def RowM (l : List Mk) : Prop := l.Pairwise (fun x y => beforeK x.k y.k = true)
/-- A key's mark. -/
def getM (l : List Mk) (k : Rk) : Option Po := (l.find? (fun m => decide (m.k = k))).map Mk.po
def onM (l : List Mk) (x : Mk) : Bool := match getM l x.k with
  | none => true
  | some q => beforeP q x.po
def insM (x : Mk) : List Mk → List Mk
  | [] => [x]
  | y :: r => bif beforeK y.k x.k then y :: insM x r else x :: y :: r
def setM (x : Mk) (l : List Mk) : List Mk := l.map (fun m => if m.k = x.k then x else m)
/-- A mark is put. -/
def putM (l : List Mk) (x : Mk) : List Mk := match getM l x.k with
  | none => insM x l
  | some q => bif beforeP q x.po then setM x l else l
def foldM (l : List Mk) (ms : List Mk) : List Mk := ms.foldl putM l
/-- How many of them went on. -/
def cntM : List Mk → List Mk → Nat
  | _, [] => 0
  | l, x :: ms => (bif onM l x then 1 else 0) + cntM (putM l x) ms
def pubM (l : List Mk) : List Mk := l.filter (fun m => !m.k.priv)
theorem row_nilM : RowM [] := List.Pairwise.nil
theorem keys_oneM {l : List Mk} (h : RowM l) {a b : Mk} (ha : a ∈ l) (hb : b ∈ l) (he : a.k = b.k) : a = b := by
  rw [RowM, List.pairwise_iff_getElem] at h
  obtain ⟨i, hi, rfl⟩ := List.getElem_of_mem ha
  obtain ⟨j, hj, rfl⟩ := List.getElem_of_mem hb
  rcases Nat.lt_trichotomy i j with hl | hl | hl
  · exact absurd he (bk_ne (h i j hi hj hl))
  · subst hl; rfl
  · exact absurd he.symm (bk_ne (h j i hj hi hl))
theorem getM_none {l : List Mk} {k : Rk} : getM l k = none ↔ ∀ m ∈ l, m.k ≠ k := by
  unfold getM
  rw [Option.map_eq_none_iff, List.find?_eq_none]
  simp
theorem getM_mem {l : List Mk} {k : Rk} {p : Po} (h : getM l k = some p) : (⟨k, p⟩ : Mk) ∈ l := by
  unfold getM at h
  rw [Option.map_eq_some_iff] at h
  obtain ⟨m, hm, rfl⟩ := h
  have h1 := List.mem_of_find?_eq_some hm
  have h2 := List.find?_some hm
  simp only [decide_eq_true_eq] at h2
  subst h2
  exact h1
theorem getM_some {l : List Mk} (h : RowM l) {k : Rk} {p : Po} : getM l k = some p ↔ (⟨k, p⟩ : Mk) ∈ l := by
  refine ⟨getM_mem, fun hm => ?_⟩
  cases hg : getM l k with
  | none => exact absurd rfl (getM_none.1 hg _ hm)
  | some q =>
    have := keys_oneM h hm (getM_mem hg) rfl
    injection this with _ this
    rw [this]
theorem mem_insM {x y : Mk} : ∀ {l : List Mk}, y ∈ insM x l ↔ y = x ∨ y ∈ l
  | [] => by simp [insM]
  | z :: r => by
    unfold insM
    cases beforeK z.k x.k
    · simp
    · simp only [cond_true, List.mem_cons, mem_insM (l := r)]
      constructor
      · rintro (h | h | h)
        · exact .inr (.inl h)
        · exact .inl h
        · exact .inr (.inr h)
      · rintro (h | h | h)
        · exact .inr (.inl h)
        · exact .inl h
        · exact .inr (.inr h)
theorem ins_permM (x : Mk) : ∀ l : List Mk, (insM x l).Perm (x :: l)
  | [] => List.Perm.refl _
  | y :: r => by
    unfold insM
    cases beforeK y.k x.k
    · exact List.Perm.refl _
    · exact ((ins_permM x r).cons y).trans (List.Perm.swap x y r)
theorem row_insM {x : Mk} : ∀ {l : List Mk}, RowM l → (∀ y ∈ l, y.k ≠ x.k) → RowM (insM x l)
  | [], _, _ => by simp [insM, RowM]
  | z :: r, h, hk => by
    have hz := (List.pairwise_cons.1 h).1
    unfold insM
    cases hb : beforeK z.k x.k
    · rw [cond_false]
      have hx : beforeK x.k z.k = true := by
        rcases bk_total (a := x.k) (b := z.k) (fun e => hk z List.mem_cons_self e.symm) with h1 | h1
        · exact h1
        · rw [hb] at h1; cases h1
      refine List.pairwise_cons.2 ⟨fun y hy => ?_, h⟩
      rcases List.mem_cons.1 hy with rfl | hy
      · exact hx
      · exact bk_trans hx (hz y hy)
    · rw [cond_true]
      refine List.pairwise_cons.2 ⟨fun y hy => ?_, row_insM (List.pairwise_cons.1 h).2 (fun y hy => hk y (List.mem_cons_of_mem _ hy))⟩
      rcases mem_insM.1 hy with rfl | hy
      · exact hb
      · exact hz y hy
theorem setM_key (x m : Mk) : (if m.k = x.k then x else m).k = m.k := by
  split
  · rename_i h; exact h.symm
  · rfl
theorem row_setM {x : Mk} {l : List Mk} (h : RowM l) : RowM (setM x l) := by
  unfold RowM setM
  rw [List.pairwise_map]
  exact h.imp (fun hh => by rw [setM_key, setM_key]; exact hh)
theorem mem_setM {x y : Mk} {l : List Mk} : y ∈ setM x l ↔ (y = x ∧ ∃ m ∈ l, m.k = x.k) ∨ (y ∈ l ∧ y.k ≠ x.k) := by
  unfold setM
  rw [List.mem_map]
  constructor
  · rintro ⟨m, hm, rfl⟩
    by_cases hk : m.k = x.k
    · rw [if_pos hk]; exact .inl ⟨rfl, m, hm, hk⟩
    · rw [if_neg hk]; exact .inr ⟨hm, hk⟩
  · rintro (⟨rfl, m, hm, hk⟩ | ⟨hm, hk⟩)
    · exact ⟨m, hm, if_pos hk⟩
    · exact ⟨y, hm, if_neg hk⟩
theorem row_putM {x : Mk} {l : List Mk} (h : RowM l) : RowM (putM l x) := by
  unfold putM
  cases hg : getM l x.k with
  | none => exact row_insM h (getM_none.1 hg)
  | some q =>
    show RowM (bif beforeP q x.po then setM x l else l)
    cases beforeP q x.po
    · exact h
    · exact row_setM h
theorem putM_off {x : Mk} {l : List Mk} (h : onM l x = false) : putM l x = l := by
  unfold onM at h
  unfold putM
  cases hg : getM l x.k with
  | none => rw [hg] at h; cases h
  | some q =>
    rw [hg] at h
    simp only at h
    show (bif beforeP q x.po then setM x l else l) = l
    rw [h]
    rfl
theorem mem_putM {x y : Mk} {l : List Mk} (h : onM l x = true) : y ∈ putM l x ↔ y = x ∨ (y ∈ l ∧ y.k ≠ x.k) := by
  unfold onM at h
  unfold putM
  cases hg : getM l x.k with
  | none =>
    simp only
    rw [mem_insM]
    constructor
    · rintro (h | h)
      · exact .inl h
      · exact .inr ⟨h, getM_none.1 hg y h⟩
    · rintro (h | h)
      · exact .inl h
      · exact .inr h.1
  | some q =>
    rw [hg] at h
    simp only at h
    simp only [h, cond_true]
    rw [mem_setM]
    constructor
    · rintro (h | h)
      · exact .inl h.1
      · exact .inr h
    · rintro (h | h)
      · exact .inl ⟨h, _, getM_mem hg, rfl⟩
      · exact .inr h
theorem get_putM {x : Mk} {l : List Mk} (h : RowM l) (k : Rk) : getM (putM l x) k = if k = x.k then (if onM l x = true then some x.po else getM l k) else getM l k := by
  by_cases ho : onM l x = true
  · by_cases hk : k = x.k
    · rw [if_pos hk, if_pos ho, getM_some (row_putM h), mem_putM ho, hk]
      exact .inl rfl
    · rw [if_neg hk]
      apply Option.ext
      intro p
      rw [getM_some (row_putM h), mem_putM ho, getM_some h]
      constructor
      · rintro (h1 | h1)
        · exact absurd (by rw [← h1]) hk
        · exact h1.1
      · exact fun h1 => .inr ⟨h1, hk⟩
  · rw [if_neg ho, putM_off (Bool.eq_false_iff.2 ho)]
    split <;> rfl
/-- The same marks, in their row, are the same list. -/
theorem rowM_unique : ∀ {l l' : List Mk}, RowM l → RowM l' → (∀ x, x ∈ l ↔ x ∈ l') → l = l'
  | [], [], _, _, _ => rfl
  | [], y :: r, _, _, h => by have := (h y).2 List.mem_cons_self; cases this
  | x :: r, [], _, _, h => by have := (h x).1 List.mem_cons_self; cases this
  | x :: r, y :: r', h1, h2, h => by
    have a1 := List.pairwise_cons.1 h1
    have a2 := List.pairwise_cons.1 h2
    have hno : ∀ {u v : Mk}, beforeK u.k v.k = true → beforeK v.k u.k = true → False := fun hu hv => by
      rw [bk_asym hu] at hv
      cases hv
    have e : x = y := by
      rcases List.mem_cons.1 ((h x).1 List.mem_cons_self) with e | hx
      · exact e
      · rcases List.mem_cons.1 ((h y).2 List.mem_cons_self) with e | hy
        · exact e.symm
        · exact (hno (a1.1 y hy) (a2.1 x hx)).elim
    subst e
    congr 1
    refine rowM_unique a1.2 a2.2 (fun z => ?_)
    constructor
    · intro hz
      rcases List.mem_cons.1 ((h z).1 (List.mem_cons_of_mem _ hz)) with rfl | hz'
      · exact (hno (a1.1 z hz) (a1.1 z hz)).elim
      · exact hz'
    · intro hz
      rcases List.mem_cons.1 ((h z).2 (List.mem_cons_of_mem _ hz)) with rfl | hz'
      · exact (hno (a2.1 z hz) (a2.1 z hz)).elim
      · exact hz'
theorem rowM_ext {l l' : List Mk} (h : RowM l) (h' : RowM l') (hg : ∀ k, getM l k = getM l' k) : l = l' :=
  rowM_unique h h' (fun x => by
    obtain ⟨k, p⟩ := x
    rw [← getM_some h, ← getM_some h', hg k])
theorem put_lenM (l : List Mk) (x : Mk) : (putM l x).length = l.length + (if getM l x.k = none then 1 else 0) := by
  unfold putM
  cases hg : getM l x.k with
  | none => simp [(ins_permM x l).length_eq]
  | some q =>
    show (bif beforeP q x.po then setM x l else l).length = _
    cases beforeP q x.po <;> simp [setM]
theorem put_leM (l : List Mk) (x : Mk) : (putM l x).length ≤ l.length + 1 := by
  rw [put_lenM]
  split <;> omega
theorem fold_leM : ∀ (ms l : List Mk), (foldM l ms).length ≤ l.length + ms.length
  | [], l => Nat.le_refl _
  | x :: ms, l => by
    have h1 := fold_leM ms (putM l x)
    have h2 := put_leM l x
    rw [List.length_cons]
    show (foldM (putM l x) ms).length ≤ _
    omega
theorem fold_snocM (l ms : List Mk) (x : Mk) : foldM l (ms ++ [x]) = putM (foldM l ms) x := by simp [foldM]
theorem row_foldM : ∀ {ms l : List Mk}, RowM l → RowM (foldM l ms)
  | [], _, h => h
  | x :: ms, l, h => row_foldM (ms := ms) (row_putM h)
theorem cnt_snocM : ∀ (ms l : List Mk) (x : Mk), cntM l (ms ++ [x]) = cntM l ms + (bif onM (foldM l ms) x then 1 else 0)
  | [], l, x => by simp [cntM, foldM]
  | y :: ms, l, x => by
    rw [List.cons_append]
    unfold cntM
    rw [cnt_snocM ms (putM l y) x, Nat.add_assoc]
    rfl
theorem cnt_leM : ∀ (ms l : List Mk), cntM l ms ≤ ms.length
  | [], l => Nat.le_refl _
  | x :: ms, l => by
    unfold cntM
    have := cnt_leM ms (putM l x)
    rw [List.length_cons]
    cases onM l x <;> simp <;> omega
/-- Whatever all marks of a list say goes for those of the table. -/
theorem put_allM {P : Mk → Prop} {l : List Mk} {x : Mk} (h : ∀ m ∈ l, P m) (hx : P x) : ∀ m ∈ putM l x, P m := by
  intro m hm
  by_cases ho : onM l x = true
  · rcases (mem_putM ho).1 hm with rfl | h1
    · exact hx
    · exact h m h1.1
  · rw [putM_off (Bool.eq_false_iff.2 ho)] at hm
    exact h m hm
theorem fold_allM {P : Mk → Prop} : ∀ {ms l : List Mk}, (∀ m ∈ l, P m) → (∀ m ∈ ms, P m) → ∀ m ∈ foldM l ms, P m
  | [], _, h, _ => h
  | x :: ms, l, h, hm => fold_allM (ms := ms) (put_allM h (hm x List.mem_cons_self)) (fun m hh => hm m (List.mem_cons_of_mem _ hh))
/-- How a mark that goes on turns the list: it is there, and those of other keys. -/
theorem put_permM {x : Mk} {l : List Mk} (h : RowM l) (ho : onM l x = true) : (putM l x).Perm (x :: l.filter (fun m => !decide (m.k = x.k))) := by
  have hf : RowM (l.filter (fun m => !decide (m.k = x.k))) := List.Pairwise.sublist List.filter_sublist h
  have hne : ∀ y ∈ l.filter (fun m => !decide (m.k = x.k)), y.k ≠ x.k := fun y hy => by
    have := (List.mem_filter.1 hy).2
    simpa using this
  have : putM l x = insM x (l.filter (fun m => !decide (m.k = x.k))) := rowM_unique (row_putM h) (row_insM hf hne) (fun y => by
    rw [mem_putM ho, mem_insM, List.mem_filter]
    simp)
  rw [this]
  exact ins_permM x _

/-! ### In whatever order -/
/-- A table tells the greatest mark of each key, of those in S. -/
structure Best (f : Rk → Option Po) (S : Mk → Prop) : Prop where
  none : ∀ k, f k = none → ∀ m, S m → m.k ≠ k
  some : ∀ k p, f k = some p → S ⟨k, p⟩ ∧ ∀ m, S m → m.k = k → beforeP p m.po = false
theorem best_unique {f f' : Rk → Option Po} {S S' : Mk → Prop} (h : Best f S) (h' : Best f' S') (hs : ∀ m, S m ↔ S' m) : ∀ k, f k = f' k := by
  intro k
  cases e : f k with
  | none =>
    cases e' : f' k with
    | none => rfl
    | some p' => exact absurd rfl (h.none k e _ ((hs _).2 (h'.some k p' e').1))
  | some p =>
    cases e' : f' k with
    | none => exact absurd rfl (h'.none k e' _ ((hs _).1 (h.some k p e).1))
    | some p' =>
      by_cases hp : p = p'
      · rw [hp]
      · rcases pos_total hp with hb | hb
        · rw [(h.some k p e).2 ⟨k, p'⟩ ((hs _).2 (h'.some k p' e').1) rfl] at hb
          cases hb
        · rw [(h'.some k p' e').2 ⟨k, p⟩ ((hs _).1 (h.some k p e).1) rfl] at hb
          cases hb
theorem best_put {l : List Mk} {x : Mk} {S : Mk → Prop} (hr : RowM l) (h : Best (getM l) S) : Best (getM (putM l x)) (fun m => S m ∨ m = x) := by
  refine ⟨fun k hk m hm => ?_, fun k p hk => ?_⟩
  · rw [get_putM hr] at hk
    by_cases e : k = x.k
    · rw [if_pos e] at hk
      by_cases ho : onM l x = true
      · rw [if_pos ho] at hk; cases hk
      · rw [if_neg ho] at hk
        exfalso
        apply ho
        unfold onM
        rw [← e, hk]
    · rw [if_neg e] at hk
      rcases hm with hm | rfl
      · exact h.none k hk m hm
      · exact fun e' => e e'.symm
  · rw [get_putM hr] at hk
    by_cases e : k = x.k
    · rw [if_pos e] at hk
      by_cases ho : onM l x = true
      · rw [if_pos ho] at hk
        injection hk with hk
        subst hk e
        refine ⟨.inr rfl, fun m hm hmk => ?_⟩
        rcases hm with hm | rfl
        · unfold onM at ho
          cases hg : getM l x.k with
          | none => exact absurd hmk (h.none _ hg m hm)
          | some q =>
            rw [hg] at ho
            simp only at ho
            have h1 := (h.some _ q hg).2 m hm hmk
            rw [Bool.eq_false_iff]
            intro hc
            rw [pos_trans ho hc] at h1
            cases h1
        · exact pos_irrefl _
      · rw [if_neg ho] at hk
        refine ⟨.inl (h.some k p hk).1, fun m hm hmk => ?_⟩
        rcases hm with hm | rfl
        · exact (h.some k p hk).2 m hm hmk
        · unfold onM at ho
          rw [← e, hk] at ho
          exact Bool.eq_false_iff.2 ho
    · rw [if_neg e] at hk
      refine ⟨.inl (h.some k p hk).1, fun m hm hmk => ?_⟩
      rcases hm with hm | rfl
      · exact (h.some k p hk).2 m hm hmk
      · exact absurd hmk.symm e
theorem best_same {f : Rk → Option Po} {S S' : Mk → Prop} (h : Best f S) (hs : ∀ m, S m ↔ S' m) : Best f S' :=
  ⟨fun k hk m hm => h.none k hk m ((hs m).2 hm), fun k p hk => ⟨(hs _).1 (h.some k p hk).1, fun m hm => (h.some k p hk).2 m ((hs m).2 hm)⟩⟩
theorem best_fold : ∀ {ms l : List Mk} {S : Mk → Prop}, RowM l → Best (getM l) S → Best (getM (foldM l ms)) (fun m => S m ∨ m ∈ ms)
  | [], l, S, hr, h => best_same h (fun m => by simp)
  | x :: ms, l, S, hr, h => best_same (best_fold (ms := ms) (row_putM hr) (best_put hr h)) (fun m => by
    rw [List.mem_cons, or_assoc])
theorem best_nil : Best (getM []) (fun _ => False) := ⟨fun k _ m hm => hm.elim, fun k p hk => (by cases hk)⟩
theorem best_self {l : List Mk} (h : RowM l) : Best (getM l) (· ∈ l) :=
  ⟨fun k hk m hm => getM_none.1 hk m hm, fun k p hk => ⟨getM_mem hk, fun m hm hmk => by
    have := keys_oneM h hm (getM_mem hk) hmk
    rw [this]
    exact pos_irrefl _⟩⟩
/-- In whatever row marks are put, and however often. -/
theorem order_sameM {ms ms' : List Mk} (h : ∀ m, m ∈ ms ↔ m ∈ ms') : foldM [] ms = foldM [] ms' :=
  rowM_ext (row_foldM row_nilM) (row_foldM row_nilM) (best_unique (best_fold row_nilM best_nil) (best_fold row_nilM best_nil) (fun m => by rw [h m]))
/-- Two tables put together, whichever is put into which. -/
theorem merge_sameM {x y : List Mk} (hx : RowM x) (hy : RowM y) : foldM y (foldM x y) = foldM x y := by
  have hw := row_foldM (ms := y) hx
  have hb := best_fold (ms := y) hx (best_self hx)
  refine rowM_ext (row_foldM hy) hw (best_unique (best_fold hy (best_self hy)) (S' := fun m => m ∈ y ∨ m ∈ foldM x y) ?_ (fun m => Iff.rfl))
  have hin : ∀ m, m ∈ foldM x y → m ∈ x ∨ m ∈ y := fun m hm => by
    obtain ⟨k, p⟩ := m
    exact (hb.some k p ((getM_some hw).2 hm)).1
  refine ⟨fun k hk m hm => hb.none k hk m ?_, fun k p hk => ⟨.inr (getM_mem hk), fun m hm hmk => (hb.some k p hk).2 m ?_ hmk⟩⟩
  · rcases hm with hm | hm
    · exact .inr hm
    · exact hin m hm
  · rcases hm with hm | hm
    · exact .inr hm
    · exact hin m hm
/-- A second time none goes on. -/
theorem again_sameM : ∀ {ms l : List Mk}, (∀ m ∈ ms, onM l m = false) → foldM l ms = l ∧ cntM l ms = 0
  | [], l, _ => ⟨rfl, rfl⟩
  | x :: ms, l, h => by
    have h0 := h x List.mem_cons_self
    have h1 := again_sameM (ms := ms) (l := l) (fun m hm => h m (List.mem_cons_of_mem _ hm))
    refine ⟨?_, ?_⟩
    · show foldM (putM l x) ms = l
      rw [putM_off h0]
      exact h1.1
    · unfold cntM
      rw [putM_off h0, h0, h1.2]
      rfl
theorem again_mergeM {x y : List Mk} (hx : RowM x) : foldM (foldM x y) y = foldM x y ∧ cntM (foldM x y) y = 0 := by
  have hb := best_fold (ms := y) hx (best_self hx)
  refine again_sameM (fun m hm => ?_)
  unfold onM
  cases hg : getM (foldM x y) m.k with
  | none => exact absurd rfl (hb.none _ hg m (.inr hm))
  | some q => exact (hb.some _ q hg).2 m (.inr hm) rfl
theorem pub_rowM {l : List Mk} (h : RowM l) : RowM (pubM l) := List.Pairwise.sublist List.filter_sublist h
end Go.Proofs.Ytmialpaldkpmbaa
