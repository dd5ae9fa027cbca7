/-
  What the statements stand on, part ZA13.
-/
import Derived.Test.YtnnapkakbdpkaaaGreatZA12
set_option linter.unusedVariables false
set_option linter.unusedSimpArgs false
namespace Go.Proofs.YtnnapkakbdpkaaaGreat
set_option maxRecDepth 20000
structure Rk where
 room : ByteArray
 user : ByteArray
 thread : ByteArray
 priv : Bool
instance : DecidableEq Rk := fun a b => decidable_of_iff (a.room = b.room ∧ a.user = b.user ∧ a.thread = b.thread ∧ a.priv = b.priv) (by cases a; cases b; simp)
instance decPo : DecidableEq Po := fun a b => decidable_of_iff (a.depth = b.depth ∧ a.id = b.id) (by cases a; cases b; simp)
structure Mk where
 k : Rk
 po : Po
instance : DecidableEq Mk := fun a b => decidable_of_iff (a.k = b.k ∧ a.po = b.po) (by cases a; cases b; simp)
def Rk.ok (k : Rk) : Prop := k.room.size ≤ 281474976710656 ∧ k.user.size ≤ 281474976710656 ∧ k.thread.size ≤ 281474976710656
def Mk.ok (m : Mk) : Prop := m.k.ok ∧ m.po.id.size ≤ 281474976710656
def bltB (x y : ByteArray) : Bool := Op.bytesLess x.toList y.toList
theorem bltB_iff (x y : ByteArray) : bltB x y = true ↔ x.toList < y.toList := by simp [bltB, Proofs.bytesLess_eq]
theorem bl_irrefl (x : ByteArray) : ¬ x.toList < x.toList := List.lt_irrefl _
theorem bl_tri (x y : ByteArray) : x.toList < y.toList ∨ x = y ∨ y.toList < x.toList := by
 by_cases h : x.toList < y.toList
 ·exact .inl h
 ·by_cases h' : y.toList < x.toList
  ·exact .inr (.inr h')
  ·exact .inr (.inl (key_ext (List.le_antisymm (List.not_lt.1 h') (List.not_lt.1 h))))
def beforeK (a b : Rk) : Bool :=
 bif a.room.toList == b.room.toList then bif a.user.toList == b.user.toList then bif a.thread.toList == b.thread.toList then !a.priv && b.priv else bltB a.thread b.thread else bltB a.user b.user else bltB a.room b.room
theorem eqT_iff (x y : ByteArray) : (x.toList == y.toList) = decide (x = y) := by
 rw [Bool.eq_iff_iff, beq_iff_eq, decide_eq_true_eq]
 exact ⟨key_ext, fun h => by rw [h]⟩
theorem beforeK_iff (a b : Rk) : beforeK a b = true ↔ a.room.toList < b.room.toList ∨ (a.room = b.room ∧ (a.user.toList < b.user.toList ∨ (a.user = b.user ∧ (a.thread.toList < b.thread.toList ∨ (a.thread = b.thread ∧ a.priv = false ∧ b.priv = true))))) := by
 unfold beforeK
 rw [eqT_iff, eqT_iff, eqT_iff]
 by_cases h1 : a.room = b.room
 ·rw [decide_eq_true h1, cond_true, h1]
  by_cases h2 : a.user = b.user
  ·rw [decide_eq_true h2, cond_true, h2]
   by_cases h3 : a.thread = b.thread
   ·rw [decide_eq_true h3, cond_true, h3]
    simp [List.lt_irrefl]
   ·rw [decide_eq_false h3, cond_false, bltB_iff]
    simp [List.lt_irrefl, h3]
  ·rw [decide_eq_false h2, cond_false, bltB_iff]
   simp [List.lt_irrefl, h2]
 ·rw [decide_eq_false h1, cond_false, bltB_iff]
  simp [h1]
theorem bk_irrefl (a : Rk) : beforeK a a = false := by
 rw [Bool.eq_false_iff]
 intro h
 rw [beforeK_iff] at h
 simp [List.lt_irrefl] at h
theorem bk_trans {a b c : Rk} (h : beforeK a b = true) (k : beforeK b c = true) : beforeK a c = true := by
 rw [beforeK_iff] at *
 rcases h with h | ⟨h, h'⟩
 ·rcases k with k | ⟨k, -⟩
  ·exact .inl (List.lt_trans h k)
  ·exact .inl (by rw [← k]; exact h)
 ·rcases k with k | ⟨k, k'⟩
  ·exact .inl (by rw [h]; exact k)
  ·refine .inr ⟨h.trans k, ?_⟩
   rcases h' with h' | ⟨h', h2⟩
   ·rcases k' with k' | ⟨k', -⟩
    ·exact .inl (List.lt_trans h' k')
    ·exact .inl (by rw [← k']; exact h')
   ·rcases k' with k' | ⟨k', k2⟩
    ·exact .inl (by rw [h']; exact k')
    ·refine .inr ⟨h'.trans k', ?_⟩
     rcases h2 with h2 | ⟨h2, h3, h4⟩
     ·rcases k2 with k2 | ⟨k2, -⟩
      ·exact .inl (List.lt_trans h2 k2)
      ·exact .inl (by rw [← k2]; exact h2)
     ·rcases k2 with k2 | ⟨k2, k3, k4⟩
      ·exact .inl (by rw [h2]; exact k2)
      ·rw [h4] at k3; cases k3
theorem bk_total {a b : Rk} (h : a ≠ b) : beforeK a b = true ∨ beforeK b a = true := by
 rw [beforeK_iff, beforeK_iff]
 rcases bl_tri a.room b.room with h1 | h1 | h1
 ·exact .inl (.inl h1)
 ·rcases bl_tri a.user b.user with h2 | h2 | h2
  ·exact .inl (.inr ⟨h1, .inl h2⟩)
  ·rcases bl_tri a.thread b.thread with h3 | h3 | h3
   ·exact .inl (.inr ⟨h1, .inr ⟨h2, .inl h3⟩⟩)
   ·cases ha : a.priv
    ·cases hb : b.priv
     ·exact absurd (by cases a; cases b; simp_all) h
     ·exact .inl (.inr ⟨h1, .inr ⟨h2, .inr ⟨h3, rfl, rfl⟩⟩⟩)
    ·cases hb : b.priv
     ·exact .inr (.inr ⟨h1.symm, .inr ⟨h2.symm, .inr ⟨h3.symm, rfl, rfl⟩⟩⟩)
     ·exact absurd (by cases a; cases b; simp_all) h
   ·exact .inr (.inr ⟨h1.symm, .inr ⟨h2.symm, .inl h3⟩⟩)
  ·exact .inr (.inr ⟨h1.symm, .inl h2⟩)
 ·exact .inr (.inl h1)
theorem bk_asym {a b : Rk} (h : beforeK a b = true) : beforeK b a = false := by
 rw [Bool.eq_false_iff]
 intro h'
 have := bk_trans h h'
 rw [bk_irrefl] at this
 cases this
theorem bk_ne {a b : Rk} (h : beforeK a b = true) : a ≠ b := fun e => by
 rw [e, bk_irrefl] at h
 cases h
def cmpK (a b : Rk) : Int := bif beforeK a b then -1 else bif beforeK b a then 1 else 0
theorem cmpK_lt (a b : Rk) : decide (cmpK a b < 0) = beforeK a b := by
 unfold cmpK
 cases h : beforeK a b
 ·cases h' : beforeK b a <;> decide
 ·rw [cond_true]; decide
theorem cmpK_gt (a b : Rk) : decide (0 < cmpK a b) = beforeK b a := by
 unfold cmpK
 cases h : beforeK a b
 ·cases h' : beforeK b a <;> decide
 ·rw [bk_asym h, cond_true]
  decide
theorem cmpK_le {a b : Rk} : cmpK a b ≤ 0 ↔ beforeK b a = false := by
 have h := cmpK_gt a b
 rw [← h, decide_eq_false_iff_not]
 omega
theorem le_transK {a b c : Rk} (h : cmpK a b ≤ 0) (k : cmpK b c ≤ 0) : cmpK a c ≤ 0 := by
 rw [cmpK_le] at *
 rw [Bool.eq_false_iff]
 intro hc
 by_cases e : a = b
 ·subst e
  rw [hc] at k
  cases k
 ·rcases bk_total e with h1 | h1
  ·rw [bk_trans hc h1] at k
   cases k
  ·rw [h] at h1
   cases h1
def rankI (p : Bool) : Int := bif p then 1 else 0
theorem cmpK_code (a b : Rk) : orI (Lib.compareBytes a.room.data.toList b.room.data.toList) (orI (Lib.compareBytes a.user.data.toList b.user.data.toList) (orI (Lib.compareBytes a.thread.data.toList b.thread.data.toList) (Lib.compareInt (rankI a.priv) (rankI b.priv)))) = cmpK a b := by
 have hc : ∀ x y : ByteArray, Lib.compareBytes x.data.toList y.data.toList = bif decide (x = y) then 0 else bif bltB x y then -1 else 1 := fun x y => by
  rw [cmpB_lt, ← ByteArray.toList_eq, ← ByteArray.toList_eq]
  show (bif bltB x y then (-1 : Int) else bif bltB y x then 1 else 0) = _
  rcases bl_tri x y with h | h | h
  ·rw [(bltB_iff x y).2 h, decide_eq_false (fun e => bl_irrefl y (by rw [e] at h; exact h))]
   rfl
  ·subst h
   rw [show bltB x x = false from by rw [Bool.eq_false_iff]; exact fun e => bl_irrefl x ((bltB_iff x x).1 e)]
   simp
  ·have h1 : bltB x y = false := by
    rw [Bool.eq_false_iff]
    exact fun e => bl_irrefl x (List.lt_trans ((bltB_iff x y).1 e) h)
   rw [h1, (bltB_iff y x).2 h, decide_eq_false (fun e => bl_irrefl y (by rw [e] at h; exact h))]
   rfl
 have hb : ∀ {x y : ByteArray}, x ≠ y → bltB y x = !bltB x y := fun {x y} h => by
  rcases bl_tri x y with h1 | h1 | h1
  ·rw [(bltB_iff x y).2 h1, Bool.not_true, Bool.eq_false_iff]
   exact fun e => bl_irrefl x (List.lt_trans h1 ((bltB_iff y x).1 e))
  ·exact absurd h1 h
  ·rw [(bltB_iff y x).2 h1, show bltB x y = false from by rw [Bool.eq_false_iff]; exact fun e => bl_irrefl x (List.lt_trans ((bltB_iff x y).1 e) h1)]
   rfl
 rw [hc, hc, hc]
 unfold cmpK beforeK
 rw [eqT_iff, eqT_iff, eqT_iff, eqT_iff, eqT_iff, eqT_iff]
 by_cases h1 : a.room = b.room
 ·by_cases h2 : a.user = b.user
  ·by_cases h3 : a.thread = b.thread
   ·simp only [h1, h2, h3, decide_true, cond_true]
    cases a.priv <;> cases b.priv <;> rfl
   ·have h3' : ¬ b.thread = a.thread := fun e => h3 e.symm
    simp only [h1, h2, h3, h3', decide_true, decide_false, cond_true, cond_false, hb h3]
    cases bltB a.thread b.thread <;> rfl
  ·have h2' : ¬ b.user = a.user := fun e => h2 e.symm
   simp only [h1, h2, h2', decide_true, decide_false, cond_true, cond_false, hb h2]
   cases bltB a.user b.user <;> rfl
 ·have h1' : ¬ b.room = a.room := fun e => h1 e.symm
  simp only [h1, h1', decide_false, cond_false, hb h1]
  cases bltB a.room b.room <;> rfl
def RowM (l : List Mk) : Prop := l.Pairwise (fun x y => beforeK x.k y.k = true)
def getM (l : List Mk) (k : Rk) : Option Po := (l.find? (fun m => decide (m.k = k))).map Mk.po
def onM (l : List Mk) (x : Mk) : Bool := match getM l x.k with
 | none => true
 | some q => beforeP q x.po
def insM (x : Mk) : List Mk → List Mk
 | [] => [x]
 | y :: r => bif beforeK y.k x.k then y :: insM x r else x :: y :: r
def setM (x : Mk) (l : List Mk) : List Mk := l.map (fun m => if m.k = x.k then x else m)
def putM (l : List Mk) (x : Mk) : List Mk := match getM l x.k with
 | none => insM x l
 | some q => bif beforeP q x.po then setM x l else l
def foldM (l : List Mk) (ms : List Mk) : List Mk := ms.foldl putM l
theorem row_nilM : RowM [] := List.Pairwise.nil
theorem keys_oneM {l : List Mk} (h : RowM l) {a b : Mk} (ha : a ∈ l) (hb : b ∈ l) (he : a.k = b.k) : a = b := by
 rw [RowM, List.pairwise_iff_getElem] at h
 obtain ⟨i, hi, rfl⟩ := List.getElem_of_mem ha
 obtain ⟨j, hj, rfl⟩ := List.getElem_of_mem hb
 rcases Nat.lt_trichotomy i j with hl | hl | hl
 ·exact absurd he (bk_ne (h i j hi hj hl))
 ·subst hl; rfl
 ·exact absurd he.symm (bk_ne (h j i hj hi hl))
theorem getM_none {l : List Mk} {k : Rk} : getM l k = none ↔ ∀ m ∈ l, m.k ≠ k := by
 unfold getM
 rw [Option.map_eq_none_iff, List.find?_eq_none]
 simp
theorem getM_mem {l : List Mk} {k : Rk} {p : Po} (h : getM l k = some p) : (⟨k, p⟩ : Mk) ∈ l := by
 unfold getM at h
 rw [Option.map_eq_some_iff] at h
 obtain ⟨m, hm, rfl⟩ := h
 have h1 := List.mem_of_find?_eq_some hm
 have h2 := List.find?_some hm
 simp only [decide_eq_true_eq] at h2
 subst h2
 exact h1
theorem getM_some {l : List Mk} (h : RowM l) {k : Rk} {p : Po} : getM l k = some p ↔ (⟨k, p⟩ : Mk) ∈ l := by
 refine ⟨getM_mem, fun hm => ?_⟩
 cases hg : getM l k with
 | none => exact absurd rfl (getM_none.1 hg _ hm)
 | some q =>
  have := keys_oneM h hm (getM_mem hg) rfl
  injection this with _ this
  rw [this]
theorem mem_insM {x y : Mk} : ∀ {l : List Mk}, y ∈ insM x l ↔ y = x ∨ y ∈ l
 | [] => by simp [insM]
 | z :: r => by
  unfold insM
  cases beforeK z.k x.k
  ·simp
  ·simp only [cond_true, List.mem_cons, mem_insM (l := r)]
   constructor
   ·rintro (h | h | h)
    ·exact .inr (.inl h)
    ·exact .inl h
    ·exact .inr (.inr h)
   ·rintro (h | h | h)
    ·exact .inr (.inl h)
    ·exact .inl h
    ·exact .inr (.inr h)
theorem ins_permM (x : Mk) : ∀ l : List Mk, (insM x l).Perm (x :: l)
 | [] => List.Perm.refl _
 | y :: r => by
  unfold insM
  cases beforeK y.k x.k
  ·exact List.Perm.refl _
  ·exact ((ins_permM x r).cons y).trans (List.Perm.swap x y r)
theorem row_insM {x : Mk} : ∀ {l : List Mk}, RowM l → (∀ y ∈ l, y.k ≠ x.k) → RowM (insM x l)
 | [], _, _ => by simp [insM, RowM]
 | z :: r, h, hk => by
  have hz := (List.pairwise_cons.1 h).1
  unfold insM
  cases hb : beforeK z.k x.k
  ·rw [cond_false]
   have hx : beforeK x.k z.k = true := by
    rcases bk_total (a := x.k) (b := z.k) (fun e => hk z List.mem_cons_self e.symm) with h1 | h1
    ·exact h1
    ·rw [hb] at h1; cases h1
   refine List.pairwise_cons.2 ⟨fun y hy => ?_, h⟩
   rcases List.mem_cons.1 hy with rfl | hy
   ·exact hx
   ·exact bk_trans hx (hz y hy)
  ·rw [cond_true]
   refine List.pairwise_cons.2 ⟨fun y hy => ?_, row_insM (List.pairwise_cons.1 h).2 (fun y hy => hk y (List.mem_cons_of_mem _ hy))⟩
   rcases mem_insM.1 hy with rfl | hy
   ·exact hb
   ·exact hz y hy
theorem setM_key (x m : Mk) : (if m.k = x.k then x else m).k = m.k := by
 split
 ·rename_i h; exact h.symm
 ·rfl
theorem row_setM {x : Mk} {l : List Mk} (h : RowM l) : RowM (setM x l) := by
 unfold RowM setM
 rw [List.pairwise_map]
 exact h.imp (fun hh => by rw [setM_key, setM_key]; exact hh)
theorem mem_setM {x y : Mk} {l : List Mk} : y ∈ setM x l ↔ (y = x ∧ ∃ m ∈ l, m.k = x.k) ∨ (y ∈ l ∧ y.k ≠ x.k) := by
 unfold setM
 rw [List.mem_map]
 constructor
 ·rintro ⟨m, hm, rfl⟩
  by_cases hk : m.k = x.k
  ·rw [if_pos hk]; exact .inl ⟨rfl, m, hm, hk⟩
  ·rw [if_neg hk]; exact .inr ⟨hm, hk⟩
 ·rintro (⟨rfl, m, hm, hk⟩ | ⟨hm, hk⟩)
  ·exact ⟨m, hm, if_pos hk⟩
  ·exact ⟨y, hm, if_neg hk⟩
theorem row_putM {x : Mk} {l : List Mk} (h : RowM l) : RowM (putM l x) := by
 unfold putM
 cases hg : getM l x.k with
 | none => exact row_insM h (getM_none.1 hg)
 | some q =>
  show RowM (bif beforeP q x.po then setM x l else l)
  cases beforeP q x.po
  ·exact h
  ·exact row_setM h
theorem putM_off {x : Mk} {l : List Mk} (h : onM l x = false) : putM l x = l := by
 unfold onM at h
 unfold putM
 cases hg : getM l x.k with
 | none => rw [hg] at h; cases h
 | some q =>
  rw [hg] at h
  simp only at h
  show (bif beforeP q x.po then setM x l else l) = l
  rw [h]
  rfl
theorem mem_putM {x y : Mk} {l : List Mk} (h : onM l x = true) : y ∈ putM l x ↔ y = x ∨ (y ∈ l ∧ y.k ≠ x.k) := by
 unfold onM at h
 unfold putM
 cases hg : getM l x.k with
 | none =>
  simp only
  rw [mem_insM]
  constructor
  ·rintro (h | h)
   ·exact .inl h
   ·exact .inr ⟨h, getM_none.1 hg y h⟩
  ·rintro (h | h)
   ·exact .inl h
   ·exact .inr h.1
 | some q =>
  rw [hg] at h
  simp only at h
  simp only [h, cond_true]
  rw [mem_setM]
  constructor
  ·rintro (h | h)
   ·exact .inl h.1
   ·exact .inr h
  ·rintro (h | h)
   ·exact .inl ⟨h, _, getM_mem hg, rfl⟩
   ·exact .inr h
theorem get_putM {x : Mk} {l : List Mk} (h : RowM l) (k : Rk) : getM (putM l x) k = if k = x.k then (if onM l x = true then some x.po else getM l k) else getM l k := by
 by_cases ho : onM l x = true
 ·by_cases hk : k = x.k
  ·rw [if_pos hk, if_pos ho, getM_some (row_putM h), mem_putM ho, hk]
   exact .inl rfl
  ·rw [if_neg hk]
   apply Option.ext
   intro p
   rw [getM_some (row_putM h), mem_putM ho, getM_some h]
   constructor
   ·rintro (h1 | h1)
    ·exact absurd (by rw [← h1]) hk
    ·exact h1.1
   ·exact fun h1 => .inr ⟨h1, hk⟩
 ·rw [if_neg ho, putM_off (Bool.eq_false_iff.2 ho)]
  split <;> rfl
theorem rowM_unique : ∀ {l l' : List Mk}, RowM l → RowM l' → (∀ x, x ∈ l ↔ x ∈ l') → l = l'
 | [], [], _, _, _ => rfl
 | [], y :: r, _, _, h => by have := (h y).2 List.mem_cons_self; cases this
 | x :: r, [], _, _, h => by have := (h x).1 List.mem_cons_self; cases this
 | x :: r, y :: r', h1, h2, h => by
  have a1 := List.pairwise_cons.1 h1
  have a2 := List.pairwise_cons.1 h2
  have hno : ∀ {u v : Mk}, beforeK u.k v.k = true → beforeK v.k u.k = true → False := fun hu hv => by
   rw [bk_asym hu] at hv
   cases hv
  have e : x = y := by
   rcases List.mem_cons.1 ((h x).1 List.mem_cons_self) with e | hx
   ·exact e
   ·rcases List.mem_cons.1 ((h y).2 List.mem_cons_self) with e | hy
    ·exact e.symm
    ·exact (hno (a1.1 y hy) (a2.1 x hx)).elim
  subst e
  congr 1
  refine rowM_unique a1.2 a2.2 (fun z => ?_)
  constructor
  ·intro hz
   rcases List.mem_cons.1 ((h z).1 (List.mem_cons_of_mem _ hz)) with rfl | hz'
   ·exact (hno (a1.1 z hz) (a1.1 z hz)).elim
   ·exact hz'
  ·intro hz
   rcases List.mem_cons.1 ((h z).2 (List.mem_cons_of_mem _ hz)) with rfl | hz'
   ·exact (hno (a2.1 z hz) (a2.1 z hz)).elim
   ·exact hz'
theorem rowM_ext {l l' : List Mk} (h : RowM l) (h' : RowM l') (hg : ∀ k, getM l k = getM l' k) : l = l' :=
 rowM_unique h h' (fun x => by
  obtain ⟨k, p⟩ := x
  rw [← getM_some h, ← getM_some h', hg k])
theorem put_lenM (l : List Mk) (x : Mk) : (putM l x).length = l.length + (if getM l x.k = none then 1 else 0) := by
 unfold putM
 cases hg : getM l x.k with
 | none => simp [(ins_permM x l).length_eq]
 | some q =>
  show (bif beforeP q x.po then setM x l else l).length = _
  cases beforeP q x.po <;> simp [setM]
theorem put_leM (l : List Mk) (x : Mk) : (putM l x).length ≤ l.length + 1 := by
 rw [put_lenM]
 split <;> omega
theorem row_foldM : ∀ {ms l : List Mk}, RowM l → RowM (foldM l ms)
 | [], _, h => h
 | x :: ms, l, h => row_foldM (ms := ms) (row_putM h)
theorem put_allM {P : Mk → Prop} {l : List Mk} {x : Mk} (h : ∀ m ∈ l, P m) (hx : P x) : ∀ m ∈ putM l x, P m := by
 intro m hm
 by_cases ho : onM l x = true
 ·rcases (mem_putM ho).1 hm with rfl | h1
  ·exact hx
  ·exact h m h1.1
 ·rw [putM_off (Bool.eq_false_iff.2 ho)] at hm
  exact h m hm
theorem put_permM {x : Mk} {l : List Mk} (h : RowM l) (ho : onM l x = true) : (putM l x).Perm (x :: l.filter (fun m => !decide (m.k = x.k))) := by
 have hf : RowM (l.filter (fun m => !decide (m.k = x.k))) := List.Pairwise.sublist List.filter_sublist h
 have hne : ∀ y ∈ l.filter (fun m => !decide (m.k = x.k)), y.k ≠ x.k := fun y hy => by
  have := (List.mem_filter.1 hy).2
  simpa using this
 have : putM l x = insM x (l.filter (fun m => !decide (m.k = x.k))) := rowM_unique (row_putM h) (row_insM hf hne) (fun y => by
  rw [mem_putM ho, mem_insM, List.mem_filter]
  simp)
 rw [this]
 exact ins_permM x _
structure Best (f : Rk → Option Po) (S : Mk → Prop) : Prop where
 none : ∀ k, f k = none → ∀ m, S m → m.k ≠ k
 some : ∀ k p, f k = some p → S ⟨k, p⟩ ∧ ∀ m, S m → m.k = k → beforeP p m.po = false
theorem best_unique {f f' : Rk → Option Po} {S S' : Mk → Prop} (h : Best f S) (h' : Best f' S') (hs : ∀ m, S m ↔ S' m) : ∀ k, f k = f' k := by
 intro k
 cases e : f k with
 | none =>
  cases e' : f' k with
  | none => rfl
  | some p' => exact absurd rfl (h.none k e _ ((hs _).2 (h'.some k p' e').1))
 | some p =>
  cases e' : f' k with
  | none => exact absurd rfl (h'.none k e' _ ((hs _).1 (h.some k p e).1))
  | some p' =>
   by_cases hp : p = p'
   ·rw [hp]
   ·rcases pos_total hp with hb | hb
    ·rw [(h.some k p e).2 ⟨k, p'⟩ ((hs _).2 (h'.some k p' e').1) rfl] at hb
     cases hb
    ·rw [(h'.some k p' e').2 ⟨k, p⟩ ((hs _).1 (h.some k p e).1) rfl] at hb
     cases hb
theorem best_put {l : List Mk} {x : Mk} {S : Mk → Prop} (hr : RowM l) (h : Best (getM l) S) : Best (getM (putM l x)) (fun m => S m ∨ m = x) := by
 refine ⟨fun k hk m hm => ?_, fun k p hk => ?_⟩
 ·rw [get_putM hr] at hk
  by_cases e : k = x.k
  ·rw [if_pos e] at hk
   by_cases ho : onM l x = true
   ·rw [if_pos ho] at hk; cases hk
   ·rw [if_neg ho] at hk
    exfalso
    apply ho
    unfold onM
    rw [← e, hk]
  ·rw [if_neg e] at hk
   rcases hm with hm | rfl
   ·exact h.none k hk m hm
   ·exact fun e' => e e'.symm
 ·rw [get_putM hr] at hk
  by_cases e : k = x.k
  ·rw [if_pos e] at hk
   by_cases ho : onM l x = true
   ·rw [if_pos ho] at hk
    injection hk with hk
    subst hk e
    refine ⟨.inr rfl, fun m hm hmk => ?_⟩
    rcases hm with hm | rfl
    ·unfold onM at ho
     cases hg : getM l x.k with
     | none => exact absurd hmk (h.none _ hg m hm)
     | some q =>
      rw [hg] at ho
      simp only at ho
      have h1 := (h.some _ q hg).2 m hm hmk
      rw [Bool.eq_false_iff]
      intro hc
      rw [pos_trans ho hc] at h1
      cases h1
    ·exact pos_irrefl _
   ·rw [if_neg ho] at hk
    refine ⟨.inl (h.some k p hk).1, fun m hm hmk => ?_⟩
    rcases hm with hm | rfl
    ·exact (h.some k p hk).2 m hm hmk
    ·unfold onM at ho
     rw [← e, hk] at ho
     exact Bool.eq_false_iff.2 ho
  ·rw [if_neg e] at hk
   refine ⟨.inl (h.some k p hk).1, fun m hm hmk => ?_⟩
   rcases hm with hm | rfl
   ·exact (h.some k p hk).2 m hm hmk
   ·exact absurd hmk.symm e
theorem best_same {f : Rk → Option Po} {S S' : Mk → Prop} (h : Best f S) (hs : ∀ m, S m ↔ S' m) : Best f S' :=
 ⟨fun k hk m hm => h.none k hk m ((hs m).2 hm), fun k p hk => ⟨(hs _).1 (h.some k p hk).1, fun m hm => (h.some k p hk).2 m ((hs m).2 hm)⟩⟩
theorem best_fold : ∀ {ms l : List Mk} {S : Mk → Prop}, RowM l → Best (getM l) S → Best (getM (foldM l ms)) (fun m => S m ∨ m ∈ ms)
 | [], l, S, hr, h => best_same h (fun m => by simp)
 | x :: ms, l, S, hr, h => best_same (best_fold (ms := ms) (row_putM hr) (best_put hr h)) (fun m => by
  rw [List.mem_cons, or_assoc])
theorem best_nil : Best (getM []) (fun _ => False) := ⟨fun k _ m hm => hm.elim, fun k p hk => (by cases hk)⟩
end Go.Proofs.YtnnapkakbdpkaaaGreat

namespace Go.Proofs.YtnnapkakbdpkaaaGreat
set_option maxRecDepth 20000
open Go.RowKit Go.Maps Go.ChangeMaps
def Rk.cells (k : Rk) : List Value := [.string k.room, .string k.user, .string k.thread, .bool k.priv]
def Mk.cells (m : Mk) : List Value := [.string m.k.room, .string m.k.user, .string m.k.thread, .bool m.k.priv, .int .i64 m.po.depth, .string m.po.id]
def Rk.val (k : Rk) : Value := .agg #[.string k.room, .string k.user, .string k.thread, .bool k.priv]
def Mk.val (m : Mk) : Value := .agg #[.string m.k.room, .string m.k.user, .string m.k.thread, .bool m.k.priv, .int .i64 m.po.depth, .string m.po.id]
theorem cells_one (m : Mk) : ∀ u ∈ m.cells, u.oneCell' = true := fun u hu => by
 unfold Mk.cells at hu
 simp only [List.mem_cons, List.not_mem_nil, or_false] at hu
 rcases hu with rfl | rfl | rfl | rfl | rfl | rfl <;> rfl
def LM : Lies Mk := ⟨132, 6, Mk.cells, fun _ => rfl, cells_one⟩
def LR : Lies Mk := ⟨130, 6, Mk.cells, fun _ => rfl, cells_one⟩
def zeroM : Value := .agg #[.string ⟨#[]⟩, .string ⟨#[]⟩, .string ⟨#[]⟩, .bool false, .int .i64 0, .string ⟨#[]⟩]
def zeroP : Value := .agg #[.int .i64 0, .string ⟨#[]⟩]
theorem knR : Kn Tryz.prog LR 62 zeroM 80 := ⟨Tryz.underlying62, by kernel_rfl, rfl, by decide⟩
theorem laidOut : laidOutB Tryz.prog = true := by kernel_rfl
theorem keyedK : Maps.Keyed Tryz.prog 87 := Maps.Keyed.of_law (deep_law_laid laidOut (m := 2) (by omega) (of_decide_eq_true (by kernel_rfl)) (by kernel_rfl) (by kernel_rfl))
def kk (k : Rk) : Lit := .string (keyBytes [.string k.room.data.toList, .string k.user.data.toList, .string k.thread.data.toList, .bool k.priv])
theorem kk_key (k : Rk) : WideAt.IsKeyLit (kk k) := by simp [kk, WideAt.IsKeyLit]
theorem typesK : Tryz.prog.types.size + 1 = (Tryz.prog.types.size - 1) + 1 + 1 := by
 have : 0 < Tryz.prog.types.size := of_decide_eq_true (by kernel_rfl)
 omega
theorem keyIsK {k : Rk} (h : k.ok) : keyOf Tryz.prog 87 k.val = some (kk k) := by
 obtain ⟨h1, h2, h3⟩ := h
 have g1 : k.room.size ≤ maxLen := Nat.le_trans h1 (by decide)
 have g2 : k.user.size ≤ maxLen := Nat.le_trans h2 (by decide)
 have g3 : k.thread.size ≤ maxLen := Nat.le_trans h3 (by decide)
 have e1 : Tryz.prog.keyType 87 = true := by kernel_rfl
 have e2 : Tryz.prog.cellsOf 87 = 4 := by kernel_rfl
 have e3 : Tryz.prog.cellsOf 9 = 1 := by kernel_rfl
 have e4 : Tryz.prog.cellsOf 4 = 1 := by kernel_rfl
 have e5 : ∀ (x : ByteArray) (d : Nat), x.size ≤ maxLen → Tryz.prog.keyLits (d + 1) 9 [.string x] = some [.string x.data.toList] := fun x d hx => by simp [Program.keyLits, Tryz.underlying9, hx]
 have e6 : ∀ (x : Bool) (d : Nat), Tryz.prog.keyLits (d + 1) 4 [.bool x] = some [.bool x] := fun x d => by simp [Program.keyLits, Tryz.underlying4]
 unfold keyOf
 rw [Tryz.underlying87]
 simp only [e1, Rk.val, Value.formed, Tryz.underlying87, e2, Value.cells]
 rw [typesK]
 generalize Tryz.prog.types.size - 1 = n
 unfold Program.keyLits
 simp [Tryz.underlying87, e2, e3, e4, e5 _ _ g1, e5 _ _ g2, e5 _ _ g3, e6, kk]
theorem kk_inj {a b : Rk} (ha : a.ok) (hb : b.ok) (h : kk a = kk b) : a = b := by
 have h1 := keyIsK ha
 have h2 := keyIsK hb
 rw [← h] at h2
 have := keyedK.inj h1 h2
 unfold Rk.val at this
 injection this with this
 simp only [Array.mk.injEq, List.cons.injEq, Value.string.injEq, Value.bool.injEq, and_true] at this
 obtain ⟨e1, e2, e3, e4⟩ := this
 cases a; cases b
 simp_all
theorem key_isK {k : Rk} {v : Value} (h : k.ok) (hv : keyOf Tryz.prog 87 v = some (kk k)) : v = k.val := keyedK.inj hv (keyIsK h)
abbrev OwnK (w : World) (mb n : Nat) (D : Dv) : Prop := w.ownsMap Tryz.prog 87 heldR mb n D
theorem OwnK.keep {w w' : World} {mb n : Nat} {D : Dv} (h : OwnK w mb n D) (hb : w'.heap[mb]? = w.heap[mb]?) : OwnK w' mb n D := by
 obtain ⟨xs, clock, hb', h'⟩ := h
 exact ⟨xs, clock, hb.trans hb', h'⟩
theorem OwnK.lt {w : World} {mb n : Nat} {D : Dv} (h : OwnK w mb n D) : mb < w.heap.size := World.ownsMap.lt h
theorem OwnK.tight {w : World} {mb n : Nat} {D : Dv} (h : OwnK w mb n D) : OwnK w mb (Maps.size D) D := by
 obtain ⟨es, clock, hb, F, hs, rfl⟩ := h
 exact ⟨es, clock, hb, F, by simp [Maps.size, length_sorted], rfl⟩
theorem zeroIsP (w : World) : (zeroValue 83).run Tryz.prog w = .ok zeroP w := by kernel_rfl
def Mk.entry (m : Mk) : Lit × Dv := (kk m.k, .held m.po.val)
def MdM (D : Dv) (l : List Mk) : Prop := ∃ es, D = .map es ∧ es.Perm (l.map Mk.entry)
theorem MdM.nil : MdM (.map []) [] := ⟨[], rfl, List.Perm.refl _⟩
theorem MdM.size {D : Dv} {l : List Mk} (h : MdM D l) : Maps.size D = l.length := by
 obtain ⟨es, rfl, hp⟩ := h
 rw [Maps.size_eq, hp.length_eq, List.length_map]
theorem md_apart {l : List Mk} {es : List (Lit × Dv)} (hp : es.Perm (l.map Mk.entry)) (hr : RowM l) (ho : ∀ m ∈ l, m.k.ok) : es.Pairwise (fun p q => p.1 ≠ q.1) := by
 have h1 : (l.map Mk.entry).Pairwise (fun p q => p.1 ≠ q.1) := by
  rw [List.pairwise_map]
  exact List.Pairwise.imp_of_mem (fun ha hb h e => bk_ne h (kk_inj (ho _ ha) (ho _ hb) e)) hr
 exact (hp.pairwise_iff (fun h e => h e.symm)).2 h1
theorem MdM.has {D : Dv} {l : List Mk} (h : MdM D l) (ho : ∀ m ∈ l, m.k.ok) {k : Rk} (hk : k.ok) : Maps.has D (kk k) = (getM l k).isSome := by
 obtain ⟨es, rfl, hp⟩ := h
 rw [Bool.eq_iff_iff, Maps.has_eq, List.any_eq_true]
 constructor
 ·rintro ⟨p, hm, he⟩
  obtain ⟨m, hmm, rfl⟩ := List.mem_map.1 (hp.mem_iff.1 hm)
  have := kk_inj (ho m hmm) hk (WideAt.sameKey_eq he)
  cases hg : getM l k with
  | none => exact absurd this (getM_none.1 hg m hmm)
  | some q => rfl
 ·intro hs
  obtain ⟨q, hq⟩ := Option.isSome_iff_exists.1 hs
  exact ⟨Mk.entry ⟨k, q⟩, hp.mem_iff.2 (List.mem_map.2 ⟨_, getM_mem hq, rfl⟩), WideAt.sameKey_self (kk_key _)⟩
theorem MdM.at_ {D : Dv} {l : List Mk} (h : MdM D l) (hr : RowM l) (ho : ∀ m ∈ l, m.k.ok) {m : Mk} (hm : m ∈ l) (zd : Dv) : D.atKey (kk m.k) zd = .held m.po.val := by
 obtain ⟨es, rfl, hp⟩ := h
 exact WideAt.atKey_mem zd (kk_key _) (md_apart hp hr ho) (hp.mem_iff.2 (List.mem_map.2 ⟨m, hm, rfl⟩))
theorem MdM.get {D : Dv} {l : List Mk} (h : MdM D l) (hr : RowM l) (ho : ∀ m ∈ l, m.k.ok) {k : Rk} (hk : k.ok) (zd : Dv) : D.atKey (kk k) zd = match getM l k with
  | none => zd
  | some p => .held p.val := by
 cases hg : getM l k with
 | some p => exact h.at_ hr ho (getM_mem hg) zd
 | none =>
  obtain ⟨es, rfl, hp⟩ := h
  refine WideAt.atKey_none zd (fun p hm => ?_)
  obtain ⟨m, hmm, rfl⟩ := List.mem_map.1 (hp.mem_iff.1 hm)
  exact fun e => absurd (kk_inj (ho m hmm) hk e) (getM_none.1 hg m hmm)
theorem MdM.put {D : Dv} {l : List Mk} (h : MdM D l) (hr : RowM l) (ho : ∀ m ∈ l, m.k.ok) {x : Mk} (hx : x.k.ok) (hon : onM l x = true) : MdM (D.put (kk x.k) (.held x.po.val)) (putM l x) := by
 obtain ⟨es, rfl, hp⟩ := h
 refine ⟨_, DataW.put_eq _ _ _, ?_⟩
 unfold putKey
 refine (WideShapes.insert_perm _ _).trans ?_
 refine List.Perm.trans ?_ ((put_permM hr hon).map Mk.entry).symm
 rw [List.map_cons]
 refine List.Perm.cons _ ?_
 have h2 := (hp.filter (notKey (kk x.k)))
 refine h2.trans (List.Perm.of_eq ?_)
 rw [List.filter_map]
 congr 1
 apply List.filter_congr
 intro z hz
 simp only [Function.comp_apply, Mk.entry, notKey]
 congr 1
 rw [Bool.eq_iff_iff, decide_eq_true_eq]
 exact ⟨fun e => kk_inj (ho z hz) hx (WideAt.sameKey_eq e), fun e => by rw [e]; exact WideAt.sameKey_self (kk_key _)⟩
structure RI where
 g : Nat
 mb : Nat
 l : List Mk
 D : Dv
def RI.own (r : RI) (k : Nat) : Prop := k = r.g ∨ k = r.mb
structure CRs (w : World) (r : RI) : Prop where
 hd : w.heap[r.g]? = some (.cells #[.map (some r.mb)] 142 (0, 0))
 map : OwnK w r.mb r.l.length r.D
 is : MdM r.D r.l
 row : RowM r.l
 ok : ∀ m ∈ r.l, m.ok
section
variable {w w' : World} {r r' : RI}
theorem CRs.okk (h : CRs w r) : ∀ m ∈ r.l, m.k.ok := fun m hm => (h.ok m hm).1
theorem CRs.old (h : CRs w r) {k : Nat} (ho : r.own k) : k < w.heap.size := by
 rcases ho with rfl | rfl
 ·exact smem_lt h.hd
 ·exact h.map.lt
theorem CRs.keep (h : CRs w r) (hb : ∀ k, r.own k → w'.heap[k]? = w.heap[k]?) : CRs w' r :=
 ⟨(hb r.g (.inl rfl)).trans h.hd, h.map.keep (hb r.mb (.inr rfl)), h.is, h.row, h.ok⟩
theorem CRs.below (h : CRs w r) (hb : Below w.heap.size w w') : CRs w' r := h.keep (fun k hk => hb.block k (h.old hk))
theorem CRs.gm (h : CRs w r) : r.g ≠ r.mb := fun e => by
 obtain ⟨xs, clock, hb, _⟩ := h.map
 rw [← e, h.hd] at hb
 cases hb
theorem CRs.len (h : CRs w r) : Maps.size r.D = r.l.length := h.is.size
end
def Th.tab (r : RI) : Th := ⟨r.own, fun w => CRs w r, fun w k h hk => h.old hk, fun w w' h hs hb => h.keep (fun k hk => hb k (h.old hk) hk)⟩
structure Kt (w wr : World) (rs : List RI) (ts : List Th) : Prop where
 below : Below w.heap.size w wr
 tb : ∀ (i : Nat) r, rs[i]? = some r → CRs wr r ∧ ∀ k, r.own k → w.heap.size ≤ k
 off : ∀ (i j : Nat) r r', rs[i]? = some r → rs[j]? = some r' → i ≠ j → ∀ k, r.own k → ¬ r'.own k
 th : ∀ t ∈ ts, t.I wr ∧ ∀ (i : Nat) r, rs[i]? = some r → ∀ k, t.P k → ¬ r.own k
section
variable {w w' wr : World} {rs : List RI} {ts ts' : List Th} {r r' : RI} {i : Nat} {t : Th}
theorem Kt.start (w : World) : Kt w w [] [] := ⟨Below.refl _ _, fun i v h => (by simp at h), fun i j v v' h => (by simp at h), fun t h => (by cases h)⟩
theorem Kt.is (h : Kt w wr rs ts) (ht : t ∈ ts) : t.I wr := (h.th t ht).1
theorem Kt.ct (h : Kt w wr rs ts) (hi : rs[i]? = some r) : CRs wr r := (h.tb i r hi).1
theorem Kt.turn (h : Kt w wr rs ts) (hi : rs[i]? = some r) (hc : CRs w' r') (ht : TurnP r.own wr w') (ho : r'.g = r.g ∧ r'.mb = r.mb) : Kt w w' (rs.set i r') ts := by
 obtain ⟨hcv, hlo⟩ := h.tb i r hi
 have hsz := h.below.size
 have hown : ∀ k, r'.own k → r.own k := fun k hk => by
  unfold RI.own at *
  rw [ho.1, ho.2] at hk
  exact hk
 have hoth : ∀ (j : Nat) u, rs[j]? = some u → j ≠ i → CRs w' u := fun j u hu hj => (h.ct hu).keep (fun k hk => ht.block k ((h.ct hu).old hk) (h.off j i u r hu hi hj k hk))
 refine ⟨h.below.trans (ht.below hlo hsz), fun j u hu => ?_, fun j k' u u' hu hu' hne k k1 k2 => ?_, fun t htm => ⟨?_, fun j u hu k hk hown' => ?_⟩⟩
 ·rw [List.getElem?_set] at hu
  split at hu
  ·split at hu
   ·injection hu with hu
    subst hu
    exact ⟨hc, fun k hk => hlo k (hown k hk)⟩
   ·cases hu
  ·rename_i hne
   exact ⟨hoth j u hu (fun e => hne e.symm), (h.tb j u hu).2⟩
 ·have hcase : ∀ (j : Nat) u, (rs.set i r')[j]? = some u → ∃ u0, rs[j]? = some u0 ∧ ∀ k, u.own k → u0.own k := fun j u hu => by
   rw [List.getElem?_set] at hu
   split at hu
   ·rename_i e
    split at hu
    ·injection hu with hu
     subst hu
     exact ⟨r, by rw [← e]; exact hi, hown⟩
    ·cases hu
   ·exact ⟨u, hu, fun _ hk => hk⟩
  obtain ⟨a, ha, ha'⟩ := hcase j u hu
  obtain ⟨b, hb, hb'⟩ := hcase k' u' hu'
  exact h.off j k' a b ha hb hne k (ha' k k1) (hb' k k2)
 ·exact t.st wr w' (h.is htm) ht.size (fun k hk hp => ht.block k hk ((h.th t htm).2 i r hi k hp))
 ·rw [List.getElem?_set] at hu
  split at hu
  ·split at hu
   ·injection hu with hu
    subst hu
    exact (h.th t htm).2 i r hi k hk (hown k hown')
   ·cases hu
  ·exact (h.th t htm).2 j u hu k hk hown'
theorem Kt.less (h : Kt w wr rs ts) (hs : ∀ t ∈ ts', t ∈ ts) : Kt w wr rs ts' := ⟨h.below, h.tb, h.off, fun t ht => h.th t (hs t ht)⟩
theorem Kt.later (h : Kt w wr rs ts) (hb : Below wr.heap.size wr w') : Kt w w' rs ts :=
 ⟨h.below.trans (hb.mono h.below.size), fun j u hu => ⟨(h.ct hu).below hb, (h.tb j u hu).2⟩, h.off, fun t ht => ⟨t.st wr w' (h.is ht) hb.size (fun k hk _ => hb.block k hk), (h.th t ht).2⟩⟩
theorem Kt.add (h : Kt w wr rs ts) (hb : Below wr.heap.size wr w') (hI : t.I w') (hP : ∀ k, t.P k → wr.heap.size ≤ k ∨ ∃ u ∈ ts, u.P k) : Kt w w' rs (t :: ts) := by
 have h' := h.later hb
 refine ⟨h'.below, h'.tb, h'.off, fun u hu => ?_⟩
 rcases List.mem_cons.1 hu with rfl | hu
 ·refine ⟨hI, fun j x hx k hk ho => ?_⟩
  rcases hP k hk with hh | ⟨u, hu, hh⟩
  ·have := (h.ct hx).old ho
   omega
  ·exact (h'.th u hu).2 j x hx k hh ho
 ·exact h'.th u hu
theorem Kt.with (h : Kt w wr rs ts) (hI : t.I wr) (hP : ∀ k, t.P k → ∀ (j : Nat) u, rs[j]? = some u → ¬ u.own k) : Kt w wr rs (t :: ts) :=
 ⟨h.below, h.tb, h.off, fun u hu => by
  rcases List.mem_cons.1 hu with rfl | hu
  ·exact ⟨hI, fun j x hx k hk => hP k hk j x hx⟩
  ·exact h.th u hu⟩
theorem Kt.with0 (h : Kt w wr rs ts) (hI : t.I w) : Kt w wr rs (t :: ts) :=
 h.with (t.st w wr hI h.below.size (fun k hk _ => h.below.block k hk)) (fun k hk j u hu ho => by
  have h1 := t.lt w k hI hk
  have h2 := (h.tb j u hu).2 k ho
  omega)
theorem Kt.put {row : Option Nat} {t' : Th} (h : Kt w wr rs (t :: ts)) (hg : wr.grownBy w' row) (hr : ∀ k, row = some k → t.P k ∧ w.heap.size ≤ k ∧ ∀ u ∈ ts, ¬ u.P k) (hI : t'.I w') (hP : ∀ k, t'.P k → t.P k ∨ wr.heap.size ≤ k) : Kt w w' rs (t' :: ts) := by
 have hne : ∀ (j : Nat) u, rs[j]? = some u → ∀ k, u.own k → some k ≠ row := fun j u hu k hk e => (h.th t List.mem_cons_self).2 j u hu k (hr k e.symm).1 hk
 have hk : ∀ (j : Nat) u, rs[j]? = some u → CRs w' u := fun j u hu => (h.ct hu).keep (fun k hk => hg.block k ((h.ct hu).old hk) (hne j u hu k hk))
 refine ⟨h.below.grown hg h.below.size (fun k hk => (hr k hk).2.1), fun j u hu => ⟨hk j u hu, (h.tb j u hu).2⟩, h.off, fun u hu => ?_⟩
 rcases List.mem_cons.1 hu with rfl | hu
 ·refine ⟨hI, fun j x hx k hkP ho => ?_⟩
  rcases hP k hkP with hh | hh
  ·exact (h.th t List.mem_cons_self).2 j x hx k hh ho
  ·have := (h.ct hx).old ho; omega
 ·have hu' := List.mem_cons_of_mem t hu
  exact ⟨u.st wr w' (h.is hu') hg.size (fun k hk hp => hg.block k hk (fun e => (hr k e.symm).2.2 u hu hp)), (h.th u hu').2⟩
theorem Kt.swap {a b : Th} (h : Kt w wr rs (a :: b :: ts)) : Kt w wr rs (b :: a :: ts) := h.less (fun t ht => by
 rcases List.mem_cons.1 ht with rfl | ht
 ·exact List.mem_cons_of_mem _ List.mem_cons_self
 ·rcases List.mem_cons.1 ht with rfl | ht
  ·exact List.mem_cons_self
  ·exact List.mem_cons_of_mem _ (List.mem_cons_of_mem _ ht))
theorem Kt.made (h : Kt w wr rs ts) (hb : Below wr.heap.size wr w') (hc : CRs w' r) (ho : ∀ k, r.own k → wr.heap.size ≤ k) : Kt w w' (rs ++ [r]) ts := by
 have h' := h.later hb
 have hcase : ∀ (j : Nat) u, (rs ++ [r])[j]? = some u → (rs[j]? = some u ∧ j < rs.length) ∨ (j = rs.length ∧ u = r) := fun j u hu => by
  by_cases hj : j < rs.length
  ·rw [List.getElem?_append_left hj] at hu
   exact .inl ⟨hu, hj⟩
  ·have hl := (List.getElem?_eq_some_iff.1 hu).1
   simp only [List.length_append, List.length_cons, List.length_nil] at hl
   obtain rfl : j = rs.length := by omega
   simp only [List.getElem?_concat_length, Option.some.injEq] at hu
   exact .inr ⟨rfl, hu.symm⟩
 refine ⟨h'.below, fun j u hu => ?_, fun j j' u u' hu hu' hne k k1 k2 => ?_, fun t ht => ⟨h'.is ht, fun j u hu k hp hown => ?_⟩⟩
 ·rcases hcase j u hu with ⟨hu, -⟩ | ⟨-, rfl⟩
  ·exact h'.tb j u hu
  ·exact ⟨hc, fun k hk => Nat.le_trans h.below.size (ho k hk)⟩
 ·rcases hcase j u hu with ⟨hu0, -⟩ | ⟨rfl, rfl⟩
  ·rcases hcase j' u' hu' with ⟨hu', -⟩ | ⟨rfl, rfl⟩
   ·exact h'.off j j' u u' hu0 hu' hne k k1 k2
   ·have := (h.ct hu0).old k1
    have := ho k k2
    omega
  ·rcases hcase j' u' hu' with ⟨hu', -⟩ | ⟨rfl, rfl⟩
   ·have := (h.ct hu').old k2
    have := ho k k1
    omega
   ·exact hne rfl
 ·rcases hcase j u hu with ⟨hu, -⟩ | ⟨rfl, rfl⟩
  ·exact (h'.th t ht).2 j u hu k hp hown
  ·have := t.lt wr k (h.is ht) hp
   have := ho k hown
   omega
end
end Go.Proofs.YtnnapkakbdpkaaaGreat
