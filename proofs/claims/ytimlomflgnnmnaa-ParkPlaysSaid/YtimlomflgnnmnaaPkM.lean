/-
  A park: plain; how it lies in memory; what is kept beside it; New, Len, Lost, own.
-/
import Derived.Test.YtimlomflgnnmnaaPkE
import Derived.Test.YtimlomflgnnmnaaShelf
namespace Go.Proofs.Ytimlomflgnnmnaa
set_option maxRecDepth 20000
open Go.RowKit
set_option linter.unusedVariables false
set_option linter.unusedSimpArgs false

/-! ### Plain -/
def zeroE : Edu := ⟨0, ⟨#[]⟩, ⟨#[]⟩, ⟨#[]⟩, ⟨#[]⟩, false, false, 0, 0, 0, 0⟩
/-- Its texts are short enough to be copied. -/
def Edu.brief (e : Edu) : Prop := e.room.size ≤ 281474976710656 ∧ e.user.size ≤ 281474976710656 ∧ e.event.size ≤ 281474976710656 ∧ e.thread.size ≤ 281474976710656
/-- A park: its bound, its EDUs, how many have gone. -/
structure Pk where
  most : Nat
  l : List Edu
  lost : Nat
def hasP (l : List Edu) (e : Edu) : Bool := l.any (fun x => eqE x e)
def Pk.over (p : Pk) : Bool := decide (p.most < p.l.length + 1)
def Pk.put (p : Pk) (e : Edu) : Pk := bif hasP p.l e then p else bif p.over then ⟨p.most, (p.l ++ [e]).drop 1, p.lost + 1⟩ else ⟨p.most, p.l ++ [e], p.lost⟩
def Pk.goes (p : Pk) (e : Edu) : Bool := !hasP p.l e && p.over
def Pk.gone (p : Pk) (e : Edu) : Edu := bif p.goes e then (p.l ++ [e]).headD zeroE else zeroE
def isOf (room event : ByteArray) (e : Edu) : Bool := (e.room.toList == room.toList) && (e.event.toList == event.toList)
def Pk.took (p : Pk) (room event : ByteArray) : List Edu := p.l.filter (isOf room event)
def Pk.take (p : Pk) (room event : ByteArray) : Pk := ⟨p.most, p.l.filter (fun e => !isOf room event e), p.lost⟩
theorem eqE_self (e : Edu) : eqE e e = true := (eqE_iff e e).2 rfl
theorem eqE_comm (a b : Edu) : eqE a b = eqE b a := by
  rw [Bool.eq_iff_iff, eqE_iff, eqE_iff]
  exact eq_comm
theorem hasP_iff {l : List Edu} {e : Edu} : hasP l e = true ↔ e ∈ l := by
  unfold hasP
  rw [List.any_eq_true]
  constructor
  · rintro ⟨x, hx, he⟩
    rw [eqE_iff] at he
    rw [← he]; exact hx
  · intro h
    exact ⟨e, h, eqE_self e⟩
theorem hasP_hit {l : List Edu} {e x : Edu} {a : Nat} (hx : l[a]? = some x) (h : eqE x e = true) : hasP l e = true := by
  rw [hasP_iff, ← (eqE_iff x e).1 h]
  exact List.mem_of_getElem? hx
theorem hasP_miss {l : List Edu} {e : Edu} (h : ∀ (j : Nat) y, j < l.length → l[j]? = some y → eqE y e = false) : hasP l e = false := by
  rw [Bool.eq_false_iff]
  intro hh
  unfold hasP at hh
  rw [List.any_eq_true] at hh
  obtain ⟨x, hx, he⟩ := hh
  obtain ⟨j, hj, hg⟩ := List.getElem_of_mem hx
  rw [h j x hj (by rw [List.getElem?_eq_getElem hj, hg])] at he
  cases he
theorem Pk.put_has {p : Pk} {e : Edu} (h : hasP p.l e = true) : p.put e = p ∧ p.goes e = false ∧ p.gone e = zeroE := by
  unfold Pk.put Pk.gone Pk.goes
  rw [h]
  exact ⟨rfl, rfl, rfl⟩
theorem Pk.put_in {p : Pk} {e : Edu} (h : hasP p.l e = false) (ho : p.over = false) : p.put e = ⟨p.most, p.l ++ [e], p.lost⟩ ∧ p.goes e = false ∧ p.gone e = zeroE := by
  unfold Pk.put Pk.gone Pk.goes
  rw [h, ho]
  exact ⟨rfl, rfl, rfl⟩
theorem Pk.put_out {p : Pk} {e : Edu} (h : hasP p.l e = false) (ho : p.over = true) : p.put e = ⟨p.most, (p.l ++ [e]).drop 1, p.lost + 1⟩ ∧ p.goes e = true ∧ p.gone e = (p.l ++ [e]).headD zeroE := by
  unfold Pk.put Pk.gone Pk.goes
  rw [h, ho]
  exact ⟨rfl, rfl, rfl⟩
theorem Pk.put_most (p : Pk) (e : Edu) : (p.put e).most = p.most := by
  unfold Pk.put
  cases hasP p.l e <;> cases p.over <;> rfl
theorem Pk.put_brief {p : Pk} {e : Edu} (h : ∀ x ∈ p.l, x.brief) (he : e.brief) : ∀ x ∈ (p.put e).l, x.brief := by
  have ha : ∀ x ∈ p.l ++ [e], x.brief := fun x hx => by
    rcases List.mem_append.1 hx with hx | hx
    · exact h x hx
    · rw [List.mem_singleton] at hx; rw [hx]; exact he
  unfold Pk.put
  cases hasP p.l e
  · cases p.over
    · exact ha
    · exact fun x hx => ha x (List.mem_of_mem_drop hx)
  · exact h
theorem Pk.put_len (p : Pk) (e : Edu) (h : p.l.length ≤ p.most) : (p.put e).l.length ≤ p.most := by
  unfold Pk.put
  cases hasP p.l e
  · cases ho : p.over
    · unfold Pk.over at ho
      rw [decide_eq_false_iff_not] at ho
      simp only [cond_false, List.length_append, List.length_cons, List.length_nil]
      omega
    · simp only [cond_false, cond_true, List.length_drop, List.length_append, List.length_cons, List.length_nil]
      omega
  · exact h
theorem Pk.put_lost (p : Pk) (e : Edu) : (p.put e).lost = p.lost + (bif p.goes e then 1 else 0) := by
  unfold Pk.put Pk.goes
  cases hasP p.l e <;> cases p.over <;> rfl
/-- Each that is put is there, or one has gone. -/
theorem Pk.put_count (p : Pk) (e : Edu) : (p.put e).l.length + (bif p.goes e then 1 else 0) = p.l.length + (bif hasP p.l e then 0 else 1) := by
  unfold Pk.put Pk.goes
  cases hasP p.l e
  · cases p.over
    · simp
    · simp
  · simp
theorem Pk.take_count (p : Pk) (room event : ByteArray) : (p.take room event).l.length + (p.took room event).length = p.l.length := by
  unfold Pk.take Pk.took
  induction p.l with
  | nil => rfl
  | cons x l ih =>
    simp only [List.filter_cons]
    cases isOf room event x
    · simp only [Bool.not_false, if_true, List.length_cons, Bool.false_eq_true, if_false]
      simp only at ih
      omega
    · simp only [Bool.not_true, if_true, List.length_cons, Bool.false_eq_true, if_false]
      simp only at ih
      omega
theorem Pk.take_none (p : Pk) (room event : ByteArray) : (p.take room event).took room event = [] := by
  unfold Pk.take Pk.took
  simp only [List.filter_filter]
  rw [List.filter_eq_nil_iff]
  intro x _
  cases isOf room event x <;> simp
theorem Pk.take_len (p : Pk) (room event : ByteArray) : (p.take room event).l.length ≤ p.l.length := by
  have := p.take_count room event
  omega
theorem filter_yes {l : List Edu} {q : Edu → Bool} {a : Nat} {x : Edu} (hx : l[a]? = some x) (h : q x = true) : (l.take (a + 1)).filter q = (l.take a).filter q ++ [x] := by
  rw [List.take_add_one, hx, List.filter_append]
  simp [h]
theorem filter_no {l : List Edu} {q : Edu → Bool} {a : Nat} {x : Edu} (hx : l[a]? = some x) (h : q x = false) : (l.take (a + 1)).filter q = (l.take a).filter q := by
  rw [List.take_add_one, hx, List.filter_append]
  simp [h]

/-! ### In memory -/
/-- How EDUs lie. -/
def LE : Lies Edu := ⟨32, 11, Edu.cells, fun _ => rfl, cells_one⟩
theorem knE : Kn Try.prog LE 22 zeroE.val 112 := ⟨Try.underlying22, by kernel_rfl, rfl, by decide⟩
/-- A park of the code: its struct in block b, its slice v, all from block B on. -/
structure CPk (w : World) (B b : Nat) (v : Value) (p : Pk) : Prop where
  hd : w.heap[b]? = some (.cells #[.int .i64 (p.most : Int), v, .int .i64 (p.lost : Int)] 52 (0, 0))
  row : LE.Mine w B v p.l
  lo : B ≤ b
  ok : ∀ e ∈ p.l, e.brief
def ownP (b : Nat) (v : Value) (k : Nat) : Prop := k = b ∨ v.ownBlock = some k
section
variable {w w' wr : World} {B b : Nat} {v v' : Value} {p p' : Pk} {ts ts' : List Th} {t : Th}
theorem CPk.old (h : CPk w B b v p) {k : Nat} (hk : ownP b v k) : B ≤ k ∧ k < w.heap.size := by
  rcases hk with rfl | hk
  · exact ⟨h.lo, smem_lt h.hd⟩
  · exact h.row.lt k hk
theorem CPk.keep (h : CPk w B b v p) (hb : ∀ k, ownP b v k → w'.heap[k]? = w.heap[k]?) : CPk w' B b v p :=
  ⟨(hb b (.inl rfl)).trans h.hd, h.row.keep (fun k hk => hb k (.inr hk)), h.lo, h.ok⟩
theorem CPk.below (h : CPk w B b v p) (hb : Below w.heap.size w w') : CPk w' B b v p := h.keep (fun k hk => hb.block k (h.old hk).2)
theorem CPk.ne (h : CPk w B b v p) : v.ownBlock ≠ some b := fun e => by
  rcases h.row with ⟨rfl, _⟩ | ⟨g, off, cap, cur, rfl, hg, hh, _⟩
  · cases e
  · simp only [Value.ownBlock, Option.some.injEq] at e
    subst e
    rw [h.hd] at hh
    injection hh with hh
    injection hh with _ hh
    cases hh
theorem mine_ne {α : Type} {L : Lies α} {g : Nat} {t0 : TypeId} {cs : Array Value} {xs : List α} (hb : w.heap[g]? = some (.cells cs t0 (0, 0))) (ht : t0 ≠ L.e) (h : L.Mine w B v xs) : v.ownBlock ≠ some g := fun e => by
  rcases h with ⟨rfl, _⟩ | ⟨g', off, cap, cur, rfl, hg, hh, _⟩
  · cases e
  · simp only [Value.ownBlock, Option.some.injEq] at e
    subst e
    rw [hb] at hh
    injection hh with hh
    injection hh with _ hh
    exact ht hh
/-- What is kept: a park of the code, all of whose blocks are new, and things beside it. -/
structure Kp (w wr : World) (b : Nat) (v : Value) (p : Pk) (ts : List Th) : Prop where
  below : Below w.heap.size w wr
  pk : CPk wr w.heap.size b v p
  th : ∀ t ∈ ts, t.I wr ∧ ∀ k, t.P k → ¬ ownP b v k
theorem Kp.is (h : Kp w wr b v p ts) (ht : t ∈ ts) : t.I wr := (h.th t ht).1
theorem Kp.less (h : Kp w wr b v p ts) (hs : ∀ t ∈ ts', t ∈ ts) : Kp w wr b v p ts' := ⟨h.below, h.pk, fun t ht => h.th t (hs t ht)⟩
theorem Kp.later (h : Kp w wr b v p ts) (hb : Below wr.heap.size wr w') : Kp w w' b v p ts :=
  ⟨h.below.trans (hb.mono h.below.size), h.pk.below hb, fun t ht => ⟨t.st wr w' (h.is ht) hb.size (fun k hk _ => hb.block k hk), (h.th t ht).2⟩⟩
/-- What is new, or lies in what is kept, is kept too. -/
theorem Kp.add (h : Kp w wr b v p ts) (hb : Below wr.heap.size wr w') (hI : t.I w') (hP : ∀ k, t.P k → wr.heap.size ≤ k ∨ ∃ u ∈ ts, u.P k) : Kp w w' b v p (t :: ts) := by
  have h' := h.later hb
  refine ⟨h'.below, h'.pk, fun u hu => ?_⟩
  rcases List.mem_cons.1 hu with rfl | hu
  · refine ⟨hI, fun k hk ho => ?_⟩
    rcases hP k hk with hh | ⟨u, hu, hh⟩
    · have := (h.pk.old ho).2
      omega
    · exact (h'.th u hu).2 k hh ho
  · exact h'.th u hu
/-- What was there at the start lies in no park. -/
theorem Kp.with0 (h : Kp w wr b v p ts) (hI : t.I w) : Kp w wr b v p (t :: ts) :=
  ⟨h.below, h.pk, fun u hu => by
    rcases List.mem_cons.1 hu with rfl | hu
    · refine ⟨u.st w wr hI h.below.size (fun k hk _ => h.below.block k hk), fun k hk ho => ?_⟩
      have h1 := u.lt w k hI hk
      have h2 := (h.pk.old ho).1
      omega
    · exact h.th u hu⟩
/-- The park turns, all else stays. -/
theorem Kp.turn (h : Kp w wr b v p ts) (hc : CPk w' w.heap.size b v' p') (ht : TurnP (ownP b v) wr w') (ho : ∀ k, v'.ownBlock = some k → v.ownBlock = some k ∨ wr.heap.size ≤ k) : Kp w w' b v' p' ts := by
  refine ⟨h.below.trans (ht.below (fun k hk => (h.pk.old hk).1) h.below.size), hc, fun t htm => ⟨t.st wr w' (h.is htm) ht.size (fun k hk hp => ht.block k hk ((h.th t htm).2 k hp)), fun k hk hown => ?_⟩⟩
  rcases hown with rfl | hown
  · exact (h.th t htm).2 k hk (.inl rfl)
  · rcases ho k hown with hv | hn
    · exact (h.th t htm).2 k hk (.inr hv)
    · have := t.lt wr k (h.is htm) hk
      omega
/-- A thing of one's own is written. -/
theorem Kp.put {row : Option Nat} {t' : Th} (h : Kp w wr b v p (t :: ts)) (hg : wr.grownBy w' row) (hr : ∀ k, row = some k → t.P k ∧ w.heap.size ≤ k ∧ ∀ u ∈ ts, ¬ u.P k) (hI : t'.I w') (hP : ∀ k, t'.P k → t.P k ∨ wr.heap.size ≤ k) : Kp w w' b v p (t' :: ts) := by
  have hne : ∀ k, ownP b v k → some k ≠ row := fun k hk e => (h.th t List.mem_cons_self).2 k (hr k e.symm).1 hk
  refine ⟨h.below.grown hg h.below.size (fun k hk => (hr k hk).2.1), h.pk.keep (fun k hk => hg.block k (h.pk.old hk).2 (hne k hk)), fun u hu => ?_⟩
  rcases List.mem_cons.1 hu with rfl | hu
  · refine ⟨hI, fun k hkP ho => ?_⟩
    rcases hP k hkP with hh | hh
    · exact (h.th t List.mem_cons_self).2 k hh ho
    · have := (h.pk.old ho).2; omega
  · have hu' := List.mem_cons_of_mem t hu
    exact ⟨u.st wr w' (h.is hu') hg.size (fun k hk hp => hg.block k hk (fun e => (hr k e.symm).2.2 u hu hp)), (h.th u hu').2⟩
/-- A box of one's own is written. -/
theorem Kp.rebox {g : Nat} {o o' : Obj} (h : Kp w wr b v p (Th.box g o :: ts)) (hb : w'.heap[g]? = some o') (hg : wr.grownBy w' (some g)) (hlo : w.heap.size ≤ g) (hn : ∀ t ∈ ts, ¬ t.P g) : Kp w w' b v p (Th.box g o' :: ts) :=
  h.put hg (fun k hk => by
    injection hk with hk
    subst hk
    exact ⟨rfl, hlo, hn⟩) (t' := Th.box g o') hb (fun k hk => .inl hk)
theorem Kp.swap {a c : Th} (h : Kp w wr b v p (a :: c :: ts)) : Kp w wr b v p (c :: a :: ts) := h.less (fun t ht => by
  rcases List.mem_cons.1 ht with rfl | ht
  · exact List.mem_cons_of_mem _ List.mem_cons_self
  · rcases List.mem_cons.1 ht with rfl | ht
    · exact List.mem_cons_self
    · exact List.mem_cons_of_mem _ (List.mem_cons_of_mem _ ht))
end

/-! ### The code: New, Len, Lost, own -/
set_option maxHeartbeats 800000 in
theorem pkNew_no (n : Int) (w : World) (h : n < 1 ∨ 1000 < n) : Calls Try.prog 9 #[.int .i64 n] w fun e w' => e = .returned (.tuple #[.pointer none, .int .i64 1]) ∧ Below w.heap.size w w' := by
  by_cases h1 : n < 1
  · have q1 : decide (n < 1) = true := decide_eq_true h1
    clear h1 h
    go_enter Try.func9, Try.ntmps9
    go_wp2_with fail
    refine bodyPost_ret (v := .tuple #[.pointer none, .int .i64 1]) ?_ rfl ⟨rfl, Below.refl _ _⟩
    simp [results, Try.results9, go_sem]
  · have q1 : decide (n < 1) = false := decide_eq_false h1
    have q2 : decide (1000 < n) = true := decide_eq_true (by omega)
    clear h1 h
    go_enter Try.func9, Try.ntmps9
    go_wp2_with fail
    refine bodyPost_ret (v := .tuple #[.pointer none, .int .i64 1]) ?_ rfl ⟨rfl, Below.refl _ _⟩
    simp [results, Try.results9, go_sem]
set_option maxHeartbeats 800000 in
theorem pkNew_yes (n : Nat) (w : World) (h1 : 1 ≤ n) (h2 : n ≤ 1000) : Calls Try.prog 9 #[.int .i64 (n : Int)] w fun e w' => ∃ b, e = .returned (.tuple #[.pointer (some ⟨b, 0, none⟩), .int .i64 0]) ∧ Kp w w' b (.slice none 0 0) ⟨n, [], 0⟩ [] := by
  have q1 : decide ((n : Int) < 1) = false := decide_eq_false (by omega)
  have q2 : decide (1000 < (n : Int)) = false := decide_eq_false (by omega)
  have HK := Lib.hid (show Kp w (w.alloc (.cells #[.int .i64 (n : Int), .slice none 0 0, .int .i64 0] 52)) w.heap.size (.slice none 0 0) ⟨n, [], 0⟩ [] from ⟨below_new w _, ⟨heap_alloc_new w _, Lies.Mine.nil _ _, Nat.le_refl _, fun e he => by cases he⟩, fun t ht => by cases ht⟩)
  go_enter Try.func9, Try.ntmps9
  go_wp2_with fail
  refine bodyPost_ret (v := .tuple #[.pointer (some ⟨w.heap.size, 0, none⟩), .int .i64 0]) ?_ rfl ⟨_, rfl, HK.out⟩
  simp [results, Try.results9, go_sem]
set_option maxHeartbeats 800000 in
theorem pkLen_any {w : World} {B b : Nat} {v : Value} {p : Pk} (h : CPk w B b v p) : Calls Try.prog 18 #[.pointer (some ⟨b, 0, none⟩)] w fun e w' => e = .returned (.int .i64 (p.l.length : Int)) ∧ Below w.heap.size w w' := by
  obtain ⟨A, c, rfl, -⟩ := h.row.shape
  have c0 := cell_at h.hd 0
  have c1 := cell_at h.hd 1
  have c2 := cell_at h.hd 2
  simp only [List.getElem?_toArray, List.getElem?_cons_succ, List.getElem?_cons_zero] at c0 c1 c2
  clear h
  go_enter Try.func18, Try.ntmps18
  go_wp2_with fail
  go_ret
  exact ⟨rfl, Below.refl _ _⟩
set_option maxHeartbeats 800000 in
theorem pkLost_any {w : World} {B b : Nat} {v : Value} {p : Pk} (h : CPk w B b v p) : Calls Try.prog 19 #[.pointer (some ⟨b, 0, none⟩)] w fun e w' => e = .returned (.int .i64 (p.lost : Int)) ∧ Below w.heap.size w w' := by
  have c0 := cell_at h.hd 0
  have c1 := cell_at h.hd 1
  have c2 := cell_at h.hd 2
  simp only [List.getElem?_toArray, List.getElem?_cons_succ, List.getElem?_cons_zero] at c0 c1 c2
  clear h
  go_enter Try.func19, Try.ntmps19
  go_wp2_with fail
  go_ret
  exact ⟨rfl, Below.refl _ _⟩
theorem cloneP_any (s : ByteArray) (w : World) (hs : s.size ≤ 281474976710656) :
    Calls Try.prog 34 #[.string s] w fun e w' => e = .returned (.string s) ∧ Below w.heap.size w w' := by
  go_enter Try.func34, Try.ntmps34
  go_wp2_with fail
  refine (Try.stringslite_Clone s _ hs).mono ?_
  rintro e w' ⟨rfl, hb⟩
  go_wp2
  go_ret
  exact ⟨rfl, hb⟩
end Go.Proofs.Ytimlomflgnnmnaa
