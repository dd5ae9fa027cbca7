/-
  What the statements stand on, part ZA21.
-/
import Derived.Test.YtnnapkakbdpkaaaGreatZA20
set_option linter.unusedVariables false
set_option linter.unusedSimpArgs false
namespace Go.Proofs.YtnnapkakbdpkaaaGreat
set_option maxRecDepth 20000
open Go.RowKit
def zeroE : Edu := ⟨0, ⟨#[]⟩, ⟨#[]⟩, ⟨#[]⟩, ⟨#[]⟩, false, false, 0, 0, 0, 0⟩
def Edu.brief (e : Edu) : Prop := e.room.size ≤ 281474976710656 ∧ e.user.size ≤ 281474976710656 ∧ e.event.size ≤ 281474976710656 ∧ e.thread.size ≤ 281474976710656
structure Pk where
 most : Nat
 l : List Edu
 lost : Nat
def hasP (l : List Edu) (e : Edu) : Bool := l.any (fun x => eqE x e)
def Pk.over (p : Pk) : Bool := decide (p.most < p.l.length + 1)
def Pk.put (p : Pk) (e : Edu) : Pk := bif hasP p.l e then p else bif p.over then ⟨p.most, (p.l ++ [e]).drop 1, p.lost + 1⟩ else ⟨p.most, p.l ++ [e], p.lost⟩
def Pk.goes (p : Pk) (e : Edu) : Bool := !hasP p.l e && p.over
def Pk.gone (p : Pk) (e : Edu) : Edu := bif p.goes e then (p.l ++ [e]).headD zeroE else zeroE
def isOf (room event : ByteArray) (e : Edu) : Bool := (e.room.toList == room.toList) && (e.event.toList == event.toList)
def Pk.took (p : Pk) (room event : ByteArray) : List Edu := p.l.filter (isOf room event)
def Pk.take (p : Pk) (room event : ByteArray) : Pk := ⟨p.most, p.l.filter (fun e => !isOf room event e), p.lost⟩
theorem eqE_self (e : Edu) : eqE e e = true := (eqE_iff e e).2 rfl
theorem eqE_comm (a b : Edu) : eqE a b = eqE b a := by
 rw [Bool.eq_iff_iff, eqE_iff, eqE_iff]
 exact eq_comm
theorem hasP_iff {l : List Edu} {e : Edu} : hasP l e = true ↔ e ∈ l := by
 unfold hasP
 rw [List.any_eq_true]
 constructor
 ·rintro ⟨x, hx, he⟩
  rw [eqE_iff] at he
  rw [← he]; exact hx
 ·intro h
  exact ⟨e, h, eqE_self e⟩
theorem hasP_hit {l : List Edu} {e x : Edu} {a : Nat} (hx : l[a]? = some x) (h : eqE x e = true) : hasP l e = true := by
 rw [hasP_iff, ← (eqE_iff x e).1 h]
 exact List.mem_of_getElem? hx
theorem hasP_miss {l : List Edu} {e : Edu} (h : ∀ (j : Nat) y, j < l.length → l[j]? = some y → eqE y e = false) : hasP l e = false := by
 rw [Bool.eq_false_iff]
 intro hh
 unfold hasP at hh
 rw [List.any_eq_true] at hh
 obtain ⟨x, hx, he⟩ := hh
 obtain ⟨j, hj, hg⟩ := List.getElem_of_mem hx
 rw [h j x hj (by rw [List.getElem?_eq_getElem hj, hg])] at he
 cases he
theorem Pk.put_has {p : Pk} {e : Edu} (h : hasP p.l e = true) : p.put e = p ∧ p.goes e = false ∧ p.gone e = zeroE := by
 unfold Pk.put Pk.gone Pk.goes
 rw [h]
 exact ⟨rfl, rfl, rfl⟩
theorem Pk.put_in {p : Pk} {e : Edu} (h : hasP p.l e = false) (ho : p.over = false) : p.put e = ⟨p.most, p.l ++ [e], p.lost⟩ ∧ p.goes e = false ∧ p.gone e = zeroE := by
 unfold Pk.put Pk.gone Pk.goes
 rw [h, ho]
 exact ⟨rfl, rfl, rfl⟩
theorem Pk.put_out {p : Pk} {e : Edu} (h : hasP p.l e = false) (ho : p.over = true) : p.put e = ⟨p.most, (p.l ++ [e]).drop 1, p.lost + 1⟩ ∧ p.goes e = true ∧ p.gone e = (p.l ++ [e]).headD zeroE := by
 unfold Pk.put Pk.gone Pk.goes
 rw [h, ho]
 exact ⟨rfl, rfl, rfl⟩
theorem Pk.put_most (p : Pk) (e : Edu) : (p.put e).most = p.most := by
 unfold Pk.put
 cases hasP p.l e <;> cases p.over <;> rfl
theorem Pk.put_len (p : Pk) (e : Edu) (h : p.l.length ≤ p.most) : (p.put e).l.length ≤ p.most := by
 unfold Pk.put
 cases hasP p.l e
 ·cases ho : p.over
  ·unfold Pk.over at ho
   rw [decide_eq_false_iff_not] at ho
   simp only [cond_false, List.length_append, List.length_cons, List.length_nil]
   omega
  ·simp only [cond_false, cond_true, List.length_drop, List.length_append, List.length_cons, List.length_nil]
   omega
 ·exact h
theorem Pk.put_lost (p : Pk) (e : Edu) : (p.put e).lost = p.lost + (bif p.goes e then 1 else 0) := by
 unfold Pk.put Pk.goes
 cases hasP p.l e <;> cases p.over <;> rfl
theorem Pk.take_count (p : Pk) (room event : ByteArray) : (p.take room event).l.length + (p.took room event).length = p.l.length := by
 unfold Pk.take Pk.took
 induction p.l with
 | nil => rfl
 | cons x l ih =>
  simp only [List.filter_cons]
  cases isOf room event x
  ·simp only [Bool.not_false, if_true, List.length_cons, Bool.false_eq_true, if_false]
   simp only at ih
   omega
  ·simp only [Bool.not_true, if_true, List.length_cons, Bool.false_eq_true, if_false]
   simp only at ih
   omega
theorem Pk.take_len (p : Pk) (room event : ByteArray) : (p.take room event).l.length ≤ p.l.length := by
 have := p.take_count room event
 omega
theorem filter_yes {l : List Edu} {q : Edu → Bool} {a : Nat} {x : Edu} (hx : l[a]? = some x) (h : q x = true) : (l.take (a + 1)).filter q = (l.take a).filter q ++ [x] := by
 rw [List.take_add_one, hx, List.filter_append]
 simp [h]
theorem filter_no {l : List Edu} {q : Edu → Bool} {a : Nat} {x : Edu} (hx : l[a]? = some x) (h : q x = false) : (l.take (a + 1)).filter q = (l.take a).filter q := by
 rw [List.take_add_one, hx, List.filter_append]
 simp [h]
def LE : Lies Edu := ⟨43, 11, Edu.cells, fun _ => rfl, cellsE_one⟩
theorem knE : Kn Tryz.prog LE 23 zeroE.val 112 := ⟨Tryz.underlying23, by kernel_rfl, rfl, by decide⟩
structure CPk (w : World) (B b : Nat) (v : Value) (p : Pk) : Prop where
 hd : w.heap[b]? = some (.cells #[.int .i64 (p.most : Int), v, .int .i64 (p.lost : Int)] 139 (0, 0))
 row : LE.Mine w B v p.l
 lo : B ≤ b
 ok : ∀ e ∈ p.l, e.brief
def ownP (b : Nat) (v : Value) (k : Nat) : Prop := k = b ∨ v.ownBlock = some k
section
variable {w w' wr : World} {B b : Nat} {v v' : Value} {p p' : Pk} {ts ts' : List Th} {t : Th}
theorem CPk.old (h : CPk w B b v p) {k : Nat} (hk : ownP b v k) : B ≤ k ∧ k < w.heap.size := by
 rcases hk with rfl | hk
 ·exact ⟨h.lo, smem_lt h.hd⟩
 ·exact h.row.lt k hk
theorem CPk.keep (h : CPk w B b v p) (hb : ∀ k, ownP b v k → w'.heap[k]? = w.heap[k]?) : CPk w' B b v p :=
 ⟨(hb b (.inl rfl)).trans h.hd, h.row.keep (fun k hk => hb k (.inr hk)), h.lo, h.ok⟩
theorem CPk.below (h : CPk w B b v p) (hb : Below w.heap.size w w') : CPk w' B b v p := h.keep (fun k hk => hb.block k (h.old hk).2)
theorem CPk.ne (h : CPk w B b v p) : v.ownBlock ≠ some b := fun e => by
 rcases h.row with ⟨rfl, _⟩ | ⟨g, off, cap, cur, rfl, hg, hh, _⟩
 ·cases e
 ·simp only [Value.ownBlock, Option.some.injEq] at e
  subst e
  rw [h.hd] at hh
  injection hh with hh
  injection hh with _ hh
  cases hh
theorem mineK_ne {α : Type} {L : Lies α} {g : Nat} {t0 : TypeId} {cs : Array Value} {xs : List α} (hb : w.heap[g]? = some (.cells cs t0 (0, 0))) (ht : t0 ≠ L.e) (h : L.Mine w B v xs) : v.ownBlock ≠ some g := fun e => by
 rcases h with ⟨rfl, _⟩ | ⟨g', off, cap, cur, rfl, hg, hh, _⟩
 ·cases e
 ·simp only [Value.ownBlock, Option.some.injEq] at e
  subst e
  rw [hb] at hh
  injection hh with hh
  injection hh with _ hh
  exact ht hh
structure Kp (w wr : World) (b : Nat) (v : Value) (p : Pk) (ts : List Th) : Prop where
 below : Below w.heap.size w wr
 pk : CPk wr w.heap.size b v p
 th : ∀ t ∈ ts, t.I wr ∧ ∀ k, t.P k → ¬ ownP b v k
theorem Kp.is (h : Kp w wr b v p ts) (ht : t ∈ ts) : t.I wr := (h.th t ht).1
theorem Kp.less (h : Kp w wr b v p ts) (hs : ∀ t ∈ ts', t ∈ ts) : Kp w wr b v p ts' := ⟨h.below, h.pk, fun t ht => h.th t (hs t ht)⟩
theorem Kp.later (h : Kp w wr b v p ts) (hb : Below wr.heap.size wr w') : Kp w w' b v p ts :=
 ⟨h.below.trans (hb.mono h.below.size), h.pk.below hb, fun t ht => ⟨t.st wr w' (h.is ht) hb.size (fun k hk _ => hb.block k hk), (h.th t ht).2⟩⟩
theorem Kp.add (h : Kp w wr b v p ts) (hb : Below wr.heap.size wr w') (hI : t.I w') (hP : ∀ k, t.P k → wr.heap.size ≤ k ∨ ∃ u ∈ ts, u.P k) : Kp w w' b v p (t :: ts) := by
 have h' := h.later hb
 refine ⟨h'.below, h'.pk, fun u hu => ?_⟩
 rcases List.mem_cons.1 hu with rfl | hu
 ·refine ⟨hI, fun k hk ho => ?_⟩
  rcases hP k hk with hh | ⟨u, hu, hh⟩
  ·have := (h.pk.old ho).2
   omega
  ·exact (h'.th u hu).2 k hh ho
 ·exact h'.th u hu
theorem Kp.with0 (h : Kp w wr b v p ts) (hI : t.I w) : Kp w wr b v p (t :: ts) :=
 ⟨h.below, h.pk, fun u hu => by
  rcases List.mem_cons.1 hu with rfl | hu
  ·refine ⟨u.st w wr hI h.below.size (fun k hk _ => h.below.block k hk), fun k hk ho => ?_⟩
   have h1 := u.lt w k hI hk
   have h2 := (h.pk.old ho).1
   omega
  ·exact h.th u hu⟩
theorem Kp.turn (h : Kp w wr b v p ts) (hc : CPk w' w.heap.size b v' p') (ht : TurnP (ownP b v) wr w') (ho : ∀ k, v'.ownBlock = some k → v.ownBlock = some k ∨ wr.heap.size ≤ k) : Kp w w' b v' p' ts := by
 refine ⟨h.below.trans (ht.below (fun k hk => (h.pk.old hk).1) h.below.size), hc, fun t htm => ⟨t.st wr w' (h.is htm) ht.size (fun k hk hp => ht.block k hk ((h.th t htm).2 k hp)), fun k hk hown => ?_⟩⟩
 rcases hown with rfl | hown
 ·exact (h.th t htm).2 k hk (.inl rfl)
 ·rcases ho k hown with hv | hn
  ·exact (h.th t htm).2 k hk (.inr hv)
  ·have := t.lt wr k (h.is htm) hk
   omega
theorem Kp.put {row : Option Nat} {t' : Th} (h : Kp w wr b v p (t :: ts)) (hg : wr.grownBy w' row) (hr : ∀ k, row = some k → t.P k ∧ w.heap.size ≤ k ∧ ∀ u ∈ ts, ¬ u.P k) (hI : t'.I w') (hP : ∀ k, t'.P k → t.P k ∨ wr.heap.size ≤ k) : Kp w w' b v p (t' :: ts) := by
 have hne : ∀ k, ownP b v k → some k ≠ row := fun k hk e => (h.th t List.mem_cons_self).2 k (hr k e.symm).1 hk
 refine ⟨h.below.grown hg h.below.size (fun k hk => (hr k hk).2.1), h.pk.keep (fun k hk => hg.block k (h.pk.old hk).2 (hne k hk)), fun u hu => ?_⟩
 rcases List.mem_cons.1 hu with rfl | hu
 ·refine ⟨hI, fun k hkP ho => ?_⟩
  rcases hP k hkP with hh | hh
  ·exact (h.th t List.mem_cons_self).2 k hh ho
  ·have := (h.pk.old ho).2; omega
 ·have hu' := List.mem_cons_of_mem t hu
  exact ⟨u.st wr w' (h.is hu') hg.size (fun k hk hp => hg.block k hk (fun e => (hr k e.symm).2.2 u hu hp)), (h.th u hu').2⟩
theorem Kp.rebox {g : Nat} {o o' : Obj} (h : Kp w wr b v p (Th.box g o :: ts)) (hb : w'.heap[g]? = some o') (hg : wr.grownBy w' (some g)) (hlo : w.heap.size ≤ g) (hn : ∀ t ∈ ts, ¬ t.P g) : Kp w w' b v p (Th.box g o' :: ts) :=
 h.put hg (fun k hk => by
  injection hk with hk
  subst hk
  exact ⟨rfl, hlo, hn⟩) (t' := Th.box g o') hb (fun k hk => .inl hk)
theorem Kp.swap {a c : Th} (h : Kp w wr b v p (a :: c :: ts)) : Kp w wr b v p (c :: a :: ts) := h.less (fun t ht => by
 rcases List.mem_cons.1 ht with rfl | ht
 ·exact List.mem_cons_of_mem _ List.mem_cons_self
 ·rcases List.mem_cons.1 ht with rfl | ht
  ·exact List.mem_cons_self
  ·exact List.mem_cons_of_mem _ (List.mem_cons_of_mem _ ht))
end
set_option maxHeartbeats 800000 in
theorem pkNew_no (n : Int) (w : World) (h : n < 1 ∨ 1000 < n) : Calls Tryz.prog 36 #[.int .i64 n] w fun e w' => e = .returned (.tuple #[.pointer none, .int .i64 1]) ∧ Below w.heap.size w w' := by
 by_cases h1 : n < 1
 ·have q1 : decide (n < 1) = true := decide_eq_true h1
  clear h1 h
  go_enter Tryz.func36, Tryz.ntmps36
  go_wp2_with fail
  refine bodyPost_ret (v := .tuple #[.pointer none, .int .i64 1]) ?_ rfl ⟨rfl, Below.refl _ _⟩
  simp [results, Tryz.results36, go_sem]
 ·have q1 : decide (n < 1) = false := decide_eq_false h1
  have q2 : decide (1000 < n) = true := decide_eq_true (by omega)
  clear h1 h
  go_enter Tryz.func36, Tryz.ntmps36
  go_wp2_with fail
  refine bodyPost_ret (v := .tuple #[.pointer none, .int .i64 1]) ?_ rfl ⟨rfl, Below.refl _ _⟩
  simp [results, Tryz.results36, go_sem]
set_option maxHeartbeats 800000 in
theorem pkNew_yes (n : Nat) (w : World) (h1 : 1 ≤ n) (h2 : n ≤ 1000) : Calls Tryz.prog 36 #[.int .i64 (n : Int)] w fun e w' => ∃ b, e = .returned (.tuple #[.pointer (some ⟨b, 0, none⟩), .int .i64 0]) ∧ Kp w w' b (.slice none 0 0) ⟨n, [], 0⟩ [] := by
 have q1 : decide ((n : Int) < 1) = false := decide_eq_false (by omega)
 have q2 : decide (1000 < (n : Int)) = false := decide_eq_false (by omega)
 have HK := Lib.hid (show Kp w (w.alloc (.cells #[.int .i64 (n : Int), .slice none 0 0, .int .i64 0] 139)) w.heap.size (.slice none 0 0) ⟨n, [], 0⟩ [] from ⟨below_new w _, ⟨heap_alloc_new w _, Lies.Mine.nil _ _, Nat.le_refl _, fun e he => by cases he⟩, fun t ht => by cases ht⟩)
 go_enter Tryz.func36, Tryz.ntmps36
 go_wp2_with fail
 refine bodyPost_ret (v := .tuple #[.pointer (some ⟨w.heap.size, 0, none⟩), .int .i64 0]) ?_ rfl ⟨_, rfl, HK.out⟩
 simp [results, Tryz.results36, go_sem]
theorem cloneP_any (s : ByteArray) (w : World) (hs : s.size ≤ 281474976710656) :
  Calls Tryz.prog 81 #[.string s] w fun e w' => e = .returned (.string s) ∧ Below w.heap.size w w' := by
 go_enter Tryz.func81, Tryz.ntmps81
 go_wp2_with fail
 refine (Tryz.stringslite_Clone s _ hs).mono ?_
 rintro e w' ⟨rfl, hb⟩
 go_wp2
 go_ret
 exact ⟨rfl, hb⟩
end Go.Proofs.YtnnapkakbdpkaaaGreat

namespace Go.Proofs.YtnnapkakbdpkaaaGreat
set_option maxRecDepth 20000
open Go.RowKit
theorem TurnP.grown {P : Nat → Prop} {w w' w'' : World} {row : Option Nat} (h : TurnP P w w') (hg : w'.grownBy w'' row) (hr : ∀ k, row = some k → P k ∨ w.heap.size ≤ k) : TurnP P w w'' :=
 ⟨hg.os.trans h.os, hg.tape.trans h.tape, hg.output.trans h.output, Nat.le_trans h.size hg.size, fun k hk hp => (hg.block k (Nat.lt_of_lt_of_le hk h.size) (fun e => by
  rcases hr k e.symm with h1 | h1
  ·exact hp h1
  ·omega)).trans (h.block k hk hp)⟩
theorem TurnP.later {P : Nat → Prop} {w w' w'' : World} (h : TurnP P w w') (hb : Below w'.heap.size w' w'') : TurnP P w w'' := h.trans (TurnP.of hb)
set_option maxHeartbeats 1600000 in
theorem ownE_any (e : Edu) (w : World) (hb : e.brief) :
  Calls Tryz.prog 73 #[e.val] w fun x w' => x = .returned e.val ∧ Below w.heap.size w w' := by
 obtain ⟨hr, hu, hv, ht⟩ := hb
 have H1 := Lib.hid (fun w => cloneP_any e.room w hr)
 have H2 := Lib.hid (fun w => cloneP_any e.user w hu)
 have H3 := Lib.hid (fun w => cloneP_any e.event w hv)
 have H4 := Lib.hid (fun w => cloneP_any e.thread w ht)
 obtain ⟨k, r, u, v, t, p, o, s, z, c, m⟩ := e
 simp only [Edu.val] at *
 clear hr hu hv ht
 go_enter Tryz.func73, Tryz.ntmps73
 go_upto_region 1 with (fail)
 generalize hW : (w.alloc _).alloc _ = W
 have hT := two_new hW rfl
 clear hW
 obtain ⟨d0, d1, d2, d3, d4, d5, d6, d7, d8, d9, d10⟩ := cells11 hT.2.1
 go_wp2_with fail
 go_at_call 81
 refine (H1.out _).mono ?_
 rintro e w1 ⟨rfl, hb⟩
 replace hT := hT.later hb
 clear hb H1 d0 d1 d2 d3 d4 d5 d6 d7 d8 d9 d10
 have hS := setCell_idem hT.2.1 (show _[1]? = some (.string r) from rfl)
 obtain ⟨d0, d1, d2, d3, d4, d5, d6, d7, d8, d9, d10⟩ := cells11 hT.2.1
 have z1 := free_at hT.2.1 1
 go_upto_region 2 with (fail)
 try rw [hS]
 clear hS z1
 go_wp2_with fail
 go_at_call 81
 refine (H2.out _).mono ?_
 rintro e w2 ⟨rfl, hb⟩
 replace hT := hT.later hb
 clear hb H2 d0 d1 d2 d3 d4 d5 d6 d7 d8 d9 d10
 have hS := setCell_idem hT.2.1 (show _[2]? = some (.string u) from rfl)
 obtain ⟨d0, d1, d2, d3, d4, d5, d6, d7, d8, d9, d10⟩ := cells11 hT.2.1
 have z1 := free_at hT.2.1 2
 go_upto_region 3 with (fail)
 try rw [hS]
 clear hS z1
 go_wp2_with fail
 go_at_call 81
 refine (H3.out _).mono ?_
 rintro e w3 ⟨rfl, hb⟩
 replace hT := hT.later hb
 clear hb H3 d0 d1 d2 d3 d4 d5 d6 d7 d8 d9 d10
 have hS := setCell_idem hT.2.1 (show _[3]? = some (.string v) from rfl)
 obtain ⟨d0, d1, d2, d3, d4, d5, d6, d7, d8, d9, d10⟩ := cells11 hT.2.1
 have z1 := free_at hT.2.1 3
 go_upto_region 4 with (fail)
 try rw [hS]
 clear hS z1
 go_wp2_with fail
 go_at_call 81
 refine (H4.out _).mono ?_
 rintro e w4 ⟨rfl, hb⟩
 replace hT := hT.later hb
 clear hb H4 d0 d1 d2 d3 d4 d5 d6 d7 d8 d9 d10
 have hS := setCell_idem hT.2.1 (show _[4]? = some (.string t) from rfl)
 obtain ⟨d0, d1, d2, d3, d4, d5, d6, d7, d8, d9, d10⟩ := cells11 hT.2.1
 have z1 := free_at hT.2.1 4
 go_upto_region 5 with (fail)
 try rw [hS]
 clear hS z1
 obtain ⟨X, hX, hx3⟩ := hT.2.2
 have Hset := Lib.hid (setRow_heap _ _ _ #[.int .i64 k, .string r, .string u, .string v, .string t, .bool p, .bool o, .int .i64 s, .int .i64 z, .int .i64 c, .int .i64 m] _ _ hx3)
 have HB := Lib.hid (hT.set (new := #[.int .i64 k, .string r, .string u, .string v, .string t, .bool p, .bool o, .int .i64 s, .int .i64 z, .int .i64 c, .int .i64 m]) rfl).1
 replace hx3 := Lib.hid hx3
 clear hT
 go_wp2_with (refine wpList_store_row rfl 43 (.tmp 2) (.tmp 19) rfl (w.heap.size + 1) #[.int .i64 k, .string r, .string u, .string v, .string t, .bool p, .bool o, .int .i64 s, .int .i64 z, .int .i64 c, .int .i64 m] rfl rfl 43 X hx3.out edu_info (hX.trans rfl) (one11 _ _ _ _ _ _ _ _ _ _ _) ?_)
 generalize hW2 : World.setRow _ _ _ = W3 at Hset HB ⊢
 clear hW2 d0 d1 d2 d3 d4 d5 d6 d7 d8 d9 d10
 obtain ⟨d0, d1, d2, d3, d4, d5, d6, d7, d8, d9, d10⟩ := cells11 Hset.out
 go_wp2_with fail
 refine bodyPost_ret (v := .agg #[.int .i64 k, .string r, .string u, .string v, .string t, .bool p, .bool o, .int .i64 s, .int .i64 z, .int .i64 c, .int .i64 m]) ?_ rfl ⟨rfl, HB.out⟩
 simp [results, Tryz.results73, go_sem, d0, d1, d2, d3, d4, d5, d6, d7, d8, d9, d10]
def OneE (w : World) (g : Nat) (cs : Array Value) (w' : World) : Prop := Below w.heap.size w w' ∧ w'.heap[g]? = some (.cells cs 43 (0, 0))
theorem OneE.later {w w' w'' : World} {g : Nat} {cs : Array Value} (h : OneE w g cs w') (hb : Below w'.heap.size w' w'') : OneE w g cs w'' := ⟨h.1.trans (hb.mono h.1.size), (hb.block _ (smem_lt h.2)).trans h.2⟩
theorem OneE.drewN {w w' : World} {g : Nat} {cs : Array Value} (h : OneE w g cs w') (n : Nat) : OneE w g cs (w'.drewN n) := ⟨⟨h.1.os, h.1.tape, h.1.output, h.1.size, h.1.block⟩, h.2⟩
set_option maxHeartbeats 1600000 in
theorem indexE_any (v : Value) (us : List Edu) (e : Edu) (w : World) (h : LE.Slice w v us) :
  Calls Tryz.prog 104 #[v, e.val] w fun x w' => (∃ n : Int, x = .returned (.int .i64 n) ∧ decide (0 ≤ n) = hasP us e) ∧ Below w.heap.size w w' := by
 obtain ⟨A, cap, rfl, h1, h2, -⟩ := id h
 unfold maxLen at h2
 have HR := Lib.hid h
 have HHit := Lib.hid (fun (a : Nat) (x : Edu) (hx : us[a]? = some x) (hq : eqE e x = true) => hasP_hit hx (by rw [eqE_comm]; exact hq))
 have HMiss := Lib.hid (fun h => hasP_miss (l := us) (e := e) h)
 generalize hasP us e = R at *
 have HT := Lib.hid (show OneE w w.heap.size e.cells.toArray (w.alloc (.cells e.cells.toArray 43)) from ⟨below_new w _, heap_alloc_new w _⟩)
 have heq := fun x w => eql_edu e x w
 obtain ⟨k, r, u, v, t, p, o, s, z, c, m⟩ := e
 simp only [Edu.val] at *
 simp only [Edu.cells] at HT
 clear h
 go_enter Tryz.func104, Tryz.ntmps104
 go_upto_region 1 with (fail)
 generalize World.alloc _ _ = W at HT ⊢
 generalize hg3 : w.heap.size = g3 at HT ⊢
 go_wp2_with fail
 go_loopw [8, 5] (fun i _ wr => ∃ a : Nat, i = .int .i64 (a : Int) ∧ a ≤ us.length ∧ Hid (OneE w g3 #[.int .i64 k, .string r, .string u, .string v, .string t, .bool p, .bool o, .int .i64 s, .int .i64 z, .int .i64 c, .int .i64 m] wr) ∧ Hid (∀ (j : Nat) y, j < a → us[j]? = some y → eqE ⟨k, r, u, v, t, p, o, s, z, c, m⟩ y = false)) (fun i _ _ => us.length - (intOf i).toNat)
 case atStart => exact ⟨0, rfl, Nat.zero_le _, by rw [← hg3] at HT ⊢; exact HT, Lib.hid (fun j y hj => by omega)⟩
 case round =>
  obtain ⟨a, rfl, ha, HA, HN⟩ := hrel
  clear HT
  by_cases hax : a < us.length
  ·have q1 : decide ((a : Int) < (us.length : Int)) = true := decide_eq_true (by omega)
   have hx : us[a]? = some us[a] := List.getElem?_eq_getElem hax
   generalize us[a] = x at hx
   have HX := Lib.hid hx
   obtain ⟨bo, oo, rfl, hbo, hco⟩ := (HR.out.below HA.out.1).at hx
   have hiy := index_any (P := Tryz.prog) knE (by decide) (b := bo) (off := oo) (cap := cap) hax
   simp only [LE] at hiy hco
   obtain ⟨c0, c1, c2, c3, c4, c5, c6, c7, c8, c9, c10⟩ := range11 hco
   obtain ⟨d0, d1, d2, d3, d4, d5, d6, d7, d8, d9, d10⟩ := cells11 HA.out.2
   have heq := heq x
   have HSN : Hid (eqE ⟨k, r, u, v, t, p, o, s, z, c, m⟩ x = false → ∀ (j : Nat) y, j < a + 1 → us[j]? = some y → eqE ⟨k, r, u, v, t, p, o, s, z, c, m⟩ y = false) := Lib.hid (fun hf j y hj hy => by
    by_cases hja : j = a
    ·subst hja
     rw [HX.out] at hy
     injection hy with hy
     rw [← hy]; exact hf
    ·exact HN.out j y (by omega) hy)
   have HHA := Lib.hid (fun hq => HHit.out a x hx hq)
   clear hx hco
   generalize eqE ⟨k, r, u, v, t, p, o, s, z, c, m⟩ x = M at heq HSN HHA
   obtain ⟨y0, y1, y2, y3, y4, y5, y6, y7, y8, y9, y10⟩ := x
   simp only at c0 c1 c2 c3 c4 c5 c6 c7 c8 c9 c10 heq
   go_wp2_with fail
   go_quiet (fail)
   clear d0 d1 d2 d3 d4 d5 d6 d7 d8 d9 d10 c0 c1 c2 c3 c4 c5 c6 c7 c8 c9 c10 heq hiy
   cases M
   ·have HN2 := Lib.hid (HSN.out rfl)
    clear HSN HHA
    go_wp2_with fail
    refine ⟨⟨a + 1, by go_num, by omega, Lib.hid (HA.out.drewN _), HN2⟩, ?_⟩
    simp [intOf]; omega
   ·have HF := HHA.out rfl
    subst HF
    clear HSN HHA
    go_wp2_with fail
    go_ret
    exact ⟨⟨_, rfl, by first | omega | simp⟩, by rw [← hg3]; exact (HA.out.drewN _).1⟩
  ·have q1 : decide ((a : Int) < (us.length : Int)) = false := decide_eq_false (by omega)
   have HF := HMiss.out (fun j y hj hy => by rw [eqE_comm]; exact HN.out j y (by omega) hy)
   subst HF
   clear heq
   go_wp2_with fail
   go_ret
   exact ⟨⟨_, rfl, by first | omega | simp⟩, by rw [← hg3]; exact HA.out.1⟩
set_option maxHeartbeats 800000 in
theorem containsE_any (v : Value) (us : List Edu) (e : Edu) (w : World) (h : LE.Slice w v us) :
  Calls Tryz.prog 72 #[v, e.val] w fun x w' => x = .returned (.bool (hasP us e)) ∧ Below w.heap.size w w' := by
 have HB := Lib.hid (below_new w (.cells e.cells.toArray 43))
 have HI := Lib.hid (fun W (hb : Below w.heap.size w W) => indexE_any v us e W (h.below hb))
 have HT := Lib.hid (heap_alloc_new w (.cells e.cells.toArray 43))
 obtain ⟨A, cap, rfl, -⟩ := h
 generalize hasP us e = R at *
 obtain ⟨k, r, u, v, t, p, o, s, z, c, m⟩ := e
 simp only [Edu.val, Edu.cells] at *
 obtain ⟨d0, d1, d2, d3, d4, d5, d6, d7, d8, d9, d10⟩ := cells11 HT.out
 go_enter Tryz.func72, Tryz.ntmps72
 go_wp2_with fail
 go_at_call 104
 refine (HI.out _ HB.out).mono ?_
 rintro e w1 ⟨⟨n, rfl, hn⟩, hb⟩
 have HBB := Lib.hid (HB.out.trans (hb.mono HB.out.size))
 clear hb HB HI HT d0 d1 d2 d3 d4 d5 d6 d7 d8 d9 d10
 go_wp2_with fail
 go_ret
 exact ⟨rfl, HBB.out⟩
theorem Lies.Mine.beyondE {α : Type} {L : Lies α} {w : World} {B b off n cap : Nat} {xs : List α} (h : L.Mine w B (.slice (some ⟨b, off, none⟩) n cap) xs) (vs : List Value) (o : Nat) (ho : off + xs.length * L.c ≤ o) (hfit : o + vs.length ≤ off + cap * L.c) : L.Mine (w.setCells b o vs) B (.slice (some ⟨b, off, none⟩) n cap) xs ∧ ∀ j, j < vs.length → (w.cell? ⟨b, o + j, none⟩).isSome = true ∧ w.frozen? ⟨b, o + j, none⟩ = false := by
 rcases h with ⟨hv, _⟩ | ⟨g, off', cap', cur, hv, hg, hh, h1, h2, h3, h4⟩
 ·cases hv
 ·injection hv with e1 e2 e3
  injection e1 with e1
  injection e1 with e4 e5 _
  subst e4 e5 e3
  obtain ⟨cur', r1, r2, r3⟩ := sm_at b L.e vs o w cur hh (by omega)
  refine ⟨.inr ⟨b, off, cap, cur', by rw [e2], hg, r1, h1, h2, by omega, ?_⟩, fun j hj => ?_⟩
  ·have hsz : cur.toList.length = cur.size := Array.length_toList
   rw [← h4, r3, List.append_assoc, List.drop_append_of_le_length (by rw [List.length_take, hsz]; omega), List.drop_take, List.take_append_of_le_length (by rw [List.length_take, List.length_drop, hsz]; omega), List.take_take, Nat.min_eq_left (by omega)]
  ·exact ⟨by rw [cell_of_row w b _ cur _ _ hh, Array.getElem?_eq_getElem (by omega)]; rfl, by simp [World.frozen?, hh]⟩
theorem Lies.Mine.putIn {α : Type} {P : Program} {L : Lies α} {t : TypeId} {zv : Value} {bt : Nat} {w : World} {B g off m cap : Nat} {xs ys : List α} (K : Kn P L t zv bt) (ty tx : TypeId) (h : L.Mine w B (.slice (some ⟨g, off, none⟩) m cap) xs) (x : Value) (n : Nat) (hn : ys.length = n) (hs : Src P L.c tx x n (L.vs ys) w) (hroom : xs.length + n ≤ cap) :
  ∃ w', (Builtin.append_ #[t, tx] ty #[.slice (some ⟨g, off, none⟩) m cap, x]).run P w = .ok (.slice (some ⟨g, off, none⟩) (xs.length + n) cap) w' ∧ L.Mine w' B (.slice (some ⟨g, off, none⟩) (xs.length + n) cap) (xs ++ ys) ∧ w.grownBy w' (some g) := by
 obtain ⟨i0, hi0, hz0, hz1, hz2⟩ := info_parts K.info
 have hs' : Src P i0.size tx x n (L.vs ys) w := by rw [hz1]; exact hs
 have hml : (xs ++ ys).length = xs.length + n := by simp [hn]
 rcases h with ⟨hv, _⟩ | ⟨g', off', cap', cur, hv, hg, hh, h1, h2, h3, h4⟩
 ·cases hv
 ·injection hv with e1 e2 e3
  injection e1 with e1
  injection e1 with e4 e5 _
  subst e4 e5 e3 e2
  have hle : off + xs.length * L.c + (L.vs ys).length ≤ cur.size := by
   rw [L.vs_len, hn, Nat.add_assoc, ← Nat.add_mul]
   exact Nat.le_trans (Nat.add_le_add_left (Nat.mul_le_mul_right _ hroom) _) h3
  have hr := run_append_room_src (P := P) w t tx ty L.e i0 K.ht hi0 g off xs.length cap x n (L.vs ys) hs' hroom
   (fun j hj => by
    rw [hz1, cell_of_row w g _ cur L.e (0, 0) hh, Array.getElem?_eq_getElem (by omega)]
    rfl)
   (fun j hj => by simp [World.frozen?, hh])
  rw [hz1] at hr
  obtain ⟨cur', r1, r2, r3⟩ := sm_at g L.e (L.vs ys) (off + xs.length * L.c) w cur hh hle
  refine ⟨_, hr, .inr ⟨g, off, cap, cur', by rw [hml], hg, r1, by omega, h2, by omega, ?_⟩, sm_grown _ _ _ _⟩
  have hsz : cur.toList.length = cur.size := Array.length_toList
  have hlo : off ≤ (cur.toList.take (off + xs.length * L.c)).length := by rw [List.length_take, hsz]; omega
  rw [hml, L.vs_app, r3, List.append_assoc, List.drop_append_of_le_length hlo, List.drop_take, show off + xs.length * L.c - off = xs.length * L.c by omega, h4, ← List.append_assoc,
   show (xs.length + n) * L.c = (L.vs xs ++ L.vs ys).length by rw [List.length_append, L.vs_len, L.vs_len, hn, Nat.add_mul]]
  exact List.take_left
theorem slice_three {α : Type} {P : Program} {L : Lies α} {t : TypeId} {zv : Value} {bt : Nat} (N : Kn P L t zv bt) (A : Option Addr) (n cap l k m : Nat) (hl : l ≤ k) (hk : k ≤ m) (hm : m ≤ cap) (w : World) : (Instr.sliceAt t (.slice A n cap) (some (.int .i64 (l : Int))) (some (.int .i64 (k : Int))) (some (.int .i64 (m : Int)))).run P w = .ok (sliced A l k m L.c) w := by
 obtain ⟨i0, hi0, hz0, hz1, hz2⟩ := info_parts N.info
 have he : P.elem t = L.e := by simp [Program.elem, N.ht]
 have ht : P.underlying t = some (.slice (P.elem t)) := by rw [he]; exact N.ht
 rw [run_sliceAt_slice w t _ _ _ _ ht, run_slice_lhm w t A n cap ht .i64 .i64 .i64 (l : Int) (k : Int) (m : Int) (by omega) (by omega) (by omega) (by omega), he]
 simp [sizeOf, typeInfo, hi0, hz1]
theorem zeroIsE (w : World) : (zeroValue 43).run Tryz.prog w = .ok zeroE.val w := by kernel_rfl
theorem grown_trans {w a c : World} {b : Nat} (h : w.grownBy a (some b)) (k : a.grownBy c (some b)) : w.grownBy c (some b) :=
 ⟨k.os.trans h.os, k.tape.trans h.tape, k.output.trans h.output, Nat.le_trans h.size k.size, fun i hi hne => (k.block i (Nat.lt_of_lt_of_le hi h.size) hne).trans (h.block i hi hne)⟩
theorem grown_drew (w : World) (r : Option Nat) : w.grownBy w.drew r := ⟨rfl, rfl, rfl, Nat.le_refl _, fun _ _ _ => rfl⟩
theorem wp_append {P : Program} {o : Oper} {a : Act} {w w' : World} {K : Act → World → Prop} {Q : Exit → Act → World → Prop} {t tx : TypeId} {v xv u : Value} (s x : Operand)
  (ho : o.op = .call { callee := .builtin .append, args := #[s, x], argTypes := #[t, tx] }) (hv : a.eval s = v) (hx : a.eval x = xv) (hr : (Builtin.append_ #[t, tx] o.type #[v, xv]).run P w = .ok u w') (hK : K (a.put o.dst u) w') : o.wp P a w K Q := by
 unfold Oper.wp execOp
 simp only [ho, resolve, invoke, builtin, Sem.run_bind, Sem.run_pure, Result.andThen_ok, List.map_toArray, List.map_cons, List.map_nil, hv, hx, hr]
 exact hK
set_option maxHeartbeats 1600000 in
theorem deleteE_any (B b off cap : Nat) (us : List Edu) (w : World) (h : LE.Mine w B (.slice (some ⟨b, off, none⟩) us.length cap) us) (h0 : 0 < us.length) :
  Calls Tryz.prog 74 #[.slice (some ⟨b, off, none⟩) us.length cap, .int .i64 0, .int .i64 1] w fun x w' => x = .returned (.slice (some ⟨b, off, none⟩) (us.drop 1).length cap) ∧ LE.Mine w' B (.slice (some ⟨b, off, none⟩) (us.drop 1).length cap) (us.drop 1) ∧ w.grownBy w' (some b) := by
 obtain ⟨A, c, e1, h1, h2, -⟩ := h.shape
 injection e1 with e1 e2 e3
 subst e3
 unfold maxLen at h2
 have hl1 : (us.drop 1).length = us.length - 1 := by rw [List.length_drop]
 have hs3 : ∀ w, (Instr.sliceAt 23 (.slice (some ⟨b, off, none⟩) us.length cap) (some (.int .i64 0)) (some (.int .i64 1)) (some (.int .i64 (us.length : Int)))).run Tryz.prog w = .ok (sliced (some ⟨b, off, none⟩) 0 1 us.length LE.c) w := fun w => slice_three (P := Tryz.prog) knE (some ⟨b, off, none⟩) us.length cap 0 1 us.length (by omega) (by omega) h1 w
 have hsh : ∀ w, (Instr.sliceAt 23 (.slice (some ⟨b, off, none⟩) us.length cap) none (some (.int .i64 0)) none).run Tryz.prog w = .ok (sliced (some ⟨b, off, none⟩) 0 0 cap LE.c) w := fun w => slice_high (P := Tryz.prog) knE (some ⟨b, off, none⟩) us.length cap 0 (by omega) w
 have hsl : ∀ w, (Instr.sliceAt 23 (.slice (some ⟨b, off, none⟩) us.length cap) (some (.int .i64 1)) none none).run Tryz.prog w = .ok (sliced (some ⟨b, off, none⟩) 1 us.length cap LE.c) w := fun w => slice_low (P := Tryz.prog) knE (some ⟨b, off, none⟩) us.length cap 1 (by omega) w
 have hsb := fun w => slice_both (P := Tryz.prog) knE (some ⟨b, off, none⟩) (us.length - 1) cap (us.length - 1) us.length (by omega) h1 w
 have e4 : sliced (some ⟨b, off, none⟩) 0 0 cap LE.c = .slice (some ⟨b, off, none⟩) 0 cap := by
  unfold sliced
  rw [if_neg (by omega)]
  simp [Addr.add_lit]
 have e5 : sliced (some ⟨b, off, none⟩) (us.length - 1) us.length cap LE.c = .slice (some ⟨b, off + (us.length - 1) * 11, none⟩) 1 (cap - (us.length - 1)) := by
  unfold sliced
  rw [if_neg (by omega), show us.length - (us.length - 1) = 1 by omega]
  simp [Addr.add_lit, show LE.c = 11 from rfl]
 have e6 : ∃ A c, sliced (some ⟨b, off, none⟩) 1 us.length cap LE.c = .slice A (us.length - 1) c := ⟨_, _, rfl⟩
 obtain ⟨A1, c1, e6⟩ := e6
 have hm0 := h.sub 0 0 (by omega) (by omega)
 have hm1 := h.slice.sub 1 us.length (by omega) (Nat.le_refl _)
 rw [e4] at hm0 hsh
 rw [e6, List.take_length] at hm1
 rw [e6] at hsl
 rw [e5] at hsb
 rw [show (us.take 0).drop 0 = [] by simp] at hm0
 have HP : Hid (∀ (W : World) (ty : TypeId), Below w.heap.size w W → ∃ w', (Builtin.append_ #[23, 23] ty #[.slice (some ⟨b, off, none⟩) 0 cap, .slice A1 (us.length - 1) c1]).run Tryz.prog W = .ok (.slice (some ⟨b, off, none⟩) (us.length - 1) cap) w' ∧ LE.Mine w' B (.slice (some ⟨b, off, none⟩) (us.length - 1) cap) (us.drop 1) ∧ W.grownBy w' (some b)) := Lib.hid (fun W ty (hg : Below w.heap.size w W) => by
  have := (hm0.below hg).putIn knE ty 23 (ys := us.drop 1) _ (us.length - 1) hl1 ((hm1.below hg).srcN knE hl1) (by simp; omega)
  simp only [List.length_nil, Nat.zero_add, List.nil_append] at this
  exact this)
 have HO := Lib.hid h1
 clear hm0 hm1 e4 e5 e6 e1 e2 h
 generalize hv3 : sliced (some ⟨b, off, none⟩) 0 1 us.length LE.c = v3 at hs3
 go_enter Tryz.func74, Tryz.ntmps74
 go_upto_region 5 with (fail)
 clear hs3 hv3
 refine wp_region_held_drew (S := fun W => w.grownBy W (some b)) (by kernel_rfl) (grown_drew w _) (fun hHeld => ?_)
 have HB := Lib.hid (below_drew w)
 generalize w.drew = wd at HB hHeld ⊢
 refine wpAnyH_take (i := 0) (oi := ⟨some 20, _, _, _, _, _⟩) (v := ?vd0) rfl (by kernel_rfl) (by kernel_rfl) (by kernel_rfl) (fun _ _ _ h => h) (Or.inl ⟨by rfl, ?yd0⟩) hHeld ?rd0
 case yd0 =>
  intro wx hSx
  go_simp
  try with_reducible rfl
 try simp only [actS]
 refine wpAnyH_take (i := 1) (oi := ⟨some 21, _, _, _, _, _⟩) (v := ?vd1) rfl (by kernel_rfl) (by kernel_rfl) (by kernel_rfl) (fun _ _ _ h => h) (Or.inl ⟨by rfl, ?yd1⟩) hHeld ?rd1
 case yd1 =>
  intro wx hSx
  go_simp
  try with_reducible rfl
 try simp only [actS]
 refine wpAnyH_take (i := 2) (oi := ⟨some 22, _, _, _, _, _⟩) (v := ?vd2) rfl (by kernel_rfl) (by kernel_rfl) (by kernel_rfl) (fun _ _ _ h => h) (Or.inl ⟨by rfl, ?yd2⟩) hHeld ?rd2
 case yd2 =>
  intro wx hSx
  go_simp
  try with_reducible rfl
 try simp only [actS]
 refine wpAnyH_take (i := 3) (oi := ⟨some 23, _, _, _, _, _⟩) (v := ?vd3) rfl (by kernel_rfl) (by kernel_rfl) (by kernel_rfl) (fun _ _ _ h => h) (Or.inl ⟨by rfl, ?yd3⟩) hHeld ?rd3
 case yd3 =>
  intro wx hSx
  go_simp
  try with_reducible rfl
 try simp only [actS]
 refine wpAnyH_take (i := 4) (oi := ⟨some 24, _, _, _, _, _⟩) (v := ?vd4) rfl (by kernel_rfl) (by kernel_rfl) (by kernel_rfl) (fun _ _ _ h => h) (Or.inl ⟨by rfl, ?yd4⟩) hHeld ?rd4
 case yd4 =>
  intro wx hSx
  go_simp
  try with_reducible rfl
 try simp only [actS]
 refine wpAnyH_take (i := 5) (oi := ⟨some 25, _, _, _, _, _⟩) (v := ?vd5) rfl (by kernel_rfl) (by kernel_rfl) (by kernel_rfl) (fun _ _ _ h => h) (Or.inl ⟨by rfl, ?yd5⟩) hHeld ?rd5
 case yd5 =>
  intro wx hSx
  go_simp
  try with_reducible rfl
 try simp only [actS]
 refine wpAnyH_ready (rs := [6]) (by kernel_rfl) (by simp) ?_
 refine AllReadyH.cons (o := ⟨some 26, _, _, _, _, _⟩) rfl (fun K hK => ?_) AllReadyH.nil
 obtain ⟨w6, hr6, hm6, hg6⟩ := HP.out wd 23 HB.out
 rw [if_pos (by rfl)]
 refine wp_append (.tmp 22) (.tmp 25) rfl rfl rfl hr6 ?_
 have hH := grown_trans hHeld hg6
 have HM6 := Lib.hid hm6
 refine hK.out _ _ hH (fun hHeld => ?_)
 clear hK K hH hr6 hm6 hg6
 try simp only [actS]
 refine wpAnyH_take (i := 7) (oi := ⟨some 0, _, _, _, _, _⟩) (v := ?vd7) rfl (by kernel_rfl) (by kernel_rfl) (by kernel_rfl) (fun _ _ _ h => h) (Or.inl ⟨by rfl, ?yd7⟩) hHeld ?rd7
 case yd7 =>
  intro wx hSx
  go_simp
  try with_reducible rfl
 try simp only [actS]
 refine wpAnyH_done (by kernel_rfl) ?_ _
 have hM := HM6.out
 have hG := hHeld
 obtain ⟨vs, hvs⟩ : ∃ vs, (Builtin.zeroCells zeroE.val.cells 1).toList = vs := ⟨_, rfl⟩
 have hvl : vs.length = 11 := by rw [← hvs, Array.length_toList, size_zeroCells]; rfl
 have hcap : cap * LE.c = cap * 11 := rfl
 obtain ⟨hmb, hth⟩ := hM.beyondE vs (off + (us.length - 1) * 11) (by rw [hl1, show LE.c = 11 from rfl]; exact Nat.le_refl _) (by rw [hvl, hcap]; omega)
 have hcl2 : ∀ ty, (Builtin.clear_ #[23] ty #[.slice (some ⟨b, off + (us.length - 1) * 11, none⟩) 1 (cap - (us.length - 1))]).run Tryz.prog w6 = .ok (.tuple #[]) (w6.setCells b (off + (us.length - 1) * 11) vs) := fun ty =>
  run_clear_many w6 _ 43 ty zeroE.val Tryz.underlying23 zeroIsE vs b (off + (us.length - 1) * 11) _ _ hvs (fun v hv => by
   rw [← hvs] at hv
   have := zeroCells_mem hv
   simp only [zeroE, Edu.val, Value.cells, List.mem_cons, List.not_mem_nil, or_false] at this
   rcases this with rfl | rfl | rfl | rfl | rfl | rfl | rfl | rfl | rfl | rfl | rfl <;> rfl) (by omega) (fun j hj => (hth j hj).1) (fun j hj => (hth j hj).2)
 have HM9 := Lib.hid hmb
 have HG9 := Lib.hid (grown_trans hG (sm_grown w6 b (off + (us.length - 1) * 11) vs))
 generalize w6.setCells b (off + (us.length - 1) * 11) vs = w9 at hcl2 HM9 HG9
 clear hM hG hth hmb hvl hcap hvs HM6 hHeld hsh hsl HP
 have HL := Lib.hid hl1
 clear hl1
 go_wp2_with fail
 go_ret
 exact ⟨by rw [HL.out]; rfl, by rw [HL.out]; exact HM9.out, HG9.out⟩
end Go.Proofs.YtnnapkakbdpkaaaGreat
