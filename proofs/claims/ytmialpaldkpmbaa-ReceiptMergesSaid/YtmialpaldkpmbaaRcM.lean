/-
  Marks in memory: how the document's and the code's lie; keys as a map reads them; a table of the code: its struct, its map.
-/
import Derived.Test.YtmialpaldkpmbaaRcP
import Derived.DeepKeys4
namespace Go.Proofs.Ytmialpaldkpmbaa
set_option maxRecDepth 20000
open Go.RowKit Go.Maps Go.ChangeMaps
set_option linter.unusedVariables false
set_option linter.unusedSimpArgs false

def Rk.cells (k : Rk) : List Value := [.string k.room, .string k.user, .string k.thread, .bool k.priv]
def Mk.cells (m : Mk) : List Value := [.string m.k.room, .string m.k.user, .string m.k.thread, .bool m.k.priv, .int .i64 m.po.depth, .string m.po.id]
def Rk.val (k : Rk) : Value := .agg #[.string k.room, .string k.user, .string k.thread, .bool k.priv]
def Mk.val (m : Mk) : Value := .agg #[.string m.k.room, .string m.k.user, .string m.k.thread, .bool m.k.priv, .int .i64 m.po.depth, .string m.po.id]
theorem cells_one (m : Mk) : ∀ u ∈ m.cells, u.oneCell' = true := fun u hu => by
  unfold Mk.cells at hu
  simp only [List.mem_cons, List.not_mem_nil, or_false] at hu
  rcases hu with rfl | rfl | rfl | rfl | rfl | rfl <;> rfl
/-- How the document's marks lie; the code's; the document's keys. -/
def LM : Lies Mk := ⟨38, 6, Mk.cells, fun _ => rfl, cells_one⟩
def LR : Lies Mk := ⟨60, 6, Mk.cells, fun _ => rfl, cells_one⟩
def LK : Lies Rk := ⟨34, 4, Rk.cells, fun _ => rfl, fun k u hu => by
  unfold Rk.cells at hu
  simp only [List.mem_cons, List.not_mem_nil, or_false] at hu
  rcases hu with rfl | rfl | rfl | rfl <;> rfl⟩
def zeroM : Value := .agg #[.string ⟨#[]⟩, .string ⟨#[]⟩, .string ⟨#[]⟩, .bool false, .int .i64 0, .string ⟨#[]⟩]
def zeroP : Value := .agg #[.int .i64 0, .string ⟨#[]⟩]
theorem knM : Kn Try.prog LM 22 zeroM 80 := ⟨Try.underlying22, by kernel_rfl, rfl, by decide⟩
theorem knR : Kn Try.prog LR 27 zeroM 80 := ⟨Try.underlying27, by kernel_rfl, rfl, by decide⟩
theorem knK : Kn Try.prog LK 40 (.agg #[.string ⟨#[]⟩, .string ⟨#[]⟩, .string ⟨#[]⟩, .bool false]) 56 := ⟨Try.underlying40, by kernel_rfl, rfl, by decide⟩
/-- A mark's six cells. -/
theorem range6 {w : World} {b o : Nat} {m : Mk} (h : w.rangeAt b o m.cells) : w.cell? ⟨b, o, none⟩ = some (.string m.k.room) ∧ w.cell? ⟨b, o + 1, none⟩ = some (.string m.k.user) ∧ w.cell? ⟨b, o + 2, none⟩ = some (.string m.k.thread) ∧ w.cell? ⟨b, o + 3, none⟩ = some (.bool m.k.priv) ∧ w.cell? ⟨b, o + 4, none⟩ = some (.int .i64 m.po.depth) ∧ w.cell? ⟨b, o + 5, none⟩ = some (.string m.po.id) :=
  ⟨h 0 _ rfl, h 1 _ rfl, h 2 _ rfl, h 3 _ rfl, h 4 _ rfl, h 5 _ rfl⟩

/-! ### Keys of the map -/
theorem laidOut : laidOutB Try.prog = true := by kernel_rfl
theorem keyedK : Maps.Keyed Try.prog 43 := Maps.Keyed.of_law (deep_law_laid laidOut (m := 2) (by omega) (of_decide_eq_true (by kernel_rfl)) (by kernel_rfl) (by kernel_rfl))
/-- A key as the map reads it. -/
def kk (k : Rk) : Lit := .string (keyBytes [.string k.room.data.toList, .string k.user.data.toList, .string k.thread.data.toList, .bool k.priv])
theorem kk_key (k : Rk) : WideAt.IsKeyLit (kk k) := by simp [kk, WideAt.IsKeyLit]
theorem typesK : Try.prog.types.size + 1 = (Try.prog.types.size - 1) + 1 + 1 := by
  have : 0 < Try.prog.types.size := of_decide_eq_true (by kernel_rfl)
  omega
theorem keyIsK {k : Rk} (h : k.ok) : keyOf Try.prog 43 k.val = some (kk k) := by
  obtain ⟨h1, h2, h3⟩ := h
  have g1 : k.room.size ≤ maxLen := Nat.le_trans h1 (by decide)
  have g2 : k.user.size ≤ maxLen := Nat.le_trans h2 (by decide)
  have g3 : k.thread.size ≤ maxLen := Nat.le_trans h3 (by decide)
  have e1 : Try.prog.keyType 43 = true := by kernel_rfl
  have e2 : Try.prog.cellsOf 43 = 4 := by kernel_rfl
  have e3 : Try.prog.cellsOf 9 = 1 := by kernel_rfl
  have e4 : Try.prog.cellsOf 4 = 1 := by kernel_rfl
  have e5 : ∀ (x : ByteArray) (d : Nat), x.size ≤ maxLen → Try.prog.keyLits (d + 1) 9 [.string x] = some [.string x.data.toList] := fun x d hx => by simp [Program.keyLits, Try.underlying9, hx]
  have e6 : ∀ (x : Bool) (d : Nat), Try.prog.keyLits (d + 1) 4 [.bool x] = some [.bool x] := fun x d => by simp [Program.keyLits, Try.underlying4]
  unfold keyOf
  rw [Try.underlying43]
  simp only [e1, Rk.val, Value.formed, Try.underlying43, e2, Value.cells]
  rw [typesK]
  generalize Try.prog.types.size - 1 = n
  unfold Program.keyLits
  simp [Try.underlying43, e2, e3, e4, e5 _ _ g1, e5 _ _ g2, e5 _ _ g3, e6, kk]
theorem kk_inj {a b : Rk} (ha : a.ok) (hb : b.ok) (h : kk a = kk b) : a = b := by
  have h1 := keyIsK ha
  have h2 := keyIsK hb
  rw [← h] at h2
  have := keyedK.inj h1 h2
  unfold Rk.val at this
  injection this with this
  simp only [Array.mk.injEq, List.cons.injEq, Value.string.injEq, Value.bool.injEq, and_true] at this
  obtain ⟨e1, e2, e3, e4⟩ := this
  cases a; cases b
  simp_all
theorem key_isK {k : Rk} {v : Value} (h : k.ok) (hv : keyOf Try.prog 43 v = some (kk k)) : v = k.val := keyedK.inj hv (keyIsK h)
abbrev OwnK (w : World) (mb n : Nat) (D : Dv) : Prop := w.ownsMap Try.prog 43 heldR mb n D
theorem OwnK.keep {w w' : World} {mb n : Nat} {D : Dv} (h : OwnK w mb n D) (hb : w'.heap[mb]? = w.heap[mb]?) : OwnK w' mb n D := by
  obtain ⟨xs, clock, hb', h'⟩ := h
  exact ⟨xs, clock, hb.trans hb', h'⟩
theorem OwnK.lt {w : World} {mb n : Nat} {D : Dv} (h : OwnK w mb n D) : mb < w.heap.size := World.ownsMap.lt h
theorem OwnK.tight {w : World} {mb n : Nat} {D : Dv} (h : OwnK w mb n D) : OwnK w mb (Maps.size D) D := by
  obtain ⟨es, clock, hb, F, hs, rfl⟩ := h
  exact ⟨es, clock, hb, F, by simp [Maps.size, length_sorted], rfl⟩
theorem zeroIsP (w : World) : (zeroValue 36).run Try.prog w = .ok zeroP w := by kernel_rfl
def Mk.entry (m : Mk) : Lit × Dv := (kk m.k, .held m.po.val)
/-- The map says: these marks. -/
def MdM (D : Dv) (l : List Mk) : Prop := ∃ es, D = .map es ∧ es.Perm (l.map Mk.entry)
theorem MdM.nil : MdM (.map []) [] := ⟨[], rfl, List.Perm.refl _⟩
theorem MdM.size {D : Dv} {l : List Mk} (h : MdM D l) : Maps.size D = l.length := by
  obtain ⟨es, rfl, hp⟩ := h
  rw [Maps.size_eq, hp.length_eq, List.length_map]
theorem md_apart {l : List Mk} {es : List (Lit × Dv)} (hp : es.Perm (l.map Mk.entry)) (hr : RowM l) (ho : ∀ m ∈ l, m.k.ok) : es.Pairwise (fun p q => p.1 ≠ q.1) := by
  have h1 : (l.map Mk.entry).Pairwise (fun p q => p.1 ≠ q.1) := by
    rw [List.pairwise_map]
    exact List.Pairwise.imp_of_mem (fun ha hb h e => bk_ne h (kk_inj (ho _ ha) (ho _ hb) e)) hr
  exact (hp.pairwise_iff (fun h e => h e.symm)).2 h1
theorem MdM.has {D : Dv} {l : List Mk} (h : MdM D l) (ho : ∀ m ∈ l, m.k.ok) {k : Rk} (hk : k.ok) : Maps.has D (kk k) = (getM l k).isSome := by
  obtain ⟨es, rfl, hp⟩ := h
  rw [Bool.eq_iff_iff, Maps.has_eq, List.any_eq_true]
  constructor
  · rintro ⟨p, hm, he⟩
    obtain ⟨m, hmm, rfl⟩ := List.mem_map.1 (hp.mem_iff.1 hm)
    have := kk_inj (ho m hmm) hk (WideAt.sameKey_eq he)
    cases hg : getM l k with
    | none => exact absurd this (getM_none.1 hg m hmm)
    | some q => rfl
  · intro hs
    obtain ⟨q, hq⟩ := Option.isSome_iff_exists.1 hs
    exact ⟨Mk.entry ⟨k, q⟩, hp.mem_iff.2 (List.mem_map.2 ⟨_, getM_mem hq, rfl⟩), WideAt.sameKey_self (kk_key _)⟩
theorem MdM.at_ {D : Dv} {l : List Mk} (h : MdM D l) (hr : RowM l) (ho : ∀ m ∈ l, m.k.ok) {m : Mk} (hm : m ∈ l) (zd : Dv) : D.atKey (kk m.k) zd = .held m.po.val := by
  obtain ⟨es, rfl, hp⟩ := h
  exact WideAt.atKey_mem zd (kk_key _) (md_apart hp hr ho) (hp.mem_iff.2 (List.mem_map.2 ⟨m, hm, rfl⟩))
theorem MdM.get {D : Dv} {l : List Mk} (h : MdM D l) (hr : RowM l) (ho : ∀ m ∈ l, m.k.ok) {k : Rk} (hk : k.ok) (zd : Dv) : D.atKey (kk k) zd = match getM l k with
    | none => zd
    | some p => .held p.val := by
  cases hg : getM l k with
  | some p => exact h.at_ hr ho (getM_mem hg) zd
  | none =>
    obtain ⟨es, rfl, hp⟩ := h
    refine WideAt.atKey_none zd (fun p hm => ?_)
    obtain ⟨m, hmm, rfl⟩ := List.mem_map.1 (hp.mem_iff.1 hm)
    exact fun e => absurd (kk_inj (ho m hmm) hk e) (getM_none.1 hg m hmm)
theorem MdM.put {D : Dv} {l : List Mk} (h : MdM D l) (hr : RowM l) (ho : ∀ m ∈ l, m.k.ok) {x : Mk} (hx : x.k.ok) (hon : onM l x = true) : MdM (D.put (kk x.k) (.held x.po.val)) (putM l x) := by
  obtain ⟨es, rfl, hp⟩ := h
  refine ⟨_, DataW.put_eq _ _ _, ?_⟩
  unfold putKey
  refine (WideShapes.insert_perm _ _).trans ?_
  refine List.Perm.trans ?_ ((put_permM hr hon).map Mk.entry).symm
  rw [List.map_cons]
  refine List.Perm.cons _ ?_
  have h2 := (hp.filter (notKey (kk x.k)))
  refine h2.trans (List.Perm.of_eq ?_)
  rw [List.filter_map]
  congr 1
  apply List.filter_congr
  intro z hz
  simp only [Function.comp_apply, Mk.entry, notKey]
  congr 1
  rw [Bool.eq_iff_iff, decide_eq_true_eq]
  exact ⟨fun e => kk_inj (ho z hz) hx (WideAt.sameKey_eq e), fun e => by rw [e]; exact WideAt.sameKey_self (kk_key _)⟩

/-! ### A table -/
/-- A table: its struct, its map, its marks. -/
structure RI where
  g : Nat
  mb : Nat
  l : List Mk
  D : Dv
def RI.own (r : RI) (k : Nat) : Prop := k = r.g ∨ k = r.mb
structure CRs (w : World) (r : RI) : Prop where
  hd : w.heap[r.g]? = some (.cells #[.map (some r.mb)] 63 (0, 0))
  map : OwnK w r.mb r.l.length r.D
  is : MdM r.D r.l
  row : RowM r.l
  ok : ∀ m ∈ r.l, m.ok
section
variable {w w' : World} {r r' : RI}
theorem CRs.okk (h : CRs w r) : ∀ m ∈ r.l, m.k.ok := fun m hm => (h.ok m hm).1
theorem CRs.old (h : CRs w r) {k : Nat} (ho : r.own k) : k < w.heap.size := by
  rcases ho with rfl | rfl
  · exact smem_lt h.hd
  · exact h.map.lt
theorem CRs.keep (h : CRs w r) (hb : ∀ k, r.own k → w'.heap[k]? = w.heap[k]?) : CRs w' r :=
  ⟨(hb r.g (.inl rfl)).trans h.hd, h.map.keep (hb r.mb (.inr rfl)), h.is, h.row, h.ok⟩
theorem CRs.below (h : CRs w r) (hb : Below w.heap.size w w') : CRs w' r := h.keep (fun k hk => hb.block k (h.old hk))
theorem CRs.gm (h : CRs w r) : r.g ≠ r.mb := fun e => by
  obtain ⟨xs, clock, hb, _⟩ := h.map
  rw [← e, h.hd] at hb
  cases hb
theorem CRs.len (h : CRs w r) : Maps.size r.D = r.l.length := h.is.size
end
/-- A table, as a thing that lies in memory. -/
def Th.tab (r : RI) : Th := ⟨r.own, fun w => CRs w r, fun w k h hk => h.old hk, fun w w' h hs hb => h.keep (fun k hk => hb k (h.old hk) hk)⟩
/-- What is kept: tables of the code, each with its own blocks, and things beside them. -/
structure Kt (w wr : World) (rs : List RI) (ts : List Th) : Prop where
  below : Below w.heap.size w wr
  tb : ∀ (i : Nat) r, rs[i]? = some r → CRs wr r ∧ ∀ k, r.own k → w.heap.size ≤ k
  off : ∀ (i j : Nat) r r', rs[i]? = some r → rs[j]? = some r' → i ≠ j → ∀ k, r.own k → ¬ r'.own k
  th : ∀ t ∈ ts, t.I wr ∧ ∀ (i : Nat) r, rs[i]? = some r → ∀ k, t.P k → ¬ r.own k
section
variable {w w' wr : World} {rs : List RI} {ts ts' : List Th} {r r' : RI} {i : Nat} {t : Th}
theorem Kt.start (w : World) : Kt w w [] [] := ⟨Below.refl _ _, fun i v h => (by simp at h), fun i j v v' h => (by simp at h), fun t h => (by cases h)⟩
theorem Kt.is (h : Kt w wr rs ts) (ht : t ∈ ts) : t.I wr := (h.th t ht).1
theorem Kt.ct (h : Kt w wr rs ts) (hi : rs[i]? = some r) : CRs wr r := (h.tb i r hi).1
/-- One table turns, all else stays. -/
theorem Kt.turn (h : Kt w wr rs ts) (hi : rs[i]? = some r) (hc : CRs w' r') (ht : TurnP r.own wr w') (ho : r'.g = r.g ∧ r'.mb = r.mb) : Kt w w' (rs.set i r') ts := by
  obtain ⟨hcv, hlo⟩ := h.tb i r hi
  have hsz := h.below.size
  have hown : ∀ k, r'.own k → r.own k := fun k hk => by
    unfold RI.own at *
    rw [ho.1, ho.2] at hk
    exact hk
  have hoth : ∀ (j : Nat) u, rs[j]? = some u → j ≠ i → CRs w' u := fun j u hu hj => (h.ct hu).keep (fun k hk => ht.block k ((h.ct hu).old hk) (h.off j i u r hu hi hj k hk))
  refine ⟨h.below.trans (ht.below hlo hsz), fun j u hu => ?_, fun j k' u u' hu hu' hne k k1 k2 => ?_, fun t htm => ⟨?_, fun j u hu k hk hown' => ?_⟩⟩
  · rw [List.getElem?_set] at hu
    split at hu
    · split at hu
      · injection hu with hu
        subst hu
        exact ⟨hc, fun k hk => hlo k (hown k hk)⟩
      · cases hu
    · rename_i hne
      exact ⟨hoth j u hu (fun e => hne e.symm), (h.tb j u hu).2⟩
  · have hcase : ∀ (j : Nat) u, (rs.set i r')[j]? = some u → ∃ u0, rs[j]? = some u0 ∧ ∀ k, u.own k → u0.own k := fun j u hu => by
      rw [List.getElem?_set] at hu
      split at hu
      · rename_i e
        split at hu
        · injection hu with hu
          subst hu
          exact ⟨r, by rw [← e]; exact hi, hown⟩
        · cases hu
      · exact ⟨u, hu, fun _ hk => hk⟩
    obtain ⟨a, ha, ha'⟩ := hcase j u hu
    obtain ⟨b, hb, hb'⟩ := hcase k' u' hu'
    exact h.off j k' a b ha hb hne k (ha' k k1) (hb' k k2)
  · exact t.st wr w' (h.is htm) ht.size (fun k hk hp => ht.block k hk ((h.th t htm).2 i r hi k hp))
  · rw [List.getElem?_set] at hu
    split at hu
    · split at hu
      · injection hu with hu
        subst hu
        exact (h.th t htm).2 i r hi k hk (hown k hown')
      · cases hu
    · exact (h.th t htm).2 j u hu k hk hown'
theorem Kt.less (h : Kt w wr rs ts) (hs : ∀ t ∈ ts', t ∈ ts) : Kt w wr rs ts' := ⟨h.below, h.tb, h.off, fun t ht => h.th t (hs t ht)⟩
theorem Kt.later (h : Kt w wr rs ts) (hb : Below wr.heap.size wr w') : Kt w w' rs ts :=
  ⟨h.below.trans (hb.mono h.below.size), fun j u hu => ⟨(h.ct hu).below hb, (h.tb j u hu).2⟩, h.off, fun t ht => ⟨t.st wr w' (h.is ht) hb.size (fun k hk _ => hb.block k hk), (h.th t ht).2⟩⟩
/-- What is new, or lies in what is kept, is kept too. -/
theorem Kt.add (h : Kt w wr rs ts) (hb : Below wr.heap.size wr w') (hI : t.I w') (hP : ∀ k, t.P k → wr.heap.size ≤ k ∨ ∃ u ∈ ts, u.P k) : Kt w w' rs (t :: ts) := by
  have h' := h.later hb
  refine ⟨h'.below, h'.tb, h'.off, fun u hu => ?_⟩
  rcases List.mem_cons.1 hu with rfl | hu
  · refine ⟨hI, fun j x hx k hk ho => ?_⟩
    rcases hP k hk with hh | ⟨u, hu, hh⟩
    · have := (h.ct hx).old ho
      omega
    · exact (h'.th u hu).2 j x hx k hh ho
  · exact h'.th u hu
theorem Kt.with (h : Kt w wr rs ts) (hI : t.I wr) (hP : ∀ k, t.P k → ∀ (j : Nat) u, rs[j]? = some u → ¬ u.own k) : Kt w wr rs (t :: ts) :=
  ⟨h.below, h.tb, h.off, fun u hu => by
    rcases List.mem_cons.1 hu with rfl | hu
    · exact ⟨hI, fun j x hx k hk => hP k hk j x hx⟩
    · exact h.th u hu⟩
/-- What was there at the start lies in no table. -/
theorem Kt.with0 (h : Kt w wr rs ts) (hI : t.I w) : Kt w wr rs (t :: ts) :=
  h.with (t.st w wr hI h.below.size (fun k hk _ => h.below.block k hk)) (fun k hk j u hu ho => by
    have h1 := t.lt w k hI hk
    have h2 := (h.tb j u hu).2 k ho
    omega)
/-- A thing of one's own is written. -/
theorem Kt.put {row : Option Nat} {t' : Th} (h : Kt w wr rs (t :: ts)) (hg : wr.grownBy w' row) (hr : ∀ k, row = some k → t.P k ∧ w.heap.size ≤ k ∧ ∀ u ∈ ts, ¬ u.P k) (hI : t'.I w') (hP : ∀ k, t'.P k → t.P k ∨ wr.heap.size ≤ k) : Kt w w' rs (t' :: ts) := by
  have hne : ∀ (j : Nat) u, rs[j]? = some u → ∀ k, u.own k → some k ≠ row := fun j u hu k hk e => (h.th t List.mem_cons_self).2 j u hu k (hr k e.symm).1 hk
  have hk : ∀ (j : Nat) u, rs[j]? = some u → CRs w' u := fun j u hu => (h.ct hu).keep (fun k hk => hg.block k ((h.ct hu).old hk) (hne j u hu k hk))
  refine ⟨h.below.grown hg h.below.size (fun k hk => (hr k hk).2.1), fun j u hu => ⟨hk j u hu, (h.tb j u hu).2⟩, h.off, fun u hu => ?_⟩
  rcases List.mem_cons.1 hu with rfl | hu
  · refine ⟨hI, fun j x hx k hkP ho => ?_⟩
    rcases hP k hkP with hh | hh
    · exact (h.th t List.mem_cons_self).2 j x hx k hh ho
    · have := (h.ct hx).old ho; omega
  · have hu' := List.mem_cons_of_mem t hu
    exact ⟨u.st wr w' (h.is hu') hg.size (fun k hk hp => hg.block k hk (fun e => (hr k e.symm).2.2 u hu hp)), (h.th u hu').2⟩
theorem Kt.swap {a b : Th} (h : Kt w wr rs (a :: b :: ts)) : Kt w wr rs (b :: a :: ts) := h.less (fun t ht => by
  rcases List.mem_cons.1 ht with rfl | ht
  · exact List.mem_cons_of_mem _ List.mem_cons_self
  · rcases List.mem_cons.1 ht with rfl | ht
    · exact List.mem_cons_self
    · exact List.mem_cons_of_mem _ (List.mem_cons_of_mem _ ht))
/-- A table has been made. -/
theorem Kt.made (h : Kt w wr rs ts) (hb : Below wr.heap.size wr w') (hc : CRs w' r) (ho : ∀ k, r.own k → wr.heap.size ≤ k) : Kt w w' (rs ++ [r]) ts := by
  have h' := h.later hb
  have hcase : ∀ (j : Nat) u, (rs ++ [r])[j]? = some u → (rs[j]? = some u ∧ j < rs.length) ∨ (j = rs.length ∧ u = r) := fun j u hu => by
    by_cases hj : j < rs.length
    · rw [List.getElem?_append_left hj] at hu
      exact .inl ⟨hu, hj⟩
    · have hl := (List.getElem?_eq_some_iff.1 hu).1
      simp only [List.length_append, List.length_cons, List.length_nil] at hl
      obtain rfl : j = rs.length := by omega
      simp only [List.getElem?_concat_length, Option.some.injEq] at hu
      exact .inr ⟨rfl, hu.symm⟩
  refine ⟨h'.below, fun j u hu => ?_, fun j j' u u' hu hu' hne k k1 k2 => ?_, fun t ht => ⟨h'.is ht, fun j u hu k hp hown => ?_⟩⟩
  · rcases hcase j u hu with ⟨hu, -⟩ | ⟨-, rfl⟩
    · exact h'.tb j u hu
    · exact ⟨hc, fun k hk => Nat.le_trans h.below.size (ho k hk)⟩
  · rcases hcase j u hu with ⟨hu0, -⟩ | ⟨rfl, rfl⟩
    · rcases hcase j' u' hu' with ⟨hu', -⟩ | ⟨rfl, rfl⟩
      · exact h'.off j j' u u' hu0 hu' hne k k1 k2
      · have := (h.ct hu0).old k1
        have := ho k k2
        omega
    · rcases hcase j' u' hu' with ⟨hu', -⟩ | ⟨rfl, rfl⟩
      · have := (h.ct hu').old k2
        have := ho k k1
        omega
      · exact hne rfl
  · rcases hcase j u hu with ⟨hu, -⟩ | ⟨rfl, rfl⟩
    · exact (h'.th t ht).2 j u hu k hp hown
    · have := t.lt wr k (h.is ht) hp
      have := ho k hown
      omega
end
end Go.Proofs.Ytmialpaldkpmbaa
