/-
  The heap of the code, told short; New, Len, At, Drop, First, Clear.
-/
import Derived.Test.YtkbmkbmbkmeenaaHpOwn
import Derived.Test.YtkbmkbmbkmeenaaHeapC
namespace Go.Proofs.Ytkbmkbmbkmeenaa
set_option maxRecDepth 20000
open Go.RowKit
set_option linter.unusedVariables false
set_option linter.unusedSimpArgs false
variable {w w' : World} {g mb : Nat} {v v' : Value} {es es' l : List Ent} {D D' : Dm}

/-- A heap in block g, with these entries in their row. -/
structure HpS (w : World) (g : Nat) (v : Value) (mb : Nat) (es : List Ent) (D : Dm) (l : List Ent) : Prop where
  st : HSt w g v mb es D
  perm : es.Perm l
  row : RowL l
  ok : ∀ x ∈ l, x.ok
  pl : Pl D es
  heap : HeapE es
def CHc (w : World) (g : Nat) (l : List Ent) : Prop := ∃ v mb es D, HpS w g v mb es D l
def ownC (w : World) (g k : Nat) : Prop := ∃ v mb, w.heap[g]? = some (.cells #[v, .map (some mb)] 60 (0, 0)) ∧ own3 g v mb k
theorem HSt.own (h : HSt w g v mb es D) (k : Nat) : ownC w g k ↔ own3 g v mb k := by
  constructor
  · rintro ⟨v', mb', h1, h2⟩
    rw [h.hd] at h1
    injection h1 with h1
    injection h1 with h1
    injection h1 with h1
    injection h1 with e1 h1
    injection h1 with h1
    injection h1 with h1
    injection h1 with e2
    subst e1 e2
    exact h2
  · intro h2
    exact ⟨v, mb, h.hd, h2⟩
theorem HpS.len (h : HpS w g v mb es D l) : es.length = l.length := h.perm.length_eq
theorem HpS.keys (h : HpS w g v mb es D l) : KeysE es := perm_keys h.perm h.row
theorem HpS.oks (h : HpS w g v mb es D l) : ∀ x ∈ es, x.key.size ≤ maxLen := fun x hx => Nat.le_trans (h.ok x (h.perm.mem_iff.1 hx)).1 (by unfold maxLen; omega)
theorem HpS.below (h : HpS w g v mb es D l) (hb : Below w.heap.size w w') : HpS w' g v mb es D l := ⟨h.st.below hb, h.perm, h.row, h.ok, h.pl, h.heap⟩
theorem turnC (h : HSt w g v mb es D) (h' : HSt w' g v' mb es' D') (ht : Turns (own3 g v mb) w w') (hv : ∀ k, v'.ownBlock = some k → v.ownBlock = some k ∨ w.heap.size ≤ k) : TurnC ownC w w' g :=
  ⟨ht.os, ht.tape, ht.output, ht.size, fun k hk hn => ht.block k hk (fun e => hn ((h.own k).2 e)), fun k hk => by
    rcases (h'.own k).1 hk with e | e | e
    · exact .inl ((h.own k).2 (.inl e))
    · rcases hv k e with e | e
      · exact .inl ((h.own k).2 (.inr (.inl e)))
      · exact .inr e
    · exact .inl ((h.own k).2 (.inr (.inr e)))⟩
theorem turnC_same (h : HSt w g v mb es D) (h' : HSt w' g v' mb es' D') (ht : Turns (own3 g v mb) w w') (hv : v'.ownBlock = v.ownBlock) : TurnC ownC w w' g := turnC h h' ht (fun k hk => .inl (by rw [← hv]; exact hk))
theorem turnC_below (h : HSt w g v mb es D) (hb : Below w.heap.size w w') : TurnC ownC w w' g := turnC_same h (h.below hb) (Turns.below hb) rfl

/-- A key is looked up. -/
theorem HpS.look (h : HpS w g v mb es D l) (k : ByteArray) (hk : k.size ≤ maxLen) : (∃ c : Int, (Instr.lookup 58 (.map (some mb)) (.string k) true).run Try.prog w = .ok (.tuple #[.int .i64 c, .bool false]) w ∧ ∀ i, i < es.length → (nth es i).key ≠ k) ∨ ∃ i, i < es.length ∧ (nth es i).key = k ∧ (Instr.lookup 58 (.map (some mb)) (.string k) true).run Try.prog w = .ok (.tuple #[.int .i64 (i : Int), .bool true]) w := by
  obtain ⟨u, ps, hr, hu⟩ := h.st.map.look_ok keyed Try.underlying58 (zeroI w) (plainElem_int Try.underlying3 (by decide)) (keyIs hk)
  obtain ⟨c, rfl, hc, hw⟩ := plainElem_int_inv Try.underlying3 hu
  rcases h.pl.ask k with ⟨h1, h2⟩ | ⟨h1, i, hi, he, ha⟩
  · rw [h1] at hr
    exact .inl ⟨c, hr, h2⟩
  · rw [h1] at hr
    refine .inr ⟨i, hi, he, ?_⟩
    have hc2 := congrArg Prod.fst hc
    simp only at hc2
    rw [show (DataW.lit (Lit.int IntKind.i64 0) : Dm) = zeroD from rfl, ha] at hc2
    unfold numD at hc2
    injection hc2 with hc2
    injection hc2 with _ hc2
    rw [hc2]
    exact hr

theorem new_any (w : World) : Calls Try.prog 8 #[] w fun e w' => ∃ g, e = .returned (.pointer (some ⟨g, 0, none⟩)) ∧ CHc w' g [] ∧ Below w.heap.size w w' ∧ ∀ k, ownC w' g k → w.heap.size ≤ k := by
  have hmm := @run_makeMap Try.prog
  go_enter Try.func8, Try.ntmps8
  go_wp2_with fail
  go_ret
  have h0 := World.ownsMap_made (H := Unit) w Try.prog 9 (plainElem Try.prog 3)
  have h1 : HSt ((w.alloc (.map #[] 0)).alloc (.cells #[.slice none 0 0, .map (some w.heap.size)] 60)) (w.heap.size + 1) (.slice none 0 0) w.heap.size [] (.map []) := by
    refine ⟨?_, .inl ⟨rfl, rfl⟩, Own.exact (h0.alloc _)⟩
    have := heap_alloc_new (w.alloc (.map #[] 0)) (.cells #[.slice none 0 0, .map (some w.heap.size)] 60)
    rw [show (w.alloc (.map #[] 0)).heap.size = w.heap.size + 1 by simp] at this
    exact this
  refine ⟨w.heap.size + 1, rfl, ⟨_, _, _, _, h1, List.Perm.refl _, row_nil, (fun x hx => by cases hx), pl_nil, fun c _ hc => absurd hc (Nat.not_lt_zero c)⟩, ((Below.refl w.heap.size w).alloc (Nat.le_refl _) _).alloc (by simp) _, fun k hk => ?_⟩
  rcases (h1.own k).1 hk with e | e | e
  · omega
  · cases e
  · omega

theorem len_any (h : CHc w g l) (hl : l.length ≤ 100) : Calls Try.prog 15 #[.pointer (some ⟨g, 0, none⟩)] w fun e w' => e = .returned (.int .i64 (l.length : Int)) ∧ CHc w' g l ∧ TurnC ownC w w' g := by
  obtain ⟨v, mb, es, D, hs⟩ := h
  have c0 := hs.st.c0
  have hlen := hs.len
  obtain ⟨A, cap, rfl, h1, h2, h3⟩ := hs.st.row.shape
  rw [hlen] at c0
  have H := Lib.hid hs
  clear hs hlen h1 h3
  unfold maxLen at h2
  go_enter Try.func15, Try.ntmps15
  go_wp2_with fail
  go_ret
  exact ⟨rfl, ⟨_, _, _, _, H.out⟩, turnC_below H.out.st (Below.refl _ _)⟩

theorem at_any (k : ByteArray) (h : CHc w g l) (hl : l.length ≤ 100) (hk : k.size ≤ maxLen) : Calls Try.prog 19 #[.pointer (some ⟨g, 0, none⟩), .string k] w fun e w' => e = .returned (.tuple #[.int .i64 (tickL k l), .bool (hasL k l)]) ∧ CHc w' g l ∧ TurnC ownC w w' g := by
  obtain ⟨v, mb, es, D, hs⟩ := h
  have c0 := hs.st.c0
  have c1 := hs.st.c1
  have H := Lib.hid hs
  rcases hs.look k hk with ⟨c, hr, hno⟩ | ⟨i, hi, rfl, hr⟩
  · obtain ⟨e1, e2, _⟩ := ask_miss hs.perm hno
    rw [e1, e2]
    clear hs hno e1 e2
    go_enter Try.func19, Try.ntmps19
    go_wp2_with fail
    go_ret2
    exact ⟨rfl, ⟨_, _, _, _, H.out⟩, turnC_below H.out.st (Below.refl _ _)⟩
  · obtain ⟨e1, e2⟩ := ask_hit hs.perm hs.row hi
    rw [e1, e2]
    obtain ⟨b, off, cap, rfl, hc1, hc2⟩ := hs.st.slice hi
    unfold maxLen at hc2
    obtain ⟨d0, d1⟩ := hs.st.ent hi
    have hix := index_any (P := Try.prog) knC (by decide) (b := b) (off := off) (cap := cap) hi
    simp only [LC] at hix
    clear hs e1 e2
    generalize nth es i = x at *
    go_enter Try.func19, Try.ntmps19
    go_wp2_with fail
    go_ret2
    exact ⟨rfl, ⟨_, _, _, _, H.out⟩, turnC_below H.out.st (Below.refl _ _)⟩

/-- One is taken away. -/
theorem HpS.taken {x : Ent} {v2 : Value} (h : HpS w g v mb es D l) (hs : HSt w' g v2 mb es' D') (hv : v2.ownBlock = v.ownBlock) (hp : (x :: es').Perm es) (hl : Pl D' es') (hh : HeapE es') (ht : Turns (own3 g v mb) w w') : HpS w' g v2 mb es' D' (dropL x.key l) ∧ TurnC ownC w w' g :=
  ⟨⟨hs, drop_perm h.perm h.row hp, row_drop h.row, (fun y hy => h.ok y (drop_sub hy)), hl, hh⟩, turnC_same h.st hs ht hv⟩

theorem drop_any (k : ByteArray) (h : CHc w g l) (hl : l.length ≤ 100) (hk : k.size ≤ maxLen) : Calls Try.prog 21 #[.pointer (some ⟨g, 0, none⟩), .string k] w fun e w' => e = .returned (.bool (hasL k l)) ∧ CHc w' g (dropL k l) ∧ TurnC ownC w w' g := by
  obtain ⟨v, mb, es, D, hs⟩ := h
  have c1 := hs.st.c1
  have H := Lib.hid hs
  rcases hs.look k hk with ⟨c, hr, hno⟩ | ⟨i, hi, rfl, hr⟩
  · obtain ⟨e1, e2, e3⟩ := ask_miss hs.perm hno
    rw [e1, e3]
    clear hs hno e1 e2
    go_enter Try.func21, Try.ntmps21
    go_wp2_with fail
    go_ret
    exact ⟨rfl, ⟨_, _, _, _, H.out⟩, turnC_below H.out.st (Below.refl _ _)⟩
  · obtain ⟨e1, e2⟩ := ask_hit hs.perm hs.row hi
    rw [e1]
    have T := take_any hs.st hi (by have := hs.len; omega) hs.keys hs.oks hs.pl hs.heap
    clear hs e1 e2
    generalize nth es i = x at *
    go_enter Try.func21, Try.ntmps21
    go_wp2_with fail
    go_at_call 33
    refine T.mono ?_
    rintro e w1 ⟨rfl, es1, v1, D1, s1, o1, p1, l1, e1, t1⟩
    obtain ⟨r1, r2⟩ := H.out.taken s1 o1 p1 l1 e1 t1
    have R1 := Lib.hid r1
    have R2 := Lib.hid r2
    clear s1 o1 p1 l1 e1 t1 r1 r2 T c1 hr
    go_wp2_with fail
    go_ret
    exact ⟨rfl, ⟨_, _, _, _, R1.out⟩, R2.out⟩
end Go.Proofs.Ytkbmkbmbkmeenaa
