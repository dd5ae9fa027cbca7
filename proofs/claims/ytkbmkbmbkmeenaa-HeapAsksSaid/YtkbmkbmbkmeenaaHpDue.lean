/-
  The heap's Due.
-/
import Derived.Test.YtkbmkbmbkmeenaaHpPut
namespace Go.Proofs.Ytkbmkbmbkmeenaa
set_option maxRecDepth 20000
open Go.RowKit
set_option linter.unusedVariables false
set_option linter.unusedSimpArgs false
variable {w w' : World} {g mb : Nat} {v v' : Value} {es es' l : List Ent} {D D' : Dm}

def vlen : Value → Nat
  | .slice _ n _ => n
  | _ => 0
/-- A row of texts is none of the heap's blocks. -/
theorem HSt.texts {B : Nat} {u : Value} {ks : List ByteArray} (h : HSt w g v mb es D) (hm : LT.Mine w B u ks) : ∀ k, u.ownBlock = some k → ¬ ownC w g k := by
  intro k hk ho
  rcases hm with ⟨rfl, _⟩ | ⟨g', off, cap, cur, rfl, _, hh, _⟩
  · cases hk
  · simp only [Value.ownBlock, Option.some.injEq] at hk
    subst hk
    rcases (h.own _).1 ho with rfl | e | rfl
    · rw [h.hd] at hh
      injection hh with hh
      injection hh with _ hh
      exact absurd hh (by decide)
    · rcases h.row with ⟨rfl, _⟩ | ⟨g2, off2, cap2, cur2, rfl, _, hh2, _⟩
      · cases e
      · simp only [Value.ownBlock, Option.some.injEq] at e
        subst e
        rw [hh2] at hh
        injection hh with hh
        injection hh with _ hh
        exact absurd hh (by decide)
    · obtain ⟨xs, clock, hb⟩ := h.map.is
      rw [hb] at hh
      cases hh
theorem HpS.grown {row : Option Nat} (h : HpS w g v mb es D l) (hg : w.grownBy w' row) (hr : ∀ k, row = some k → ¬ ownC w g k) : HpS w' g v mb es D l :=
  ⟨h.st.keep fun k hk => hg.block k (h.st.old k hk) (fun e => hr k e.symm ((h.st.own k).2 hk)), h.perm, h.row, h.ok, h.pl, h.heap⟩
theorem field_key (x : Ent) (w : World) : (Instr.field 45 (.agg #[.int .i64 x.tick, .string x.key]) 1).run Try.prog w = .ok (.string x.key) w := by
  cases x
  kernel_rfl
/-- While what is due is told. -/
structure DueS (t : Int) (w wr : World) (g : Nat) (l : List Ent) (kv : Value) (ds rest : List Ent) : Prop where
  heap : CHc wr g rest
  turn : TurnC ownC w wr g
  keys : LT.Mine wr w.heap.size kv (ds.map Ent.key)
  due : dueL t l = ds ++ dueL t rest
  left : leftL t l = leftL t rest
  len : ds.length + rest.length = l.length
theorem TurnC.refl (w : World) (g : Nat) : TurnC ownC w w g := ⟨rfl, rfl, rfl, Nat.le_refl _, fun _ _ _ => rfl, fun _ h => .inl h⟩
theorem TurnC.trans {w'' : World} (h : TurnC ownC w w' g) (h' : TurnC ownC w' w'' g) : TurnC ownC w w'' g :=
  ⟨h'.os.trans h.os, h'.tape.trans h.tape, h'.output.trans h.output, Nat.le_trans h.size h'.size, fun k hk hn => (h'.block k (Nat.lt_of_lt_of_le hk h.size) (fun e => by rcases h.owns k e with e | e; exact hn e; omega)).trans (h.block k hk hn), fun k hk => by
    rcases h'.owns k hk with e | e
    · exact h.owns k e
    · exact .inr (Nat.le_trans h.size e)⟩
/-- A row beside the heap has grown. -/
theorem TurnC.grown {row : Option Nat} {w0 : World} (h : TurnC ownC w0 w g) (hs : HpS w g v mb es D l) (hg : w.grownBy w' row) (hr : ∀ k, row = some k → ¬ ownC w g k ∧ w0.heap.size ≤ k) : TurnC ownC w0 w' g := by
  have hs' := hs.grown hg (fun k e => (hr k e).1)
  exact ⟨hg.os.trans h.os, hg.tape.trans h.tape, hg.output.trans h.output, Nat.le_trans h.size hg.size, fun k hk hn => (hg.block k (Nat.lt_of_lt_of_le hk h.size) (fun e => by have := (hr k e.symm).2; omega)).trans (h.block k hk hn), fun k hk => h.owns k ((hs.st.own k).2 ((hs'.st.own k).1 hk))⟩

set_option maxHeartbeats 800000 in
theorem due_any (t : Int) (h : CHc w g l) (hl : l.length ≤ 100) : Calls Try.prog 25 #[.pointer (some ⟨g, 0, none⟩), .int .i64 t] w fun e w' => (∃ v, e = .returned v ∧ LT.Mine w' w.heap.size v ((dueL t l).map Ent.key) ∧ ToldC ownC w' g v) ∧ CHc w' g (leftL t l) ∧ TurnC ownC w w' g := by
  have H0 : Hid (DueS t w w g l (.slice none 0 0) [] l) := Lib.hid ⟨h, TurnC.refl w g, .inl ⟨rfl, rfl⟩, rfl, rfl, by simp⟩
  clear h
  go_enter Try.func25, Try.ntmps25
  go_wp2_with fail
  go_loopw [5] (fun kv wr => ∃ (A : Option Addr) (c n : Nat) (ds rest : List Ent), kv = .slice A n c ∧ n ≤ l.length ∧ ds.length = n ∧ Hid (DueS t w wr g l kv ds rest)) (fun kv _ => l.length - vlen kv)
  case atStart => exact ⟨none, 0, 0, [], l, rfl, Nat.zero_le _, rfl, H0⟩
  case round =>
    obtain ⟨A, c, n, ds, rest, rfl, hn, hdn, HS⟩ := hrel
    clear H0
    have hnr := HS.out.len
    obtain ⟨v, mb, es, D, hp⟩ := HS.out.heap
    have hlen := hp.len
    have c0 := hp.st.c0
    have HP := Lib.hid hp
    have fin : (∀ x, rest[0]? = some x → ¬ x.tick ≤ t) → (∃ v, Ending.returned (.slice A n c) = .returned v ∧ LT.Mine wr w.heap.size v ((dueL t l).map Ent.key) ∧ ToldC ownC wr g v) ∧ CHc wr g (leftL t l) ∧ TurnC ownC w wr g := fun he => by
      obtain ⟨e1, e2⟩ := due_end he
      refine ⟨⟨_, rfl, ?_, HP.out.st.texts HS.out.keys⟩, ?_, HS.out.turn⟩
      · rw [HS.out.due, e1, List.append_nil]; exact HS.out.keys
      · rw [HS.out.left, e2]; exact HS.out.heap
    have FIN := Lib.hid fin
    cases rest with
    | nil =>
      simp only [List.length_nil] at hlen
      obtain ⟨A2, cap2, rfl, h1, h2, h3⟩ := hp.st.row.shape
      rw [hlen] at c0
      clear hp h1 h2 h3 fin hlen hnr
      go_wp2_with fail
      go_ret
      exact FIN.out (fun x hx => by simp at hx)
    | cons x r =>
      simp only [List.length_cons] at hlen hnr
      have hi : 0 < es.length := by omega
      obtain ⟨b, off, cap, rfl, hc1, hc2⟩ := hp.st.slice hi
      unfold maxLen at hc2
      have hx := hp.heap.first hp.perm hp.row rfl
      obtain ⟨d0, d1⟩ := hp.st.ent hi
      rw [hx] at d0 d1
      simp only [Nat.zero_mul, Nat.add_zero] at d0 d1
      have hix := index_any (P := Try.prog) knC (by decide) (b := b) (off := off) (cap := cap) hi
      simp only [LC] at hix
      have q1 : decide ((0 : Int) < (es.length : Int)) = true := decide_eq_true (by omega)
      have q1' : decide (0 < es.length) = true := decide_eq_true hi
      by_cases hxt : x.tick ≤ t
      · have q2 : decide (x.tick ≤ t) = true := decide_eq_true hxt
        have T := take_any hp.st hi (by omega) hp.keys hp.oks hp.pl hp.heap
        rw [hx, show ((0 : Nat) : Int) = 0 from rfl] at T
        have HXT := Lib.hid hxt
        have HQ : Hid ((ds.map Ent.key).length = n) := Lib.hid (by rw [List.length_map]; exact hdn)
        clear hp hx hxt fin FIN
        go_wp2_with fail
        go_at_call 33
        refine T.mono ?_
        rintro e w2 ⟨rfl, es1, v1, D1, s1, o1, p1, l1, e1, t1⟩
        obtain ⟨r1, r2⟩ := HP.out.taken s1 o1 p1 l1 e1 t1
        rw [show dropL x.key (x :: r) = r by simp [dropL]] at r1
        have M2 := HS.out.keys.keep (w' := w2) (fun k hk => r2.block k (HS.out.keys.lt k hk).2 (HP.out.st.texts HS.out.keys k hk))
        have hbn := Below.alloc (Below.refl w2.heap.size w2) (Nat.le_refl _) (.cells #[.string x.key] 9)
        have R3 := Lib.hid (r1.below hbn)
        have M3 := Lib.hid (M2.below hbn)
        have T3 := Lib.hid ((HS.out.turn.trans r2).grown r1 (World.grownBy_alloc w2 (.cells #[.string x.key] 9) none) (fun k e => by cases e))
        have hsz : w.heap.size ≤ (w2.alloc (.cells #[.string x.key] 9)).heap.size := T3.out.size
        have hlit := Lib.hid (lit_slice (L := LT) w2 x.key w2.heap.size rfl #[.string x.key] rfl)
        replace hlit := Lib.hid (show LT.Slice (w2.alloc (.cells #[.string x.key] 9)) (.slice (some ⟨w2.heap.size, 0, none⟩) 1 1) [x.key] from hlit.out)
        clear s1 o1 p1 l1 e1 t1 r1 r2 M2 hbn T c0 d0 d1 hix
        have hfk := field_key x
        go_wp2_with (at_builtin; refine wpList_puts rfl knT (.tmp 23) (.tmp 27) 32 rfl (v := .slice A n c) rfl M3.out hsz (.slice (some ⟨w2.heap.size, 0, none⟩) 1 1) [x.key] 1 rfl rfl (hlit.out.srcN knT rfl) (by rw [HQ.out]; omega) ?_; rw [HQ.out]; intro A4 cap4 w4 m4 g4 o4; have H4 := Lib.hid (And.intro m4 g4); clear m4 g4 o4)
        refine ⟨⟨A4, cap4, n + 1, ds ++ [x], r, rfl, by omega, by simp [hdn], Lib.hid ?_⟩, ?_⟩
        · obtain ⟨m4, g4⟩ := H4.out
          have hno : ∀ k, (Value.slice A n c).ownBlock = some k → ¬ ownC _ g k := R3.out.st.texts M3.out
          obtain ⟨u1, u2⟩ := due_step (r := r) HXT.out
          refine ⟨⟨_, _, _, _, R3.out.grown g4 hno⟩, T3.out.grown R3.out g4 (fun k e => ⟨hno k e, (M3.out.lt k e).1⟩), by rw [List.map_append]; exact m4, by rw [HS.out.due, u1, List.append_assoc]; rfl, by rw [HS.out.left, u2], by simp; omega⟩
        · simp [vlen]; omega
      · have q2 : decide (x.tick ≤ t) = false := decide_eq_false hxt
        have HXT := Lib.hid hxt
        clear hp hx hxt fin
        go_wp2_with fail
        go_ret
        exact FIN.out (fun y hy => by simp at hy; rw [← hy]; exact HXT.out)
end Go.Proofs.Ytkbmkbmbkmeenaa
