/-
  The heap's All; all calls of a heap, told short.
-/
import Derived.Test.YtkbmkbmbkmeenaaHpSort
namespace Go.Proofs.Ytkbmkbmbkmeenaa
set_option maxRecDepth 20000
open Go.RowKit
set_option linter.unusedVariables false
set_option linter.unusedSimpArgs false
variable {w w' : World} {g mb : Nat} {v v' : Value} {es es' l : List Ent} {D D' : Dm}

theorem make_any (n : Nat) (hn : n ≤ 1000) : ∃ cs : Array Value, cs.size = n * 2 ∧ ∀ w, (Instr.makeSlice 37 (.int .i64 0) (.int .i64 (n : Int))).run Try.prog w = .ok (.slice (some ⟨w.heap.size, 0, none⟩) 0 n) (w.alloc (.cells cs 45)) := by
  obtain ⟨i0, hi0, hz0, hz1, hz2⟩ := info_parts knC.info
  have hb : (i0.bytes : Int) * (n : Int) ≤ 281474976710656 := by rw [hz2]; omega
  refine ⟨madeCells (Value.agg #[.int .i64 0, .string ⟨#[]⟩]).cells (n * 2), size_madeCells _ _, fun w => ?_⟩
  have hr := run_make (P := Try.prog) w 37 45 i0 _ Try.underlying37 hi0 hz0 .i64 .i64 0 (n : Int) (Int.le_refl _) (by omega) hb (by omega)
  rw [hz1, Int.toNat_natCast] at hr
  exact hr
theorem mine_made (w : World) (n : Nat) (hn : n ≤ 1000) (cs : Array Value) (hc : cs.size = n * 2) : LC.Mine (w.alloc (.cells cs 45)) w.heap.size (.slice (some ⟨w.heap.size, 0, none⟩) 0 n) [] :=
  .inr ⟨w.heap.size, 0, n, cs, rfl, Nat.le_refl _, heap_alloc_new w _, Nat.zero_le _, by unfold maxLen; omega, by rw [show LC.c = 2 from rfl]; omega, by simp [Lies.vs]⟩
/-- While copies are gathered. -/
def AllS (w wr : World) (u : Value) (xs : List Ent) : Prop := Below w.heap.size w wr ∧ LC.Mine wr w.heap.size u xs

set_option maxHeartbeats 800000 in
theorem all_any (h : CHc w g l) (hl : l.length ≤ 100) : Calls Try.prog 14 #[.pointer (some ⟨g, 0, none⟩)] w fun e w' => (∃ v, e = .returned v ∧ LC.Mine w' w.heap.size v l ∧ ToldC ownC w' g v) ∧ CHc w' g l ∧ TurnC ownC w w' g := by
  obtain ⟨v, mb, es, D, hs⟩ := h
  have hlen := hs.len
  have c0 := hs.st.c0
  obtain ⟨A, cap, rfl, h1, h2, h3⟩ := hs.st.row.shape
  unfold maxLen at h2
  obtain ⟨cs, hcs, hmk⟩ := make_any es.length (by omega)
  have HS := Lib.hid hs
  have H0 : Hid (AllS w (w.alloc (.cells cs 45)) (.slice (some ⟨w.heap.size, 0, none⟩) 0 es.length) (es.take 0)) := Lib.hid ⟨Below.alloc (Below.refl w.heap.size w) (Nat.le_refl _) _, mine_made w es.length (by omega) cs hcs⟩
  have c0' : (w.alloc (.cells cs 45)).cell? ⟨g, 0, none⟩ = some (.slice A es.length cap) := (hs.st.alloc _).c0
  clear hs h3 hcs hlen
  have HL : Hid (es.length ≤ 100) := Lib.hid (by rw [HS.out.len]; exact hl)
  have hel := HL.out
  go_enter Try.func14, Try.ntmps14
  go_wp2_with fail
  clear c0 c0' hmk
  generalize w.alloc _ = w0 at H0 ⊢
  go_loopw [3, 17] (fun u i wr => ∃ k b2 o2 c2 : Nat, u = .slice (some ⟨b2, o2, none⟩) k c2 ∧ i = .int .i64 (k : Int) ∧ k ≤ es.length ∧ Hid (AllS w wr u (es.take k))) (fun _ i _ => es.length - (intOf i).toNat)
  case atStart => exact ⟨0, w.heap.size, 0, es.length, rfl, rfl, Nat.zero_le _, H0⟩
  case round =>
    obtain ⟨k, b2, o2, c2, rfl, rfl, hk, HA⟩ := hrel
    clear H0
    by_cases hlt : k < es.length
    · have q1 : decide ((k : Int) < (es.length : Int)) = true := decide_eq_true (by omega)
      obtain ⟨b, off, cap', hv, _, _⟩ := HS.out.st.slice hlt
      injection hv with e1 e2 e3
      subst e1
      clear e2 e3
      obtain ⟨d0, d1⟩ := (HS.out.below HA.out.1).st.ent hlt
      have hix := index_any (P := Try.prog) knC (by decide) (b := b) (off := off) (cap := cap) hlt
      simp only [LC] at hix
      have hok := (HS.out.ok _ (HS.out.perm.mem_iff.1 (nth_mem hlt))).1
      have HT : Hid (es.take k ++ [nth es k] = es.take (k + 1)) := Lib.hid (by rw [List.take_add_one, nth_some hlt]; rfl)
      have HQ : Hid ((es.take k).length = k) := Lib.hid (by rw [List.length_take]; omega)
      generalize nth es k = x at *
      have hbx := build_entC x
      go_wp2_with fail
      go_at_call 30
      refine (own_any x _ hok).mono ?_
      rintro e w2 ⟨rfl, hb2⟩
      have hb1 := Below.alloc (Below.refl wr.heap.size wr) (Nat.le_refl _) (.cells #[.int .i64 x.tick, .string x.key] 45)
      have hb3 := hb1.trans (hb2.mono hb1.size)
      have hb4 := Below.alloc (Below.refl w2.heap.size w2) (Nat.le_refl _) (.cells #[.int .i64 x.tick, .string x.key] 45)
      have hb5 := hb3.trans (hb4.mono hb3.size)
      have B5 := Lib.hid (HA.out.1.trans (hb5.mono HA.out.1.size))
      have M5 := Lib.hid (HA.out.2.below hb5)
      have hsz := B5.out.size
      have hlit := Lib.hid (lit_slice (L := LC) w2 x w2.heap.size rfl #[.int .i64 x.tick, .string x.key] rfl)
      replace hlit := Lib.hid (show LC.Slice (w2.alloc (.cells #[.int .i64 x.tick, .string x.key] 45)) (.slice (some ⟨w2.heap.size, 0, none⟩) 1 1) [x] from hlit.out)
      clear hb1 hb2 hb3 hb4 hb5 d0 d1 hix
      go_wp2_with (at_builtin; refine wpList_puts rfl knC (.tmp 21) (.tmp 24) 37 rfl (v := .slice (some ⟨b2, o2, none⟩) k c2) rfl M5.out hsz (.slice (some ⟨w2.heap.size, 0, none⟩) 1 1) [x] 1 rfl rfl (hlit.out.srcN knC rfl) (by rw [HQ.out]; omega) ?_; rw [HQ.out, HT.out]; intro A4 cap4 w4 m4 g4 o4; have H4 := Lib.hid (And.intro m4 (B5.out.grown g4 hsz (fun j hj => (M5.out.lt j hj).1))); clear m4 g4 o4)
      obtain ⟨b4, o4, rfl⟩ : ∃ b4 o4, A4 = some ⟨b4, o4, none⟩ := by
        rcases H4.out.1 with ⟨hv, _⟩ | ⟨b4, o4, _, _, hv, _⟩
        · injection hv with _ e _
          omega
        · injection hv with e _ _
          exact ⟨b4, o4, e⟩
      refine ⟨⟨k + 1, b4, o4, cap4, rfl, by go_num, by omega, Lib.hid ⟨H4.out.2, H4.out.1⟩⟩, ?_⟩
      simp [intOf]; omega
    · have q1 : decide ((k : Int) < (es.length : Int)) = false := decide_eq_false (by omega)
      obtain rfl : k = es.length := by omega
      rw [List.take_length] at HA
      go_wp2_with fail
      go_at_call 31
      refine (sort_any HA.out.2 rfl (by omega) HS.out.perm HS.out.row).mono ?_
      rintro e w2 ⟨rfl, m2, b2'⟩
      have M2 := Lib.hid m2
      have B2 := Lib.hid (HA.out.1.trans b2')
      clear m2 b2'
      go_wp2_with fail
      go_ret
      refine ⟨⟨_, rfl, M2.out, fun j hj ho => ?_⟩, ⟨_, _, _, _, HS.out.below B2.out⟩, turnC_below HS.out.st B2.out⟩
      have h5 := HS.out.st.old j (((HS.out.below B2.out).st.own j).1 ho)
      have h6 := (M2.out.lt j hj).1
      omega

/-- All that a heap of the code keeps to. -/
def codeHeaps : Heaps where
  CH := CHc
  own := ownC
  old := fun ⟨_, _, _, _, h⟩ ho => h.st.old _ ((h.st.own _).1 ho)
  typed := fun {w g l k} ⟨v, mb, es, D, h⟩ ho cur T fr hT hh => by
    rcases (h.st.own _).1 ho with rfl | e | rfl
    · rw [h.st.hd] at hh
      injection hh with hh
      injection hh with _ hh
      rcases hT with e | e <;> (rw [e] at hh; exact absurd hh (by decide))
    · rcases h.st.row with ⟨rfl, _⟩ | ⟨g2, off2, cap2, cur2, rfl, _, hh2, _⟩
      · cases e
      · simp only [Value.ownBlock, Option.some.injEq] at e
        subst e
        rw [hh2] at hh
        injection hh with hh
        injection hh with _ hh
        rcases hT with e | e <;> (rw [e] at hh; exact absurd hh (by decide))
    · obtain ⟨xs, clock, hb⟩ := h.st.map.is
      rw [hb] at hh
      cases hh
  keep := fun {w w' g l} ⟨v, mb, es, D, h⟩ hs hk => by
    have h' : HSt w' g v mb es D := h.st.keep fun k ho => hk k ((h.st.own k).2 ho)
    exact ⟨⟨v, mb, es, D, h', h.perm, h.row, h.ok, h.pl, h.heap⟩, fun k ho => (h.st.own k).2 ((h'.own k).1 ho)⟩
  new := new_any
  put := fun x h hl hx => put_any x h hl hx
  drop := fun k h hl hk => drop_any k h hl hk
  due := fun t h hl => due_any t h hl
  clear := fun h hl => clear_any h hl
  len := fun h hl => len_any h hl
  all := fun h hl => all_any h hl
  at' := fun k h hl hk => at_any k h hl hk
  first := fun h hl => first_any h hl
end Go.Proofs.Ytkbmkbmbkmeenaa
