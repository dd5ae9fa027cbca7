/-
  The document's heap: Due.
-/
import Derived.Test.YtkbmkbmbkmeenaaEntPut
namespace Go.Proofs.Ytkbmkbmbkmeenaa
set_option maxRecDepth 20000
open Go.RowKit
set_option linter.unusedVariables false
set_option linter.unusedSimpArgs false

/-- How long a slice is. -/
def lenV : Value → Nat
  | .slice _ n _ => n
  | _ => 0

set_option maxHeartbeats 1600000 in
theorem refDue_any (g : Nat) (l : List Ent) (t : Int) (w : World) (h : RefH w g l) (hl : l.length ≤ 1000) :
    Calls Try.prog 29 #[.pointer (some ⟨g, 0, none⟩), .int .i64 t] w fun e w' => (∃ v, e = .returned v ∧ LT.Mine w' w.heap.size v ((dueL t l).map Ent.key)) ∧ RefH w' g (leftL t l) ∧ w.grownBy w' (some g) := by
  have H := Lib.hid h
  have hgB := h.lt
  clear h
  go_enter Try.func29, Try.ntmps29
  go_wp2_with fail
  go_loopw [5] (fun v wr => ∃ pre rest : List Ent, Hid (l = pre ++ rest) ∧ Hid (dueL t l = pre ++ dueL t rest) ∧ Hid (leftL t l = leftL t rest) ∧ (∃ A cap, v = .slice A pre.length cap) ∧ pre.length + rest.length ≤ 1000 ∧ pre.length + rest.length = l.length ∧ Hid (LT.Mine wr w.heap.size v (pre.map Ent.key)) ∧ Hid (RefH wr g rest) ∧ Hid (w.grownBy wr (some g))) (fun v _ => l.length - lenV v)
  case atStart => exact ⟨[], l, Lib.hid rfl, Lib.hid rfl, Lib.hid rfl, ⟨none, 0, rfl⟩, by simp; omega, by simp, Lib.hid (Lies.Mine.nil _ _), H, Lib.hid (grown_refl _ _)⟩
  case round =>
    obtain ⟨pre, rest, HL, HD, HF, ⟨A0, cap0, rfl⟩, hpr, hpl, MO, HR, HG⟩ := hrel
    have hsz := HG.out.size
    have hR := HR.out
    obtain ⟨⟨v, hh, hm⟩, hok⟩ := hR
    have c0 : wr.cell? ⟨g, 0, none⟩ = some v := cell_at hh 0
    have f0 : wr.frozen? ⟨g, 0, none⟩ = false := free_at hh 0
    have HM := Lib.hid hm
    have HH := Lib.hid hh
    obtain ⟨A, cap, rfl, h1, h2, h3⟩ := hm.shape
    unfold maxLen at h2
    clear hh hm hok h3
    cases hrest : rest with
    | nil =>
      subst hrest
      simp at c0
      have HE := Lib.hid (show dueL t l = pre by rw [HD.out]; simp [dueL])
      have HE2 := Lib.hid (show leftL t l = [] by rw [HF.out]; rfl)
      go_wp2_with fail
      go_ret
      rw [HE.out, HE2.out]
      exact ⟨⟨_, rfl, MO.out⟩, HR.out, HG.out⟩
    | cons x r =>
      subst hrest
      have hx : (x :: r)[0]? = some x := rfl
      obtain ⟨b, off, rfl, hb, hrr⟩ := HM.out.slice.at hx
      obtain ⟨d0, d1⟩ := range2 hrr
      have hi := index_any (P := Try.prog) knE (by decide) (b := b) (off := off) (len := (x :: r).length) (cap := cap) (i := 0) (by simp)
      rw [show ((0 : Nat) : Int) = 0 from rfl] at hi
      simp only [Nat.zero_mul, Nat.add_zero] at d0 d1 hi
      clear hx hrr
      have q1 : decide ((0 : Int) < (r.length : Int) + 1) = true := decide_eq_true (by omega)
      simp only [List.length_cons] at c0 hi h1 hpr hpl
      by_cases ht : x.tick ≤ t
      · have q2 : decide (x.tick ≤ t) = true := decide_eq_true ht
        obtain ⟨e1, e2⟩ := due_step (r := r) ht
        have HL2 := Lib.hid (show l = (pre ++ [x]) ++ r by rw [HL.out]; simp)
        have HD2 := Lib.hid (show dueL t l = (pre ++ [x]) ++ dueL t r by rw [HD.out, e1]; simp)
        have HF2 := Lib.hid (show leftL t l = leftL t r by rw [HF.out, e2])
        have HP := Lib.hid (show (pre.map Ent.key) ++ [x.key] = (pre ++ [x]).map Ent.key by simp)
        have HQ := Lib.hid (show (pre.map Ent.key).length = pre.length by simp)
        have HQ2 := Lib.hid (show (pre ++ [x]).length = pre.length + 1 by simp)
        clear e1 e2 HL HD HF
        have hs2 := slice_low (P := Try.prog) knE (some ⟨b, off, none⟩) (r.length + 1) cap 1 (by omega)
        rw [show ((1 : Nat) : Int) = 1 from rfl] at hs2
        have M2 := Lib.hid (HM.out.sub 1 (x :: r).length (by simp) (Nat.le_refl _))
        rw [List.take_length, List.drop_one, List.tail_cons] at M2
        replace M2 := Lib.hid (show LE.Mine wr 0 (sliced (some ⟨b, off, none⟩) 1 (r.length + 1) cap LE.c) r from M2.out)
        have AP := Lib.hid (RefH.apart HH.out HM.out)
        generalize sliced (some ⟨b, off, none⟩) 1 (r.length + 1) cap LE.c = V2 at hs2 M2
        obtain ⟨AV, cV, rfl, _⟩ := M2.out.shape
        have ha1 : Hid (Below wr.heap.size wr (wr.alloc (.cells #[.string x.key] 9))) := Lib.hid ((Below.refl _ _).alloc (Nat.le_refl _) _)
        have hlit := Lib.hid (lit_slice (L := LT) wr x.key wr.heap.size rfl #[.string x.key] rfl)
        go_upto_region 4 with (at_builtin; refine wpList_puts rfl knT (.tmp 23) (.tmp 31) 32 rfl (v := .slice A0 pre.length cap0) rfl (MO.out.below ha1.out) (Nat.le_trans hsz ha1.out.size) (.slice (some ⟨wr.heap.size, 0, none⟩) 1 1) [x.key] 1 rfl rfl (hlit.out.srcN knT rfl) (by rw [HQ.out]; omega) ?_; intro A4 cap4 w2 m2 b2 o2; have hne : some g ≠ (Value.slice A0 pre.length cap0).ownBlock := (fun e => by have := (MO.out.lt g e.symm).1; omega); have hg2 : g < wr.heap.size := Nat.lt_of_lt_of_le hgB hsz; have hh2 := (b2.block g (Nat.lt_of_lt_of_le hg2 ha1.out.size) hne).trans ((ha1.out.block g hg2).trans HH.out); have c2 : w2.cell? ⟨g, 0, none⟩ = some (.slice (some ⟨b, off, none⟩) (r.length + 1) cap) := cell_at hh2 0; have f2 := free_at hh2 0)
        replace m2 := Lib.hid (show LT.Mine w2 w.heap.size (.slice A4 (pre.length + 1) cap4) ((pre ++ [x]).map Ent.key) from by rw [← HP.out, ← HQ.out]; exact m2)
        replace M2 := Lib.hid ((M2.out.below ha1.out).grown b2 ((M2.out.below ha1.out).apart (MO.out.below ha1.out) (by decide)))
        have G2 : Hid (w.grownBy w2 (some g)) := Lib.hid ⟨b2.os.trans HG.out.os, b2.tape.trans HG.out.tape, b2.output.trans HG.out.output, Nat.le_trans hsz (Nat.le_trans ha1.out.size b2.size), fun q hq hn => (b2.block q (by have := ha1.out.size; omega) (fun e => by have := (MO.out.lt q e.symm).1; omega)).trans ((ha1.out.block q (by omega)).trans (HG.out.block q hq hn))⟩
        replace hh2 := Lib.hid hh2
        clear b2 o2 hne c0 f0 d0 d1 hi
        go_wp2_with fail
        have AP2 := Lib.hid (show ∀ q, (Value.slice AV r.length cV).ownBlock = some q → some q ≠ some g from fun q hq e => by
          injection e with e
          subst e
          rcases M2.out with ⟨hv, _⟩ | ⟨g', off', cap', cur, hv, _, hh', _⟩
          · rw [hv] at hq; cases hq
          · rw [hv] at hq
            simp only [Value.ownBlock, Option.some.injEq] at hq
            subst hq
            rw [hh2.out] at hh'
            injection hh' with hh'
            injection hh' with _ hh'
            exact absurd hh' (by decide))
        refine ⟨⟨pre ++ [x], r, HL2, HD2, HF2, ⟨A4, cap4, by rw [HQ2.out]⟩, by rw [HQ2.out]; omega, by rw [HQ2.out]; omega, Lib.hid ?_, Lib.hid ⟨⟨_, heap_set hh2.out 0 _, M2.out.grown (grown_set w2 g 0 _) AP2.out⟩, fun y hy => HR.out.2 y (List.mem_cons_of_mem _ hy)⟩, Lib.hid (grown_trans G2.out (grown_set _ _ _ _))⟩, ?_⟩
        · exact m2.out.grown (grown_set w2 g 0 _) (fun q hq e => by injection e with e; have := (m2.out.lt q hq).1; omega)
        · simp [lenV]; omega
      · have q2 : decide (x.tick ≤ t) = false := decide_eq_false ht
        obtain ⟨e1, e2⟩ := due_end (t := t) (l := x :: r) (fun y hy => by simp at hy; rw [← hy]; exact ht)
        have HE := Lib.hid (show dueL t l = pre by rw [HD.out, e1]; simp)
        have HE2 := Lib.hid (show leftL t l = x :: r by rw [HF.out, e2])
        clear e1 e2
        go_wp2_with fail
        go_ret
        rw [HE.out, HE2.out]
        exact ⟨⟨_, rfl, MO.out⟩, HR.out, HG.out⟩
end Go.Proofs.Ytkbmkbmbkmeenaa
