/-
  The document's heap: Drop, At, Put, Due.
-/
import Derived.Test.YtkbmkbmbkmeenaaEnt
import Derived.LoopTactic
import Derived.Deep.DeepCutAuto
import Derived.WalkLawsBesides
namespace Go.Proofs.Ytkbmkbmbkmeenaa
set_option maxRecDepth 20000
open Go.RowKit
set_option linter.unusedVariables false
set_option linter.unusedSimpArgs false

theorem cell_at {w : World} {g : Nat} {cs : Array Value} {t : TypeId} (h : w.heap[g]? = some (.cells cs t (0, 0))) (i : Nat) : w.cell? ⟨g, i, none⟩ = cs[i]? := cell_of_row w g i cs t (0, 0) h
theorem free_at {w : World} {g : Nat} {cs : Array Value} {t : TypeId} (h : w.heap[g]? = some (.cells cs t (0, 0))) (i : Nat) : w.frozen? ⟨g, i, none⟩ = false := by simp [World.frozen?, h]
theorem heap_set {w : World} {g : Nat} {cs : Array Value} {t : TypeId} (h : w.heap[g]? = some (.cells cs t (0, 0))) (i : Nat) (u : Value) : (w.setCell ⟨g, i, none⟩ u).heap[g]? = some (.cells (cs.setIfInBounds i u) t (0, 0)) := by
  simp [World.setCell, Array.getElem?_modify, h]
theorem grown_set (w : World) (g i : Nat) (u : Value) : w.grownBy (w.setCell ⟨g, i, none⟩ u) (some g) :=
  ⟨rfl, rfl, rfl, by simp [World.setCell], fun k hk hne => Below.heap_setCell w _ u k (fun e => hne (by rw [e]))⟩
theorem grown_trans {a b c : World} {g : Nat} (h : a.grownBy b (some g)) (k : b.grownBy c (some g)) : a.grownBy c (some g) :=
  ⟨k.os.trans h.os, k.tape.trans h.tape, k.output.trans h.output, Nat.le_trans h.size k.size, fun i hi hne => (k.block i (Nat.lt_of_lt_of_le hi h.size) hne).trans (h.block i hi hne)⟩
theorem grown_refl (w : World) (g : Nat) : w.grownBy w (some g) := ⟨rfl, rfl, rfl, Nat.le_refl _, fun _ _ _ => rfl⟩

theorem grown_below {a b : World} (h : Below a.heap.size a b) (g : Nat) : a.grownBy b (some g) := ⟨h.os, h.tape, h.output, h.size, fun i hi _ => h.block i hi⟩
theorem keyB (a b : ByteArray) : (a.toList == b.toList) = decide (a = b) := by
  rw [Bool.eq_iff_iff, beq_iff_eq, decide_eq_true_iff, ByteArray.toList_eq, ByteArray.toList_eq]
  exact (byteArray_eq_iff a b).symm

/-- The document's heap, in block g. -/
def RefH (w : World) (g : Nat) (l : List Ent) : Prop := (∃ v, w.heap[g]? = some (.cells #[v] 28 (0, 0)) ∧ LE.Mine w 0 v l) ∧ ∀ x ∈ l, x.ok
theorem RefH.lt {w : World} {g : Nat} {l : List Ent} (h : RefH w g l) : g < w.heap.size := by obtain ⟨⟨v, hh, _⟩, _⟩ := h; exact smem_lt hh
theorem RefH.apart {w : World} {g : Nat} {v : Value} {l : List Ent} (hh : w.heap[g]? = some (.cells #[v] 28 (0, 0))) (h : LE.Mine w 0 v l) : ∀ k, v.ownBlock = some k → k ≠ g := by
  intro k hk hkg
  subst hkg
  rcases h with ⟨rfl, _⟩ | ⟨g', off, cap, cur, rfl, _, hh', _⟩
  · cases hk
  · simp only [Value.ownBlock, Option.some.injEq] at hk
    subst hk
    rw [hh] at hh'
    injection hh' with hh'
    injection hh' with _ hh'
    exact absurd hh' (by decide)

theorem refDrop_any (g : Nat) (l : List Ent) (k : ByteArray) (w : World) (h : RefH w g l) (hl : l.length ≤ 1000) :
    Calls Try.prog 22 #[.pointer (some ⟨g, 0, none⟩), .string k] w fun e w' => e = .returned (.bool (hasL k l)) ∧ RefH w' g (dropL k l) ∧ w.grownBy w' (some g) := by
  have H := Lib.hid h
  obtain ⟨⟨v, hh, hm⟩, hok⟩ := h
  have HA := Lib.hid (RefH.apart hh hm)
  have c0 : w.cell? ⟨g, 0, none⟩ = some v := cell_at hh 0
  have f0 : w.frozen? ⟨g, 0, none⟩ = false := free_at hh 0
  have HM := Lib.hid hm
  have HH := Lib.hid hh
  obtain ⟨A, cap, rfl, h1, h2, h3⟩ := hm.shape
  unfold maxLen at h2
  clear hh hm hok h3
  go_enter Try.func22, Try.ntmps22
  go_wp2_with fail
  go_loop [5] (fun i => ∃ j : Nat, j ≤ l.length ∧ i = .int .i64 (j : Int) ∧ Hid (∀ (a : Nat) y, a < j → l[a]? = some y → y.key ≠ k)) (fun i => l.length - (intOf i).toNat)
  case atStart => exact ⟨0, by omega, rfl, Lib.hid (fun a y ha _ => by omega)⟩
  case round =>
    obtain ⟨j, hj, rfl, HJ⟩ := hrel
    by_cases hlt : j < l.length
    · have q1 : decide ((j : Int) < (l.length : Int)) = true := decide_eq_true (by omega)
      have hx : l[j]? = some l[j] := List.getElem?_eq_getElem hlt
      generalize l[j] = x at hx
      obtain ⟨b, off, rfl, hb, hr⟩ := HM.out.slice.at hx
      obtain ⟨d0, d1⟩ := range2 hr
      have hi := index_any (P := Try.prog) knE (by decide) (b := b) (off := off) (cap := cap) hlt
      have Hx := Lib.hid hx
      clear hx hr
      simp only [LE] at d0 d1 hi
      by_cases hk : x.key = k
      · have q2 : (x.key.toList == k.toList) = true := by rw [keyB]; exact decide_eq_true hk
        obtain ⟨e1, e2, e3⟩ := drop_hit HJ.out Hx.out hk
        replace hk := Lib.hid hk
        have HE := Lib.hid e1
        have HB := Lib.hid e2
        clear e1 e2 e3
        have hs1 := slice_high (P := Try.prog) knE (some ⟨b, off, none⟩) l.length cap j (by omega)
        have hs2 := slice_low (P := Try.prog) knE (some ⟨b, off, none⟩) l.length cap (j + 1) (by omega)
        rw [show ((j + 1 : Nat) : Int) = (j : Int) + 1 by omega] at hs2
        have M1 := Lib.hid (HM.out.sub 0 j (Nat.zero_le _) (by omega)).slice
        have M2 := Lib.hid (HM.out.sub (j + 1) l.length (by omega) (Nat.le_refl _)).slice
        rw [List.drop_zero] at M1
        rw [List.take_length] at M2
        generalize sliced (some ⟨b, off, none⟩) 0 j cap LE.c = V1 at hs1 M1
        generalize sliced (some ⟨b, off, none⟩) (j + 1) l.length cap LE.c = V2 at hs2 M2
        have hl1 : (l.take j).length = j := by rw [List.length_take]; omega
        have hl2 : (l.drop (j + 1)).length = l.length - (j + 1) := by rw [List.length_drop]
        have HL1 := Lib.hid hl1
        have HL2 := Lib.hid hl2
        clear hl1 hl2
        have HZ := Lib.hid (show (l.take j ++ l.drop (j + 1)).length ≤ 1000 by rw [List.length_append, HL1.out, HL2.out]; omega)
        have hgB := H.out.lt
        go_upto_region 7 with (at_builtin; refine wpList_putsB rfl knE (.tmp 26) (.tmp 32) 26 rfl (.slice none 0 0) rfl [] (Lies.Mine.nil w w.heap.size) (Nat.le_refl _) V1 (l.take j) j HL1.out rfl (M1.out.srcN knE HL1.out) j (by simp) (by omega) (l.take j) rfl ?_; intro A3 cap3 w1 m1 b1)
        have hsz := b1.size
        have c0' : w1.cell? ⟨g, 0, none⟩ = some (.slice (some ⟨b, off, none⟩) l.length cap) := (b1.cell (p := ⟨g, 0, none⟩) hgB).trans c0
        replace M2 := Lib.hid (M2.out.below b1)
        replace m1 := Lib.hid m1
        replace b1 := Lib.hid b1
        clear M1 hs1 c0 f0 d0 d1 hi
        go_upto_region 8 with (at_builtin; refine wpList_putsB rfl knE (.tmp 35) (.tmp 42) 26 rfl (.slice A3 j cap3) rfl (l.take j) m1.out hsz V2 (l.drop (j + 1)) (l.length - (j + 1)) HL2.out rfl (M2.out.srcN knE HL2.out) (l.length - 1) (by rw [HL1.out]; omega) (by omega) (l.take j ++ l.drop (j + 1)) rfl ?_; intro A4 cap4 w2 m2 b2; have hh2 := (b2.block g hgB).trans ((b1.out.block g hgB).trans HH.out); have f2 := free_at hh2 0; have c2 : w2.cell? ⟨g, 0, none⟩ = some (.slice (some ⟨b, off, none⟩) l.length cap) := cell_at hh2 0; replace hh2 := Lib.hid hh2; replace m2 := Lib.hid m2; replace b2 := Lib.hid b2)
        go_wp2_with fail
        go_ret
        rw [HB.out, HE.out]
        refine ⟨rfl, ⟨⟨_, heap_set hh2.out 0 _, ?_⟩, fun y hy => H.out.2 y (drop_sub (k := k) (by rw [HE.out]; exact hy))⟩, grown_trans (grown_below (b1.out.trans b2.out) g) (grown_set _ _ _ _)⟩
        exact (m2.out.grown (grown_set w2 g 0 _) (fun q hq e => by injection e with e; have := (m2.out.lt q hq).1; omega)).mono (Nat.zero_le _)
      · have q2 : (x.key.toList == k.toList) = false := by rw [keyB]; exact decide_eq_false hk
        have HJ2 : Hid (∀ (a : Nat) y, a < j + 1 → l[a]? = some y → y.key ≠ k) := Lib.hid (fun a y ha hy => by
          by_cases haj : a < j
          · exact HJ.out a y haj hy
          · obtain rfl : a = j := by omega
            rw [Hx.out] at hy
            injection hy with hy
            rw [← hy]
            exact hk)
        replace hk := Lib.hid hk
        go_wp2_with fail
        refine ⟨⟨j + 1, by omega, by go_num, HJ2⟩, ?_⟩
        simp [intOf]; omega
    · have q1 : decide ((j : Int) < (l.length : Int)) = false := decide_eq_false (by omega)
      obtain ⟨e1, e2, e3⟩ := drop_miss (l := l) (k := k) (fun a y hy => HJ.out a y (by have := (List.getElem?_eq_some_iff.1 hy).1; omega) hy)
      have HE := Lib.hid e1
      have HB := Lib.hid e2
      clear e1 e2 e3
      go_wp2_with fail
      go_ret
      rw [HB.out, HE.out]
      exact ⟨rfl, H.out, grown_refl _ _⟩
end Go.Proofs.Ytkbmkbmbkmeenaa
