/-
  What is done with a heap of the code; the document's example.
-/
import Derived.Test.YtkbmkbmbkmeenaaHeapC
namespace Go.Proofs.Ytkbmkbmbkmeenaa
set_option maxRecDepth 20000
open Go.RowKit
set_option linter.unusedVariables false
set_option linter.unusedSimpArgs false

section
variable {C : Heaps} {w w1 w2 : World} {g : Nat} {l : List Ent}
theorem TurnC.after (hc : C.CH w g l) (hb : Below w.heap.size w w1) (ht : TurnC C.own w1 w2 g) : TurnC C.own w w2 g := by
  obtain ⟨_, ho⟩ := C.keep hc hb.size (fun k hk => hb.block k (C.old hc hk))
  exact ⟨ht.os.trans hb.os, ht.tape.trans hb.tape, ht.output.trans hb.output, Nat.le_trans hb.size ht.size,
    fun k hk hn => (ht.block k (Nat.lt_of_lt_of_le hk hb.size) (fun h => hn (ho k h))).trans (hb.block k hk),
    fun k hk => by rcases ht.owns k hk with h | h; exact .inl (ho k h); exact .inr (Nat.le_trans hb.size h)⟩
theorem CH.later (hc : C.CH w g l) (hb : Below w.heap.size w w1) : C.CH w1 g l := (C.keep hc hb.size (fun k hk => hb.block k (C.old hc hk))).1
end

set_option maxHeartbeats 800000 in
theorem do_any (C : Heaps) (g : Nat) (l : List Ent) (o : Deed) (w : World) (h : C.CH w g l) (hl : l.length ≤ 100) (ho : o.ok) :
    Calls Try.prog 10 #[.pointer (some ⟨g, 0, none⟩), .agg #[.int .i64 o.act, .int .i64 o.tick, .string o.key]] w fun e w' => (∃ v, e = .returned v ∧ LT.Mine w' w.heap.size v ((saidL o l).map Ent.key) ∧ ToldC C.own w' g v) ∧ C.CH w' g (doneL o l) ∧ TurnC C.own w w' g := by
  have H := Lib.hid h
  clear h
  have HK := kindI_cases o.act
  have HD := Lib.hid (show doneL o l = if kindI o.act = 0 then putL o.ent l else if kindI o.act = 1 then dropL o.key l else if kindI o.act = 2 then leftL o.tick l else [] from rfl)
  have HS := Lib.hid (show saidL o l = if kindI o.act = 2 then dueL o.tick l else [] from rfl)
  have HN : Hid (∀ w', ToldC C.own w' g (.slice none 0 0)) := Lib.hid (fun w' k hk => by cases hk)
  go_enter Try.func10, Try.ntmps10
  go_wp2_with fail
  go_at_call 27
  refine (kind_any o _ ho).mono ?_
  rintro e w1 ⟨rfl, b1⟩
  generalize kindI o.act = k at HK HD HS ⊢
  have hbx : Hid (w1.heap[w.heap.size]? = some (.cells #[.int .i64 o.act, .int .i64 o.tick, .string o.key] 30 (0, 0))) := Lib.hid ((b1.block w.heap.size (by simp)).trans (heap_alloc_new w _))
  have d1 : w1.cell? ⟨w.heap.size, 1, none⟩ = some (.int .i64 o.tick) := cell_at hbx.out 1
  have d2 : w1.cell? ⟨w.heap.size, 2, none⟩ = some (.string o.key) := cell_at hbx.out 2
  replace b1 := Lib.hid (((Below.refl w.heap.size w).alloc (Nat.le_refl _) _).trans (b1.mono (by simp)))
  have hsz := b1.out.size
  have H1 : Hid (C.CH w1 g l) := Lib.hid (CH.later H.out b1.out)
  rcases HK with rfl | rfl | rfl | rfl
  · go_wp2_with fail
    go_at_call 23
    refine (C.put o.ent H1.out hl ho.ent).mono ?_
    rintro e w2 ⟨rfl, h2, g2⟩
    replace h2 := Lib.hid h2
    replace g2 := Lib.hid g2
    go_wp2_with fail
    go_ret
    rw [HD.out, HS.out]
    exact ⟨⟨_, rfl, Lies.Mine.nil _ _, HN.out _⟩, h2.out, TurnC.after H.out b1.out g2.out⟩
  · go_wp2_with fail
    go_at_call 21
    refine (C.drop o.key H1.out hl (Nat.le_trans ho.2.2 (by unfold maxLen; omega))).mono ?_
    rintro e w2 ⟨rfl, h2, g2⟩
    replace h2 := Lib.hid h2
    replace g2 := Lib.hid g2
    go_wp2_with fail
    go_ret
    rw [HD.out, HS.out]
    exact ⟨⟨_, rfl, Lies.Mine.nil _ _, HN.out _⟩, h2.out, TurnC.after H.out b1.out g2.out⟩
  · go_wp2_with fail
    go_at_call 25
    refine (C.due o.tick H1.out hl).mono ?_
    rintro e w2 ⟨⟨v, rfl, hv, hv2⟩, h2, g2⟩
    replace h2 := Lib.hid h2
    replace g2 := Lib.hid g2
    replace hv := Lib.hid hv
    replace hv2 := Lib.hid hv2
    go_wp2_with fail
    go_ret
    rw [HD.out, HS.out]
    exact ⟨⟨_, rfl, hv.out.mono hsz, hv2.out⟩, h2.out, TurnC.after H.out b1.out g2.out⟩
  · go_wp2_with fail
    go_at_call 28
    refine (C.clear H1.out hl).mono ?_
    rintro e w2 ⟨rfl, h2, g2⟩
    replace h2 := Lib.hid h2
    replace g2 := Lib.hid g2
    go_wp2_with fail
    go_ret
    rw [HD.out, HS.out]
    exact ⟨⟨_, rfl, Lies.Mine.nil _ _, HN.out _⟩, h2.out, TurnC.after H.out b1.out g2.out⟩

/-- A heap alone, new since w0. -/
structure Heaps.Lone (C : Heaps) (w0 w : World) (g : Nat) (l : List Ent) : Prop where
  code : C.CH w g l
  below : Below w0.heap.size w0 w
  fresh : ∀ k, C.own w g k → w0.heap.size ≤ k
theorem Heaps.Lone.codes {C : Heaps} {w0 w w' : World} {g : Nat} {l l' : List Ent} (h : C.Lone w0 w g l) (hc : C.CH w' g l') (ht : TurnC C.own w w' g) : C.Lone w0 w' g l' :=
  ⟨hc, ⟨ht.os.trans h.below.os, ht.tape.trans h.below.tape, ht.output.trans h.below.output, Nat.le_trans h.below.size ht.size, fun k hk => (ht.block k (Nat.lt_of_lt_of_le hk h.below.size) (fun ho => by have := h.fresh k ho; omega)).trans (h.below.block k hk)⟩,
   fun k hk => by rcases ht.owns k hk with ho | ho; exact h.fresh k ho; exact Nat.le_trans h.below.size ho⟩
theorem Heaps.Lone.later {C : Heaps} {w0 w w' : World} {g : Nat} {l : List Ent} (h : C.Lone w0 w g l) (hb : Below w.heap.size w w') : C.Lone w0 w' g l := by
  obtain ⟨hc, ho⟩ := C.keep h.code hb.size (fun k hk => hb.block k (C.old h.code hk))
  exact ⟨hc, h.below.trans (hb.mono h.below.size), fun k hk => h.fresh k (ho k hk)⟩

theorem Heaps.Lone.drewN {C : Heaps} {w0 w : World} {g : Nat} {l : List Ent} (h : C.Lone w0 w g l) (d : Nat) : C.Lone w0 (w.drewN d) g l := h.later ⟨rfl, rfl, rfl, Nat.le_refl _, fun _ _ => rfl⟩
/-- A literal slice. -/
theorem lit_many {α : Type} {L : Lies α} (w : World) (xs : List α) (B n : Nat) (hB : B = w.heap.size) (hn : xs.length = n) (hm : n ≤ maxLen) (cs : Array Value) (hc : cs.toList = L.vs xs) : L.Slice (w.alloc (.cells cs L.e)) (.slice (some ⟨B, 0, none⟩) n n) xs := by
  subst hB hn
  refine ⟨_, _, rfl, Nat.le_refl _, hm, (fun e => by cases e), fun _ => ⟨_, 0, rfl, by simp, fun j u hu => ?_⟩⟩
  rw [Nat.zero_add, cell_of_row _ _ _ _ _ _ (heap_alloc_new w _), ← Array.getElem?_toList, hc]
  exact hu

def exA : Ent := ⟨5, ⟨#[97]⟩⟩
def exB : Ent := ⟨5, ⟨#[98]⟩⟩
theorem ex_put : putL exA (putL ⟨3, ⟨#[97]⟩⟩ (putL exB [])) = [exA, exB] := by decide +kernel
theorem ex_due : dueL 5 [exA, exB] = [exA, exB] ∧ leftL 5 [exA, exB] = [] := by decide +kernel

set_option maxHeartbeats 800000 in
theorem lives_any (C : Heaps) (w : World) : Calls Try.prog 16 #[] w fun e w' => e = .returned (.bool true) ∧ Below w.heap.size w w' := by
  go_enter Try.func16, Try.ntmps16
  go_wp2_with fail
  go_at_call 8
  refine (C.new w).mono ?_
  rintro e w1 ⟨g, rfl, hc, b1, f1⟩
  have J : Hid (C.Lone w w1 g []) := Lib.hid ⟨hc, b1, f1⟩
  clear hc b1 f1
  go_wp2_with fail
  go_at_call 23
  refine (C.put exB J.out.code (by decide) (by unfold Ent.ok; decide)).mono ?_
  rintro e w2 ⟨rfl, h2, t2⟩
  replace J := Lib.hid (J.out.codes h2 t2)
  clear h2 t2
  go_wp2_with fail
  go_at_call 23
  refine (C.put ⟨3, ⟨#[97]⟩⟩ J.out.code (by decide) (by unfold Ent.ok; decide)).mono ?_
  rintro e w3 ⟨rfl, h2, t2⟩
  replace J := Lib.hid (J.out.codes h2 t2)
  clear h2 t2
  go_wp2_with fail
  go_at_call 23
  refine (C.put exA J.out.code (by decide +kernel) (by unfold Ent.ok; decide)).mono ?_
  rintro e w4 ⟨rfl, h2, t2⟩
  replace J := Lib.hid (J.out.codes h2 t2)
  clear h2 t2
  rw [ex_put] at J
  go_wp2_with fail
  go_at_call 25
  refine (C.due 5 J.out.code (by decide)).mono ?_
  rintro e w5 ⟨⟨v, rfl, hv, hv2⟩, h2, t2⟩
  rw [ex_due.1] at hv
  rw [ex_due.2] at h2
  replace J := Lib.hid (J.out.codes h2 t2)
  replace hv := Lib.hid hv
  clear h2 t2 hv2
  go_wp2_with fail
  have M2 := Lib.hid (lit_many (L := LT) w5 [⟨#[97]⟩, ⟨#[98]⟩] w5.heap.size 2 rfl rfl (by unfold maxLen; decide) #[.string ⟨#[97]⟩, .string ⟨#[98]⟩] rfl)
  have ha : Hid (Below w5.heap.size w5 (w5.alloc (.cells #[.string ⟨#[97]⟩, .string ⟨#[98]⟩] 9))) := Lib.hid ((Below.refl _ _).alloc (Nat.le_refl _) _)
  replace J := Lib.hid (J.out.later ha.out)
  replace hv := Lib.hid (hv.out.slice.below ha.out)
  go_at_call 12
  refine (sameTexts_any _ _ _ _ _ hv.out M2.out).mono ?_
  rintro e w6 ⟨rfl, d, rfl⟩
  rw [show (decide ((List.map Ent.key [exA, exB]) = [⟨#[97]⟩, ⟨#[98]⟩])) = true from by decide +kernel]
  replace J := Lib.hid (J.out.drewN d)
  clear hv M2 ha
  generalize World.drewN _ d = w6 at J ⊢
  go_wp2_with fail
  go_at_call 15
  refine (C.len J.out.code (by decide)).mono ?_
  rintro e w7 ⟨rfl, h2, t2⟩
  replace J := Lib.hid (J.out.codes h2 t2)
  clear h2 t2
  go_wp2_with fail
  go_ret
  exact ⟨rfl, J.out.below⟩
end Go.Proofs.Ytkbmkbmbkmeenaa
