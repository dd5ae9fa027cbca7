/-
  The document's heap: what is done; a thing done with its key cut.
-/
import Derived.Test.YtkbmkbmbkmeenaaEntDue
import Derived.Lib.Bytealg
namespace Go.Proofs.Ytkbmkbmbkmeenaa
set_option maxRecDepth 20000
open Go.RowKit
set_option linter.unusedVariables false
set_option linter.unusedSimpArgs false

/-- The first so many bytes of a text. -/
def fewS (s : ByteArray) (m : Nat) : ByteArray := if m < s.size then s.extract 0 m else s
theorem fewS_size (s : ByteArray) (m : Nat) : (fewS s m).size ≤ m := by
  unfold fewS
  split
  · rw [Lib.size_eq, Lib.extract_data, List.length_take]; omega
  · omega
/-- A number brought between 0 and m. -/
def aroundI (n m : Int) : Int := (if n < 0 then -(n + 1) else n) % m
theorem aroundI_bd (n m : Int) (h : 0 < m) : 0 ≤ aroundI n m ∧ aroundI n m < m := by
  unfold aroundI
  exact ⟨Int.emod_nonneg _ (by omega), Int.emod_lt_of_pos _ h⟩
theorem few_any (s : ByteArray) (m : Nat) (hm : m ≤ 1000) (w : World) (hs : s.size ≤ maxLen) :
    Calls Try.prog 17 #[.string s, .int .i64 (m : Int)] w fun e w' => e = .returned (.string (fewS s m)) ∧ w = w' := by
  unfold maxLen at hs
  by_cases h : m < s.size
  · have Hn := Lib.hid (show fewS s m = s.extract 0 m by simp [fewS, h])
    go_enter Try.func17, Try.ntmps17
    go_wp2
    go_ret
    rw [Hn.out]
    exact ⟨rfl, rfl⟩
  · have Hn := Lib.hid (show fewS s m = s by simp [fewS, h])
    go_enter Try.func17, Try.ntmps17
    go_wp2
    go_ret
    rw [Hn.out]
    exact ⟨rfl, rfl⟩
theorem around_any (n m : Int) (w : World) (h0 : -9223372036854775808 ≤ n) (h1 : n ≤ 9223372036854775807) (hm0 : 0 < m) (hm1 : m ≤ 9223372036854775807) :
    Calls Try.prog 26 #[.int .i64 n, .int .i64 m] w fun e w' => e = .returned (.int .i64 (aroundI n m)) ∧ w = w' := by
  have q0 : (m == 0) = false := by rw [beq_eq_false_iff_ne]; omega
  by_cases h : n < 0
  · have Hn := Lib.hid (show aroundI n m = -((n + 1).tmod m) by unfold aroundI; rw [if_pos h, ← Int.neg_tmod, Int.tmod_eq_emod_of_nonneg (by omega)])
    go_enter Try.func26, Try.ntmps26
    go_wp2
    go_ret
    rw [Hn.out]
    exact ⟨rfl, rfl⟩
  · have Hn := Lib.hid (show aroundI n m = n % m by simp [aroundI, h])
    go_enter Try.func26, Try.ntmps26
    go_wp2
    go_ret
    rw [Hn.out]
    exact ⟨rfl, rfl⟩

/-- Something that is done. -/
structure Deed where
  act : Int
  tick : Int
  key : ByteArray
def Deed.arg (o : Deed) : Prop := (-9223372036854775808 ≤ o.act ∧ o.act ≤ 9223372036854775807) ∧ (-9223372036854775808 ≤ o.tick ∧ o.tick ≤ 9223372036854775807) ∧ o.key.size ≤ maxLen
/-- .. whose key may be copied. -/
def Deed.ok (o : Deed) : Prop := (-9223372036854775808 ≤ o.act ∧ o.act ≤ 9223372036854775807) ∧ (-9223372036854775808 ≤ o.tick ∧ o.tick ≤ 9223372036854775807) ∧ o.key.size ≤ 281474976710656
def Deed.val (o : Deed) : Value := .agg #[.int .i64 o.act, .int .i64 o.tick, .string o.key]
def Deed.few (o : Deed) : Deed := ⟨o.act, o.tick, fewS o.key 4⟩
def Deed.ent (o : Deed) : Ent := ⟨o.tick, o.key⟩
theorem Deed.ok.ent {o : Deed} (h : o.ok) : o.ent.ok := ⟨h.2.2, h.2.1.1, h.2.1.2⟩
theorem Deed.arg.few {o : Deed} (h : o.arg) : o.few.ok := ⟨h.1, h.2.1, by have := fewS_size o.key 4; show (fewS o.key 4).size ≤ _; omega⟩
/-- What is done, by its number. -/
def kindI (n : Int) : Int := if aroundI n 12 < 7 then 0 else if aroundI n 12 < 9 then 1 else if aroundI n 12 < 11 then 2 else 3
theorem kindI_cases (n : Int) : kindI n = 0 ∨ kindI n = 1 ∨ kindI n = 2 ∨ kindI n = 3 := by
  unfold kindI
  split
  · simp
  · split
    · simp
    · split <;> simp
theorem kind_any (o : Deed) (w : World) (ho : o.ok) :
    Calls Try.prog 27 #[.agg #[.int .i64 o.act, .int .i64 o.tick, .string o.key]] w fun e w' => e = .returned (.int .i64 (kindI o.act)) ∧ Below w.heap.size w w' := by
  have HK := Lib.hid (show kindI o.act = if aroundI o.act 12 < 7 then 0 else if aroundI o.act 12 < 9 then 1 else if aroundI o.act 12 < 11 then 2 else 3 from rfl)
  obtain ⟨⟨a0, a1⟩, _, _⟩ := ho
  go_enter Try.func27, Try.ntmps27
  go_wp2_with fail
  go_at_call 26
  refine (around_any o.act 12 _ a0 a1 (by decide) (by decide)).mono ?_
  rintro e wz ⟨rfl, rfl⟩
  generalize aroundI o.act 12 = k at HK ⊢
  go_wp2_with fail
  all_goals
    go_ret
    rw [HK.out]
    refine ⟨congrArg (fun z => Ending.returned (Value.int .i64 z)) ?_, (Below.refl w.heap.size w).alloc (Nat.le_refl _) _⟩
    (repeat' split) <;> omega

theorem fewO_any (o : Deed) (w : World) (ho : o.arg) :
    Calls Try.prog 9 #[.agg #[.int .i64 o.act, .int .i64 o.tick, .string o.key]] w fun e w' => e = .returned (.agg #[.int .i64 o.act, .int .i64 o.tick, .string (fewS o.key 4)]) ∧ Below w.heap.size w w' := by
  go_enter Try.func9, Try.ntmps9
  go_wp2_with fail
  go_at_call 17
  refine (few_any o.key 4 (by decide) _ ho.2.2).mono ?_
  rintro e wz ⟨rfl, rfl⟩
  go_wp2_with fail
  refine bodyPost_ret (v := .agg #[.int .i64 o.act, .int .i64 o.tick, .string (fewS o.key 4)]) ?_ rfl ⟨rfl, ((Below.refl w.heap.size w).alloc (Nat.le_refl _) _).alloc (by simp) _⟩
  simp [results, Try.results9, go_sem]

/-- What there is behind it, and what is told. -/
def doneL (o : Deed) (l : List Ent) : List Ent := if kindI o.act = 0 then putL o.ent l else if kindI o.act = 1 then dropL o.key l else if kindI o.act = 2 then leftL o.tick l else []
def saidL (o : Deed) (l : List Ent) : List Ent := if kindI o.act = 2 then dueL o.tick l else []

theorem drop_ok {k : ByteArray} {l : List Ent} (h : ∀ x ∈ l, x.ok) : ∀ x ∈ dropL k l, x.ok := fun x hx => h x (drop_sub hx)

set_option maxHeartbeats 800000 in
theorem refDo_any (g : Nat) (l : List Ent) (o : Deed) (w : World) (h : RefH w g l) (hl : l.length ≤ 900) (ho : o.ok) :
    Calls Try.prog 11 #[.pointer (some ⟨g, 0, none⟩), .agg #[.int .i64 o.act, .int .i64 o.tick, .string o.key]] w fun e w' => (∃ v, e = .returned v ∧ LT.Mine w' w.heap.size v ((saidL o l).map Ent.key)) ∧ RefH w' g (doneL o l) ∧ w.grownBy w' (some g) := by
  have H := Lib.hid h
  have hgB := h.lt
  clear h
  have HK := kindI_cases o.act
  have HD := Lib.hid (show doneL o l = if kindI o.act = 0 then putL o.ent l else if kindI o.act = 1 then dropL o.key l else if kindI o.act = 2 then leftL o.tick l else [] from rfl)
  have HS := Lib.hid (show saidL o l = if kindI o.act = 2 then dueL o.tick l else [] from rfl)
  go_enter Try.func11, Try.ntmps11
  go_wp2_with fail
  go_at_call 27
  refine (kind_any o _ ho).mono ?_
  rintro e w1 ⟨rfl, b1⟩
  generalize kindI o.act = k at HK HD HS ⊢
  have hbx : Hid (w1.heap[w.heap.size]? = some (.cells #[.int .i64 o.act, .int .i64 o.tick, .string o.key] 30 (0, 0))) := Lib.hid ((b1.block w.heap.size (by simp)).trans (heap_alloc_new w _))
  have d1 : w1.cell? ⟨w.heap.size, 1, none⟩ = some (.int .i64 o.tick) := cell_at hbx.out 1
  have d2 : w1.cell? ⟨w.heap.size, 2, none⟩ = some (.string o.key) := cell_at hbx.out 2
  replace b1 := Lib.hid (((Below.refl w.heap.size w).alloc (Nat.le_refl _) _).trans (b1.mono (by simp)))
  have hsz := b1.out.size
  have H1 : Hid (RefH w1 g l) := Lib.hid (by
    obtain ⟨⟨v, hh, hm⟩, hok⟩ := H.out
    exact ⟨⟨v, (b1.out.block g hgB).trans hh, hm.below b1.out⟩, hok⟩)
  rcases HK with rfl | rfl | rfl | rfl
  · go_wp2_with fail
    go_at_call 24
    refine (refPut_any g l o.ent w1 H1.out hl ho.ent).mono ?_
    rintro e w2 ⟨rfl, h2, g2⟩
    replace h2 := Lib.hid h2
    replace g2 := Lib.hid g2
    go_wp2_with fail
    go_ret
    rw [HD.out, HS.out]
    exact ⟨⟨_, rfl, Lies.Mine.nil _ _⟩, h2.out, grown_trans (grown_below b1.out g) g2.out⟩
  · go_wp2_with fail
    go_at_call 22
    refine (refDrop_any g l o.key w1 H1.out (by omega)).mono ?_
    rintro e w2 ⟨rfl, h2, g2⟩
    replace h2 := Lib.hid h2
    replace g2 := Lib.hid g2
    go_wp2_with fail
    go_ret
    rw [HD.out, HS.out]
    exact ⟨⟨_, rfl, Lies.Mine.nil _ _⟩, h2.out, grown_trans (grown_below b1.out g) g2.out⟩
  · go_wp2_with fail
    go_at_call 29
    refine (refDue_any g l o.tick w1 H1.out (by omega)).mono ?_
    rintro e w2 ⟨⟨v, rfl, hv⟩, h2, g2⟩
    replace h2 := Lib.hid h2
    replace g2 := Lib.hid g2
    replace hv := Lib.hid hv
    go_wp2_with fail
    go_ret
    rw [HD.out, HS.out]
    exact ⟨⟨_, rfl, hv.out.mono hsz⟩, h2.out, grown_trans (grown_below b1.out g) g2.out⟩
  · obtain ⟨⟨v, hh, hm⟩, hok⟩ := H1.out
    have c0 : w1.cell? ⟨g, 0, none⟩ = some v := cell_at hh 0
    have f0 : w1.frozen? ⟨g, 0, none⟩ = false := free_at hh 0
    have HH := Lib.hid hh
    clear hh hm hok
    go_wp2_with fail
    go_ret
    rw [HD.out, HS.out]
    exact ⟨⟨_, rfl, Lies.Mine.nil _ _⟩, ⟨⟨_, heap_set HH.out 0 _, Lies.Mine.nil _ _⟩, fun x hx => (List.not_mem_nil hx).elim⟩, grown_trans (grown_below b1.out g) (grown_set _ _ _ _)⟩
end Go.Proofs.Ytkbmkbmbkmeenaa
