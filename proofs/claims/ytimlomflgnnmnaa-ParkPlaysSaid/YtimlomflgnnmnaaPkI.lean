/-
  The law's example.
-/
import Derived.Test.YtimlomflgnnmnaaPkH
namespace Go.Proofs.Ytimlomflgnnmnaa
set_option maxRecDepth 20000
open Go.RowKit
set_option linter.unusedVariables false
set_option linter.unusedSimpArgs false

theorem Kp.put_any {w wr : World} {b : Nat} {v : Value} {p : Pk} {ts : List Th} (h : Kp w wr b v p ts) (e : Edu) (he : e.brief) (hl : p.l.length ≤ 100000) (hc : p.lost ≤ 100000) (hm : p.most ≤ 100000) :
    Calls Try.prog 16 #[.pointer (some ⟨b, 0, none⟩), e.val] wr fun x w' => x = .returned (.tuple #[(p.gone e).val, .bool (p.goes e)]) ∧ ∃ v', Kp w w' b v' (p.put e) ts := by
  refine (pkPut_any h.pk e he hl hc hm).mono ?_
  rintro x w' ⟨hx, v', hk⟩
  exact ⟨hx, v', h.putK hk⟩

set_option maxHeartbeats 3200000 in
theorem lives_any (w : World) : Calls Try.prog 20 #[] w fun x w' => x = .returned (.bool true) ∧ Below w.heap.size w w' := by
  have HNEW : Hid (∀ W : World, Calls Try.prog 9 #[.int .i64 1] W fun e w' => ∃ b, e = .returned (.tuple #[.pointer (some ⟨b, 0, none⟩), .int .i64 0]) ∧ Kp W w' b (.slice none 0 0) ⟨1, [], 0⟩ []) := Lib.hid (fun W => pkNew_yes 1 W (by decide) (by decide))
  have HP1 : Hid (∀ (wr : World) b v ts, Kp w wr b v ⟨1, [], 0⟩ ts → Calls Try.prog 16 #[.pointer (some ⟨b, 0, none⟩), exA.val] wr fun x w' => x = .returned (.tuple #[zeroE.val, .bool false]) ∧ ∃ v', Kp w w' b v' ⟨1, [exA], 0⟩ ts) := Lib.hid (fun wr b v ts hk => by
    have := hk.put_any exA exA_brief (by decide) (by decide) (by decide)
    rw [ex1.1, ex1.2.1, ex1.2.2] at this
    exact this)
  have HP2 : Hid (∀ (wr : World) b v ts, Kp w wr b v ⟨1, [exA], 0⟩ ts → Calls Try.prog 16 #[.pointer (some ⟨b, 0, none⟩), exB.val] wr fun x w' => x = .returned (.tuple #[exA.val, .bool true]) ∧ ∃ v', Kp w w' b v' ⟨1, [exB], 1⟩ ts) := Lib.hid (fun wr b v ts hk => by
    have := hk.put_any exB exB_brief (by show 1 ≤ 100000; decide) (by decide) (by decide)
    rw [ex2.1, ex2.2.1, ex2.2.2] at this
    exact this)
  have heq := fun w => eql_edu exA exA w
  rw [eqE_self] at heq
  unfold exA zeroE at HP1
  unfold exA exB at HP2
  unfold exA at heq
  simp only [Edu.val] at *
  go_enter Try.func20, Try.ntmps20
  go_wp2_with fail
  go_at_call 9
  refine (HNEW.out _).mono ?_
  rintro e w1 ⟨b, rfl, hk⟩
  have HK := Lib.hid hk
  clear hk HNEW
  go_upto_region 5 with (fail)
  have HN := heap_alloc_new w1 (.cells #[.int .i64 1, .string ⟨#[]⟩, .string ⟨#[]⟩, .string ⟨#[36, 97]⟩, .string ⟨#[]⟩, .bool false, .bool false, .int .i64 0, .int .i64 0, .int .i64 0, .int .i64 0] 32)
  have HK1 := Lib.hid (HK.out.add (below_new w1 _) (t := Th.box w1.heap.size (.cells #[.int .i64 1, .string ⟨#[]⟩, .string ⟨#[]⟩, .string ⟨#[36, 97]⟩, .string ⟨#[]⟩, .bool false, .bool false, .int .i64 0, .int .i64 0, .int .i64 0, .int .i64 0] 32 (0, 0))) HN (fun k hk => .inl (Nat.le_of_eq hk.symm)))
  generalize World.alloc _ _ = w2 at HN HK1 ⊢
  generalize w1.heap.size = g3 at HN HK1 ⊢
  obtain ⟨d0, d1, d2, d3, d4, d5, d6, d7, d8, d9, d10⟩ := cells11 HN
  go_wp2_with fail
  go_at_call 16
  refine (HP1.out _ _ _ _ HK1.out).mono ?_
  rintro e w3 ⟨rfl, v3, hk⟩
  have HK3 := Lib.hid hk
  clear hk HP1 HK HK1 HN d0 d1 d2 d3 d4 d5 d6 d7 d8 d9 d10
  have HN4 := heap_alloc_new w3 (.cells #[.int .i64 0, .string ⟨#[]⟩, .string ⟨#[]⟩, .string ⟨#[]⟩, .string ⟨#[]⟩, .bool false, .bool false, .int .i64 0, .int .i64 0, .int .i64 0, .int .i64 0] 32)
  have HK4 := Lib.hid (HK3.out.later (below_new w3 (.cells #[.int .i64 0, .string ⟨#[]⟩, .string ⟨#[]⟩, .string ⟨#[]⟩, .string ⟨#[]⟩, .bool false, .bool false, .int .i64 0, .int .i64 0, .int .i64 0, .int .i64 0] 32)))
  go_upto_region 6 with (fail)
  generalize World.alloc _ _ = w4 at HN4 HK4 ⊢
  clear HN4 HK3
  go_wp2_with fail
  go_at_call 16
  refine (HP2.out _ _ _ _ HK4.out).mono ?_
  rintro e w5 ⟨rfl, v5, hk⟩
  have HK5 := Lib.hid hk
  clear hk HP2 HK4
  have HN6 := heap_alloc_new w5 (.cells #[.int .i64 1, .string ⟨#[]⟩, .string ⟨#[]⟩, .string ⟨#[36, 97]⟩, .string ⟨#[]⟩, .bool false, .bool false, .int .i64 0, .int .i64 0, .int .i64 0, .int .i64 0] 32)
  have HK6 := Lib.hid (HK5.out.later (below_new w5 (.cells #[.int .i64 1, .string ⟨#[]⟩, .string ⟨#[]⟩, .string ⟨#[36, 97]⟩, .string ⟨#[]⟩, .bool false, .bool false, .int .i64 0, .int .i64 0, .int .i64 0, .int .i64 0] 32)))
  go_upto_region 7 with (fail)
  generalize World.alloc _ _ = w6 at HN6 HK6 ⊢
  generalize w5.heap.size = g6 at HN6 ⊢
  clear HK5
  obtain ⟨d0, d1, d2, d3, d4, d5, d6, d7, d8, d9, d10⟩ := cells11 HN6
  obtain ⟨c0, c1, c2, c3, c4, c5, c6, c7, c8, c9, c10⟩ := cells11 (HK6.out.is List.mem_cons_self : w6.heap[g3]? = _)
  go_wp2_with fail
  go_at_call 18
  refine (pkLen_any HK6.out.pk).mono ?_
  rintro e w7 ⟨rfl, hb⟩
  have HK7 := Lib.hid (HK6.out.later hb)
  clear hb HK6 HN6 d0 d1 d2 d3 d4 d5 d6 d7 d8 d9 d10 c0 c1 c2 c3 c4 c5 c6 c7 c8 c9 c10
  go_wp2_with fail
  go_at_call 19
  refine (pkLost_any HK7.out.pk).mono ?_
  rintro e w8 ⟨rfl, hb⟩
  have HK8 := Lib.hid (HK7.out.later hb)
  clear hb HK7
  go_wp2_with fail
  go_ret
  exact ⟨rfl, HK8.out.below⟩
end Go.Proofs.Ytimlomflgnnmnaa
