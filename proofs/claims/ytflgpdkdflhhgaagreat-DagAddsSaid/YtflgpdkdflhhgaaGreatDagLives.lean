/-
  The document's example lives.
-/
import Derived.Test.YtflgpdkdflhhgaaGreatDagBuild
namespace Go.Proofs.YtflgpdkdflhhgaaGreat
set_option maxRecDepth 20000
open Go.RowKit
set_option linter.unusedVariables false
set_option linter.unusedSimpArgs false

theorem lit_many {α : Type} {L : Lies α} (w : World) (xs : List α) (B n : Nat) (hB : B = w.heap.size) (hn : xs.length = n) (hm : n ≤ maxLen) (cs : Array Value) (hc : cs.toList = L.vs xs) : L.Slice (w.alloc (.cells cs L.e)) (.slice (some ⟨B, 0, none⟩) n n) xs := by
  subst hB hn
  refine ⟨_, _, rfl, Nat.le_refl _, hm, (fun e => by cases e), fun _ => ⟨_, 0, rfl, by simp, fun j u hu => ?_⟩⟩
  rw [Nat.zero_add, cell_of_row _ _ _ _ _ _ (heap_alloc_new w _), ← Array.getElem?_toList, hc]
  exact hu
def exR : ByteArray := ⟨#[33, 114, 58, 115]⟩
def exU : ByteArray := ⟨#[64, 97, 58, 115]⟩
def exA : Ev := ⟨⟨#[36, 97]⟩, exR, [], ⟨#[]⟩, exU, 0⟩
def exB : Ev := ⟨⟨#[36, 98]⟩, exR, [⟨#[36, 97]⟩], ⟨#[]⟩, exU, 0⟩
def exC : Ev := ⟨⟨#[36, 99]⟩, exR, [⟨#[36, 97]⟩], ⟨#[]⟩, exU, 0⟩
def exD : Ev := ⟨⟨#[36, 100]⟩, exR, [⟨#[36, 98]⟩, ⟨#[36, 99]⟩], ⟨#[]⟩, exU, 0⟩
theorem ex_room : namedB 33 exR = true := by decide +kernel
theorem ex_valid : Valid exR [exA, exB, exC, exD] := by
  have h0 : errA exR [] exA = 0 := by decide +kernel
  have h1 : errA exR [exA] exB = 0 := by decide +kernel
  have h2 : errA exR [exA, exB] exC = 0 := by decide +kernel
  have h3 : errA exR [exA, exB, exC] exD = 0 := by decide +kernel
  exact valid_snoc (l := [exA, exB, exC]) (valid_snoc (l := [exA, exB]) (valid_snoc (l := [exA]) (valid_snoc (l := []) (valid_nil _) h0) h1) h2) h3
theorem ex_pos : posL [exA, exB, exC, exD] ⟨#[36, 100]⟩ = ⟨2, ⟨#[36, 100]⟩⟩ ∧ hasE [exA, exB, exC, exD] ⟨#[36, 100]⟩ = true := by
  refine ⟨?_, by decide +kernel⟩
  have : depthL [exA, exB, exC, exD] ⟨#[36, 100]⟩ = 2 := by decide +kernel
  unfold posL
  rw [this]
  rfl
theorem ok_small (e : Ev) (h1 : e.id.size ≤ 100) (h2 : e.room.size ≤ 100) (h3 : e.thread.size ≤ 100) (h4 : e.user.size ≤ 100) (h5 : ∀ p ∈ e.parents, p.size ≤ 100) (h6 : e.does = 0) : e.ok := by
  have k : ∀ n, n ≤ 100 → n ≤ maxLen := fun n h => by unfold maxLen; omega
  exact ⟨k _ h1, k _ h2, k _ h3, k _ h4, fun p hp => k _ (h5 p hp), by rw [h6]; decide, by rw [h6]; decide⟩
theorem ex_ok : exA.ok ∧ exB.ok ∧ exC.ok ∧ exD.ok := by
  refine ⟨ok_small _ ?_ ?_ ?_ ?_ ?_ rfl, ok_small _ ?_ ?_ ?_ ?_ ?_ rfl, ok_small _ ?_ ?_ ?_ ?_ ?_ rfl, ok_small _ ?_ ?_ ?_ ?_ ?_ rfl⟩ <;> decide +kernel

theorem ex_laid (w : World) : EvsS ((((w.alloc (.cells #[.string ⟨#[36, 97]⟩] 9)).alloc (.cells #[.string ⟨#[36, 97]⟩] 9)).alloc (.cells #[.string ⟨#[36, 98]⟩, .string ⟨#[36, 99]⟩] 9)).alloc (.cells #[.string ⟨#[36, 97]⟩, .string ⟨#[33, 114, 58, 115]⟩, .slice none 0 0, .string ⟨#[]⟩, .string ⟨#[64, 97, 58, 115]⟩, .int .i64 0, .string ⟨#[36, 98]⟩, .string ⟨#[33, 114, 58, 115]⟩, .slice (some ⟨w.heap.size, 0, none⟩) 1 1, .string ⟨#[]⟩, .string ⟨#[64, 97, 58, 115]⟩, .int .i64 0, .string ⟨#[36, 99]⟩, .string ⟨#[33, 114, 58, 115]⟩, .slice (some ⟨w.heap.size + 1, 0, none⟩) 1 1, .string ⟨#[]⟩, .string ⟨#[64, 97, 58, 115]⟩, .int .i64 0, .string ⟨#[36, 100]⟩, .string ⟨#[33, 114, 58, 115]⟩, .slice (some ⟨w.heap.size + 1 + 1, 0, none⟩) 2 2, .string ⟨#[]⟩, .string ⟨#[64, 97, 58, 115]⟩, .int .i64 0] 33)) (.slice (some ⟨w.heap.size + 1 + 1 + 1, 0, none⟩) 4 4) [⟨exA, none, 0⟩, ⟨exB, some ⟨w.heap.size, 0, none⟩, 1⟩, ⟨exC, some ⟨w.heap.size + 1, 0, none⟩, 1⟩, ⟨exD, some ⟨w.heap.size + 1 + 1, 0, none⟩, 2⟩] := by
  have s1 : ∀ (u : World) (o : Obj), (u.alloc o).heap.size = u.heap.size + 1 := fun u o => by simp
  have a1 := lit_many (L := LT) w [⟨#[36, 97]⟩] w.heap.size 1 rfl rfl (by unfold maxLen; omega) #[.string ⟨#[36, 97]⟩] rfl
  have a2 := lit_many (L := LT) (w.alloc (.cells #[.string ⟨#[36, 97]⟩] 9)) [⟨#[36, 97]⟩] (w.heap.size + 1) 1 (by simp only [s1]) rfl (by unfold maxLen; omega) #[.string ⟨#[36, 97]⟩] rfl
  have a3 := lit_many (L := LT) ((w.alloc (.cells #[.string ⟨#[36, 97]⟩] 9)).alloc (.cells #[.string ⟨#[36, 97]⟩] 9)) [⟨#[36, 98]⟩, ⟨#[36, 99]⟩] (w.heap.size + 1 + 1) 2 (by simp only [s1]) rfl (by unfold maxLen; omega) #[.string ⟨#[36, 98]⟩, .string ⟨#[36, 99]⟩] rfl
  refine ⟨lit_many (L := LV) (((w.alloc (.cells #[.string ⟨#[36, 97]⟩] 9)).alloc (.cells #[.string ⟨#[36, 97]⟩] 9)).alloc (.cells #[.string ⟨#[36, 98]⟩, .string ⟨#[36, 99]⟩] 9)) [⟨exA, none, 0⟩, ⟨exB, some ⟨w.heap.size, 0, none⟩, 1⟩, ⟨exC, some ⟨w.heap.size + 1, 0, none⟩, 1⟩, ⟨exD, some ⟨w.heap.size + 1 + 1, 0, none⟩, 2⟩] (w.heap.size + 1 + 1 + 1) 4 (by simp only [s1]) rfl (by unfold maxLen; omega) #[.string ⟨#[36, 97]⟩, .string ⟨#[33, 114, 58, 115]⟩, .slice none 0 0, .string ⟨#[]⟩, .string ⟨#[64, 97, 58, 115]⟩, .int .i64 0, .string ⟨#[36, 98]⟩, .string ⟨#[33, 114, 58, 115]⟩, .slice (some ⟨w.heap.size, 0, none⟩) 1 1, .string ⟨#[]⟩, .string ⟨#[64, 97, 58, 115]⟩, .int .i64 0, .string ⟨#[36, 99]⟩, .string ⟨#[33, 114, 58, 115]⟩, .slice (some ⟨w.heap.size + 1, 0, none⟩) 1 1, .string ⟨#[]⟩, .string ⟨#[64, 97, 58, 115]⟩, .int .i64 0, .string ⟨#[36, 100]⟩, .string ⟨#[33, 114, 58, 115]⟩, .slice (some ⟨w.heap.size + 1 + 1, 0, none⟩) 2 2, .string ⟨#[]⟩, .string ⟨#[64, 97, 58, 115]⟩, .int .i64 0] rfl, fun x hx => ?_⟩
  obtain ⟨o1, o2, o3, o4⟩ := ex_ok
  simp only [List.mem_cons, List.not_mem_nil, or_false] at hx
  rcases hx with rfl | rfl | rfl | rfl
  · exact ⟨Lies.Slice.nil _, o1⟩
  · exact ⟨((a1.below (below_new _ _)).below (below_new _ _)).below (below_new _ _), o2⟩
  · exact ⟨(a2.below (below_new _ _)).below (below_new _ _), o3⟩
  · exact ⟨a3.below (below_new _ _), o4⟩
theorem ex_below (w : World) : Below w.heap.size w ((((w.alloc (.cells #[.string ⟨#[36, 97]⟩] 9)).alloc (.cells #[.string ⟨#[36, 97]⟩] 9)).alloc (.cells #[.string ⟨#[36, 98]⟩, .string ⟨#[36, 99]⟩] 9)).alloc (.cells #[.string ⟨#[36, 97]⟩, .string ⟨#[33, 114, 58, 115]⟩, .slice none 0 0, .string ⟨#[]⟩, .string ⟨#[64, 97, 58, 115]⟩, .int .i64 0, .string ⟨#[36, 98]⟩, .string ⟨#[33, 114, 58, 115]⟩, .slice (some ⟨w.heap.size, 0, none⟩) 1 1, .string ⟨#[]⟩, .string ⟨#[64, 97, 58, 115]⟩, .int .i64 0, .string ⟨#[36, 99]⟩, .string ⟨#[33, 114, 58, 115]⟩, .slice (some ⟨w.heap.size + 1, 0, none⟩) 1 1, .string ⟨#[]⟩, .string ⟨#[64, 97, 58, 115]⟩, .int .i64 0, .string ⟨#[36, 100]⟩, .string ⟨#[33, 114, 58, 115]⟩, .slice (some ⟨w.heap.size + 1 + 1, 0, none⟩) 2 2, .string ⟨#[]⟩, .string ⟨#[64, 97, 58, 115]⟩, .int .i64 0] 33)) := ((Gr.refl w).alloc _ |>.alloc _ |>.alloc _ |>.alloc _).below

set_option maxHeartbeats 800000 in
theorem lives_any (C : Dags) (w : World) : Calls Tryz.prog 12 #[] w fun e w' => e = .returned (.bool true) ∧ Below w.heap.size w w' := by
  have HE := Lib.hid (ex_laid w)
  have HW := Lib.hid (ex_below w)
  go_enter Tryz.func12, Tryz.ntmps12
  go_upto_region 1 with (fail)
  go_wp2_with fail
  generalize World.alloc _ _ = w4 at HE HW ⊢
  go_at_call 7
  refine (build_any C exR _ _ w4 HE.out ex_valid ex_room (by unfold maxLen; decide) (show 4 ≤ 100 by decide)).mono ?_
  rintro e w5 ⟨g, rfl, bd⟩
  have HB := Lib.hid (bd.mono HW.out)
  clear bd HE
  go_wp2_with fail
  go_at_call 26
  refine (C.position ⟨#[36, 100]⟩ HB.out.code (show 4 ≤ 100 by decide) (by unfold maxLen; decide)).mono ?_
  rintro e w6 ⟨p, rfl, hp, hc, ht⟩
  have hev : evs [⟨exA, none, 0⟩, ⟨exB, some ⟨w.heap.size, 0, none⟩, 1⟩, ⟨exC, some ⟨w.heap.size + 1, 0, none⟩, 1⟩, ⟨exD, some ⟨w.heap.size + 1 + 1, 0, none⟩, 2⟩] = [exA, exB, exC, exD] := rfl
  rw [hev, ex_pos.2] at *
  obtain rfl := (hp rfl).trans ex_pos.1
  replace HB := Lib.hid (HB.out.turn hc ht)
  clear hp hc ht hev
  unfold Po.val
  go_wp2_with fail
  go_ret
  exact ⟨rfl, HB.out.below.trans ((below_new _ _).mono HB.out.below.size)⟩
end Go.Proofs.YtflgpdkdflhhgaaGreat
