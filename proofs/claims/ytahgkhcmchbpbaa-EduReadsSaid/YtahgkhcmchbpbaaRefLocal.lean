/-
  Which EDUs may be local, and which may be: the document's answer.
-/
import Derived.Test.YtahgkhcmchbpbaaLocalA
import Derived.Test.YtahgkhcmchbpbaaRefC
namespace Go.Proofs.Ytahgkhcmchbpbaa
open Go.RowKit
set_option linter.unusedVariables false
set_option linter.unusedSimpArgs false
set_option maxRecDepth 4000

theorem size_toList (v : ByteArray) : (v.size = 0) = (v.toList = []) := by
  rw [eq_iff_iff, size_zero, ← toList_iff, ByteArray.toList_eq ⟨#[]⟩]
theorem local_ref (e : Edu) : localB e = (namedB 64 e.user && (decide (0 ≤ e.tick ∧ e.tick ≤ 1099511627776 ∧ 0 ≤ e.stamp ∧ e.stamp ≤ 1099511627776) && kindB e)) := by
  unfold localB stampsB
  rw [Bool.and_assoc]

set_option maxHeartbeats 6400000 in
theorem refLocal_any (e : Edu) (w : World) (hr : e.room.size ≤ maxLen) (hu : e.user.size ≤ maxLen) (hv : e.event.size ≤ maxLen) (ht : e.thread.size ≤ maxLen) : Calls Try.prog 16 #[e.val] w fun x w' => x = .returned (.bool (localB e)) ∧ Below w.heap.size w w' := by
  have hd : e.kind = 1 ∨ e.kind = 2 ∨ e.kind = 3 ∨ (e.kind ≠ 1 ∧ e.kind ≠ 2 ∧ e.kind ≠ 3) := by omega
  have hu2 := fun w => refNamed_any e.user 64 w hu
  have hr2 := fun w => refNamed_any e.room 33 w hr
  have hv2 := fun w => refEvent_any e.event w hv
  have ht2 := fun w => refThread_any e.thread w ht
  have HL := local_ref e
  unfold kindB at HL
  simp only [size_toList] at HL
  obtain ⟨k, r, u, v, t, p, o, s, z, c, m⟩ := e
  simp only [Edu.val] at hu2 hr2 hv2 ht2 HL hd ⊢
  clear hr hu hv ht
  generalize namedB 64 u = bu at *
  generalize namedB 33 r = br at *
  generalize eventB v = be at *
  generalize threadB t = bt at *
  generalize localB _ = lb at *
  replace hu2 := Lib.hid hu2
  replace hr2 := Lib.hid hr2
  replace hv2 := Lib.hid hv2
  replace ht2 := Lib.hid ht2
  replace HL := Lib.hid HL
  have hb0 := Lib.hid (below_new w (.cells #[.int .i64 k, .string r, .string u, .string v, .string t, .bool p, .bool o, .int .i64 s, .int .i64 z, .int .i64 c, .int .i64 m] 23))
  obtain ⟨d0, d1, d2, d3, d4, d5, d6, d7, d8, d9, d10⟩ := cells11 (heap_alloc_new w (.cells #[.int .i64 k, .string r, .string u, .string v, .string t, .bool p, .bool o, .int .i64 s, .int .i64 z, .int .i64 c, .int .i64 m] 23))
  go_enter Try.func16, Try.ntmps16
  go_wp2_with fail
  generalize hW : (w.alloc (.cells #[.int .i64 k, .string r, .string u, .string v, .string t, .bool p, .bool o, .int .i64 s, .int .i64 z, .int .i64 c, .int .i64 m] 23)) = W at *
  clear hW
  refine (hu2.out _).mono ?_
  rintro e wx ⟨rfl, rfl⟩
  go_wp2_with fail
  refine (hr2.out _).mono ?_
  rintro e wx ⟨rfl, rfl⟩
  go_wp2_with fail
  refine (hv2.out _).mono ?_
  rintro e wx ⟨rfl, rfl⟩
  go_wp2_with fail
  refine (ht2.out _).mono ?_
  rintro e wx ⟨rfl, rfl⟩
  clear hu2 hr2 hv2 ht2
  by_cases hst : bu = true ∧ (0 ≤ c ∧ c ≤ 1099511627776 ∧ 0 ≤ m ∧ m ≤ 1099511627776)
  · obtain ⟨rfl, hst⟩ := hst
    rw [decide_eq_true hst] at HL
    obtain ⟨s1, s2, s3, s4⟩ := hst
    have q1 : decide (c < 0) = false := decide_eq_false (by omega)
    have q2 : decide (1099511627776 < c) = false := decide_eq_false (by omega)
    have q3 : decide (m < 0) = false := decide_eq_false (by omega)
    have q4 : decide (1099511627776 < m) = false := decide_eq_false (by omega)
    clear s1 s2 s3 s4
    rcases hd with rfl | rfl | rfl | ⟨h1, h2, h3⟩
    · go_wp2_with fail
      all_goals
        go_ret
        refine ⟨?_, hb0.out⟩
        rw [HL.out]
        first | (simp [*]; done) | (simp [*]; omega) | (simp [*]; rw [Bool.eq_iff_iff]; simp; done) | (simp [*]; rw [Bool.eq_iff_iff]; simp; omega)
    · cases o
      · go_upto_region 11 with (fail)
        go_cut [7] (fun s7 wx => s7 = .bool (decide (s = 0)) ∧ W = wx)
        case first =>
          go_wp2_with fail
          all_goals
            go_meet
            refine ⟨?_, rfl⟩
            first | rfl | (simp [*]; done) | (congr 1; rw [Bool.eq_iff_iff]; simp)
        case rest =>
          obtain ⟨rfl, rfl⟩ := hcut
          replace HL := HL.out
          simp only [Bool.false_eq_true, if_false] at HL
          generalize decide (s = 0) = sb at *
          replace HL := Lib.hid HL
          go_wp2_with fail
          all_goals
            go_ret
            refine ⟨?_, hb0.out⟩
            rw [HL.out]
            first | (simp [*]; done) | (simp [*]; omega) | (simp [*]; rw [Bool.eq_iff_iff]; simp; done) | (simp [*]; rw [Bool.eq_iff_iff]; simp; omega)
      · go_upto_region 11 with (fail)
        go_cut [7] (fun s7 wx => s7 = .bool (decide (1 ≤ s ∧ s ≤ 60)) ∧ W = wx)
        case first =>
          go_wp2_with fail
          all_goals
            go_meet
            refine ⟨?_, rfl⟩
            first | (simp [*]; done) | (congr 1; rw [Bool.eq_iff_iff]; simp; omega)
        case rest =>
          obtain ⟨rfl, rfl⟩ := hcut
          replace HL := HL.out
          simp only [if_true] at HL
          generalize decide (1 ≤ s ∧ s ≤ 60) = sb at *
          replace HL := Lib.hid HL
          go_wp2_with fail
          all_goals
            go_ret
            refine ⟨?_, hb0.out⟩
            rw [HL.out]
            first | (simp [*]; done) | (simp [*]; omega) | (simp [*]; rw [Bool.eq_iff_iff]; simp; done) | (simp [*]; rw [Bool.eq_iff_iff]; simp; omega)
    · go_wp2_with fail
      all_goals
        go_ret
        refine ⟨?_, hb0.out⟩
        rw [HL.out]
        first | (simp [*]; done) | (simp [*]; omega) | (simp [*]; rw [Bool.eq_iff_iff]; simp; done) | (simp [*]; rw [Bool.eq_iff_iff]; simp; omega)
    · have e1 : (k == 1) = false := by simp [h1]
      have e2 : (k == 2) = false := by simp [h2]
      have e3 : (k == 3) = false := by simp [h3]
      go_wp2_with fail
      go_ret
      refine ⟨?_, hb0.out⟩
      rw [HL.out]
      simp [h1, h2, h3]
  · have hn : lb = false := by
      rw [HL.out]
      cases bu
      · rfl
      · rw [decide_eq_false (fun h => hst ⟨rfl, h⟩)]
        rfl
    clear HL hd
    have hd : bu = false ∨ (bu = true ∧ c < 0) ∨ (bu = true ∧ ¬ c < 0 ∧ 1099511627776 < c) ∨ (bu = true ∧ ¬ c < 0 ∧ ¬ 1099511627776 < c ∧ m < 0) ∨ (bu = true ∧ ¬ c < 0 ∧ ¬ 1099511627776 < c ∧ ¬ m < 0 ∧ 1099511627776 < m) := by
      cases bu
      · exact .inl rfl
      · by_cases x1 : c < 0
        · exact .inr (.inl ⟨rfl, x1⟩)
        · by_cases x2 : 1099511627776 < c
          · exact .inr (.inr (.inl ⟨rfl, x1, x2⟩))
          · by_cases x3 : m < 0
            · exact .inr (.inr (.inr (.inl ⟨rfl, x1, x2, x3⟩)))
            · exact .inr (.inr (.inr (.inr ⟨rfl, x1, x2, x3, Int.not_le.1 (fun x4 => hst ⟨rfl, by omega⟩)⟩)))
    clear hst
    rcases hd with rfl | ⟨rfl, x1⟩ | ⟨rfl, x1, x2⟩ | ⟨rfl, x1, x2, x3⟩ | ⟨rfl, x1, x2, x3, x4⟩
    · go_wp2_with fail
      go_ret
      exact ⟨by rw [hn]; rfl, hb0.out⟩
    · have q1 : decide (c < 0) = true := decide_eq_true x1
      go_wp2_with fail
      go_ret
      exact ⟨by rw [hn]; rfl, hb0.out⟩
    · have q1 : decide (c < 0) = false := decide_eq_false x1
      have q2 : decide (1099511627776 < c) = true := decide_eq_true x2
      go_wp2_with fail
      go_ret
      exact ⟨by rw [hn]; rfl, hb0.out⟩
    · have q1 : decide (c < 0) = false := decide_eq_false x1
      have q2 : decide (1099511627776 < c) = false := decide_eq_false x2
      have q3 : decide (m < 0) = true := decide_eq_true x3
      go_wp2_with fail
      go_ret
      exact ⟨by rw [hn]; rfl, hb0.out⟩
    · have q1 : decide (c < 0) = false := decide_eq_false x1
      have q2 : decide (1099511627776 < c) = false := decide_eq_false x2
      have q3 : decide (m < 0) = false := decide_eq_false x3
      have q4 : decide (1099511627776 < m) = true := decide_eq_true x4
      go_wp2_with fail
      go_ret
      exact ⟨by rw [hn]; rfl, hb0.out⟩
end Go.Proofs.Ytahgkhcmchbpbaa
