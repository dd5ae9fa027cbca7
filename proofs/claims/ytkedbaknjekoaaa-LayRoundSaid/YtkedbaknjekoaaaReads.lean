/-
  What is read of any bytes, call by call, and the first error, is the document's: the statement LayReads, walked.
-/
import Derived.Test.YtkedbaknjekoaaaOwns
namespace Go.Proofs.Ytkedbaknjekoaaa
open Go.RowKit
set_option linter.unusedVariables false
set_option linter.unusedSimpArgs false

theorem quiet_left {P : Program} {f : FuncId} {args : Array Value} {w : World} {n : Nat} {v : Value}
    (h : Calls P f args (w.drewN n) fun e w' => e = .returned v ∧ w.drewN n = w') : Calls P f args (w.drewN n) fun e w'' => e = .returned v ∧ ∃ m, w'' = w.drewN m :=
  h.mono fun _ _ ⟨he, hm⟩ => ⟨he, n, hm.symm⟩

/-- A list of pairs of numbers that came in: both numbers of each are there, and fit. -/
def PairsAt (w : World) (a : Option Addr) (len : Nat) : Prop := len = 0 ∨ ∃ b off, a = some ⟨b, off, none⟩ ∧ ∀ j, j < len → ∃ x y : Int, w.cell? ⟨b, off + j * 2, none⟩ = some (.int .i64 x) ∧ w.cell? ⟨b, off + j * 2 + 1, none⟩ = some (.int .i64 y) ∧
  (-9223372036854775808 ≤ x ∧ x ≤ 9223372036854775807) ∧ -9223372036854775808 ≤ y ∧ y ≤ 9223372036854775807
theorem PairsAt.below {w w' : World} {a : Option Addr} {len : Nat} (h : PairsAt w a len) (hb : Below w.heap.size w w') : PairsAt w' a len := by
  rcases h with h | ⟨b, off, ha, h⟩
  · exact .inl h
  · refine .inr ⟨b, off, ha, fun j hj => ?_⟩
    obtain ⟨x, y, h1, h2, r⟩ := h j hj
    exact ⟨x, y, (hb.cell (World.block_lt_of_cell? w _ h1)).trans h1, (hb.cell (World.block_lt_of_cell? w _ h2)).trans h2, r⟩

theorem PairsAt.blocks {w : World} {a : Option Addr} {len : Nat} (h : PairsAt w a len) : ∀ b off, a = some ⟨b, off, none⟩ → ∀ k, k < len → b < w.heap.size := by
  intro b off ha k hk
  rcases h with h | ⟨b', off', ha', h⟩
  · omega
  · rw [ha] at ha'
    injection ha' with ha'
    injection ha' with e1 e2 _
    subst e1 e2
    obtain ⟨x, y, h1, _⟩ := h k hk
    exact World.block_lt_of_cell? w _ h1

theorem around4 (x : Int) : aroundI x 4 = 0 ∨ aroundI x 4 = 1 ∨ aroundI x 4 = 2 ∨ aroundI x 4 = 3 := by
  have := aroundI_bd x 4 (by decide)
  omega
theorem textS_len (s : St) (m : Int) : (textS s m).2.1.length ≤ s.1.length := by
  have h1 := numS_len s
  unfold textS
  simp only
  have h2 : (if m < ((numS s).1 : Int) then failS (numS s).2 2 else (numS s).2).1.length ≤ s.1.length := by
    split
    · exact Nat.le_trans (failS_len _ _) h1
    · exact h1
  generalize (if m < ((numS s).1 : Int) then failS (numS s).2 2 else (numS s).2) = q at h2 ⊢
  have h3 : (if q.1.length < (numS s).1 then failS q 3 else q).1.length ≤ s.1.length := by
    split
    · exact Nat.le_trans (failS_len _ _) h2
    · exact h2
  generalize (if q.1.length < (numS s).1 then failS q 3 else q) = r at h3 ⊢
  split
  · rw [List.length_drop]; omega
  · exact h3
theorem flagS_len (s : St) : (flagS s).2.1.length ≤ s.1.length := by
  obtain ⟨bs, e⟩ := s
  cases bs with
  | nil => exact failS_len _ _
  | cons b r =>
    unfold flagS
    simp only
    split
    · have := failS_len (r, e) 2
      simp only [List.length_cons] at *
      omega
    · simp

set_option maxHeartbeats 12800000 in
set_option maxRecDepth 100000 in
theorem reads_walk (A : Option Addr) (len cap : Nat) (bs : List UInt8) (C : Option Addr) (clen ccap : Nat) (w : World) (hA : ArgB w A len cap bs) (hC : PairsAt w C clen) (hcl : clen ≤ ccap) (hcc : ccap ≤ maxLen) :
    Calls Try.prog 4 #[.slice A len cap, .slice C clen ccap] w fun e w' => e = .returned (.bool true) ∧ Below w.heap.size w w' := by
  unfold maxLen at hcc
  have HA := Lib.hid hA
  have HC := Lib.hid hC
  clear hA hC
  go_enter Try.func4, Try.ntmps4
  go_wp2_with fail
  refine (few_bytes A len cap 40 bs _ HA.out (by decide)).mono ?_
  rintro e w1 ⟨⟨v1, rfl, hm1⟩, hb1⟩
  have hl : (bs.take 40).length ≤ 40 := by rw [List.length_take]; omega
  generalize bs.take 40 = ts at *
  obtain ⟨A1, c1, rfl, _⟩ := hm1.row.shape
  have HR1 := Lib.hid hm1.row
  have HB1 := Lib.hid hb1
  clear hb1 hm1
  go_wp2_with fail
  refine (read_any _ ts _ _ HR1.out (by omega)).mono ?_
  rintro e w2 ⟨⟨g2, rfl, hg2, hr2⟩, hb2⟩
  have HD2 := Lib.hid hr2
  have HR2 := Lib.hid (HR1.out.below hb2)
  have HB2 := Lib.hid (later HB1.out hb2)
  have hg2w : w.heap.size ≤ g2 := Nat.le_trans HB1.out.size hg2
  have hg3w : w.heap.size ≤ w2.heap.size := HB2.out.size
  clear hr2 hb2
  have hb3 := below_new w2 (.cells #[.slice A1 ts.length c1, .int .i64 0, .int .i64 0] 38)
  have HST : Hid (Both (w2.alloc (.cells #[.slice A1 ts.length c1, .int .i64 0, .int .i64 0] 38)) g2 w2.heap.size (ts, 0)) := Lib.hid ⟨(HD2.out.below hb3).mono (Nat.zero_le _), (Rf.new HR2.out (by omega)).mono (Nat.zero_le _)⟩
  have HB3 := Lib.hid (later HB2.out hb3)
  clear hb3
  go_wp2_with fail
  go_loopw [8] (fun i wr => ∃ (k : Nat) (s : St), k ≤ clen ∧ k ≤ 8 ∧ i = .int .i64 (k : Int) ∧ Hid (Both wr g2 w2.heap.size s) ∧ Hid (Below w.heap.size w wr) ∧ s.1.length ≤ 1000000) (fun i _ => 8 - (intOf i).toNat)
  case atStart => exact ⟨0, (ts, 0), by omega, by omega, rfl, HST, HB3, by show ts.length ≤ _; omega⟩
  case round =>
    obtain ⟨k, s, hk, hk8, rfl, HBo, HBel, hsl⟩ := hrel
    clear HST HB3 HR1 HR2 HD2 HB1 HB2 HA
    by_cases hkc : k < clen
    · have q1 : decide ((k : Int) < (clen : Int)) = true := decide_eq_true (by omega)
      by_cases hk9 : k < 8
      · have q2 : decide ((k : Int) < 8) = true := decide_eq_true (by omega)
        have hP := HC.out.below HBel.out
        have HPB := Lib.hid (HC.out.blocks)
        rcases hP with h | ⟨b, off, rfl, hP⟩
        · omega
        obtain ⟨x, y, hx, hy, ⟨x0, x1⟩, y0, y1⟩ := hP k hkc
        clear hP
        have HY := Lib.hid hy
        have hpb : b < w.heap.size := HPB.out b off rfl k hkc
        go_wp2_with fail
        refine (around_any x 4 _ x0 x1 (by decide) (by decide)).mono ?_
        rintro e wx ⟨rfl, rfl⟩
        rcases around4 x with h4 | h4 | h4 | h4
        all_goals rw [h4]
        · go_wp2_with fail
          refine (readNum_any 0 g2 s _ HBo.out.1 hsl).mono ?_
          rintro e wa ⟨rfl, hra, hga⟩
          have HFa := Lib.hid (HBo.out.2.other HBo.out.1 hga)
          have HDa := Lib.hid hra
          have HBa := Lib.hid (below_grown HBel.out hga hg2w)
          clear hra hga hx hy
          go_wp2_with fail
          refine (refNumR_any 0 w2.heap.size s _ HFa.out).mono ?_
          rintro e wb ⟨rfl, hrb, hgb⟩
          have HBb : Hid (Both wb g2 w2.heap.size (numS s).2) := Lib.hid ⟨HDa.out.otherR HFa.out hgb, hrb⟩
          have HBc := Lib.hid (below_grown HBa.out hgb hg3w)
          have HNl := Lib.hid (Nat.le_trans (numS_len s) hsl)
          clear hrb hgb HDa HFa HBa
          generalize (numS s).1 = n at *
          generalize (numS s).2 = t at *
          go_wp2_with fail
          have hce := HBb.out.2.e
          go_quiet (first | (go_at_call 26; exact quiet_left (errno_any 0 g2 t _ (HBb.out.drewN _).1)) | (go_at_call 27; exact quiet_left (left_any 0 g2 t _ (HBb.out.drewN _).1 HNl.out)) | (go_at_call 28; exact Calls.quiet_of (refLeft_any 0 w2.heap.size t _ (HBb.out.drewN _).2)) | (go_at_call 29; exact quiet_left (end_any 0 g2 t _ (HBb.out.drewN _).1 HNl.out)) | (go_at_call 30; exact Calls.quiet_of (refEnd_any 0 w2.heap.size t _ (HBb.out.drewN _).2)))
          go_wp2_with fail
          refine ⟨⟨k + 1, t, by omega, by omega, by go_num, Lib.hid (HBb.out.drewN _), Lib.hid (below_drewN HBc.out _), HNl.out⟩, ?_⟩
          simp [intOf]; omega
        · obtain ⟨m0, m1⟩ := aroundI_bd y 21 (by decide)
          go_wp2_with fail
          refine (around_any y 21 _ y0 y1 (by decide) (by decide)).mono ?_
          rintro e wx ⟨rfl, rfl⟩
          generalize aroundI y 21 = m at *
          go_wp2_with fail
          refine (readText_any 0 g2 s m _ HBo.out.1 hsl (by omega) (by omega)).mono ?_
          rintro e wa ⟨rfl, hra, hga⟩
          have HFa := Lib.hid (HBo.out.2.other HBo.out.1 hga)
          have HDa := Lib.hid hra
          have HBa := Lib.hid (below_grown HBel.out hga hg2w)
          clear hra hga hx hy
          go_wp2_with fail
          refine (refTextR_any 0 w2.heap.size s m _ HFa.out (by omega) (by omega)).mono ?_
          rintro e wb ⟨rfl, hrb, hgb⟩
          have HBb : Hid (Both wb g2 w2.heap.size (textS s m).2) := Lib.hid ⟨HDa.out.otherR HFa.out hgb, hrb⟩
          have HBc := Lib.hid (below_grown HBa.out hgb hg3w)
          have HNl := Lib.hid (Nat.le_trans (textS_len s m) hsl)
          clear hrb hgb HDa HFa HBa
          generalize strOf (textS s m).1 = n at *
          generalize (textS s m).2 = t at *
          go_wp2_with fail
          have hce := HBb.out.2.e
          go_quiet (first | (go_at_call 26; exact quiet_left (errno_any 0 g2 t _ (HBb.out.drewN _).1)) | (go_at_call 27; exact quiet_left (left_any 0 g2 t _ (HBb.out.drewN _).1 HNl.out)) | (go_at_call 28; exact Calls.quiet_of (refLeft_any 0 w2.heap.size t _ (HBb.out.drewN _).2)) | (go_at_call 29; exact quiet_left (end_any 0 g2 t _ (HBb.out.drewN _).1 HNl.out)) | (go_at_call 30; exact Calls.quiet_of (refEnd_any 0 w2.heap.size t _ (HBb.out.drewN _).2)))
          go_wp2_with fail
          refine ⟨⟨k + 1, t, by omega, by omega, by go_num, Lib.hid (HBb.out.drewN _), Lib.hid (below_drewN HBc.out _), HNl.out⟩, ?_⟩
          simp [intOf]; omega
        · go_wp2_with fail
          refine (readFlag_any 0 g2 s _ HBo.out.1 hsl).mono ?_
          rintro e wa ⟨rfl, hra, hga⟩
          have HFa := Lib.hid (HBo.out.2.other HBo.out.1 hga)
          have HDa := Lib.hid hra
          have HBa := Lib.hid (below_grown HBel.out hga hg2w)
          clear hra hga hx hy
          go_wp2_with fail
          refine (refFlagR_any 0 w2.heap.size s _ HFa.out).mono ?_
          rintro e wb ⟨rfl, hrb, hgb⟩
          have HBb : Hid (Both wb g2 w2.heap.size (flagS s).2) := Lib.hid ⟨HDa.out.otherR HFa.out hgb, hrb⟩
          have HBc := Lib.hid (below_grown HBa.out hgb hg3w)
          have HNl := Lib.hid (Nat.le_trans (flagS_len s) hsl)
          clear hrb hgb HDa HFa HBa
          generalize (flagS s).1 = n at *
          generalize (flagS s).2 = t at *
          go_wp2_with fail
          have hce := HBb.out.2.e
          go_quiet (first | (go_at_call 26; exact quiet_left (errno_any 0 g2 t _ (HBb.out.drewN _).1)) | (go_at_call 27; exact quiet_left (left_any 0 g2 t _ (HBb.out.drewN _).1 HNl.out)) | (go_at_call 28; exact Calls.quiet_of (refLeft_any 0 w2.heap.size t _ (HBb.out.drewN _).2)) | (go_at_call 29; exact quiet_left (end_any 0 g2 t _ (HBb.out.drewN _).1 HNl.out)) | (go_at_call 30; exact Calls.quiet_of (refEnd_any 0 w2.heap.size t _ (HBb.out.drewN _).2)))
          go_wp2_with fail
          refine ⟨⟨k + 1, t, by omega, by omega, by go_num, Lib.hid (HBb.out.drewN _), Lib.hid (below_drewN HBc.out _), HNl.out⟩, ?_⟩
          simp [intOf]; omega
        · go_wp2_with fail
          refine wp_region_held_drew (S := fun w' => Below w.heap.size w w' ∧ w'.cell? ⟨b, off + k * 2 + 1, none⟩ = some (.int .i64 y)) (by kernel_rfl) ⟨HBel.out.drew, HY.out⟩ (fun hHeld => ?_)
          refine wpAnyH_take (i := 0) (oi := ⟨some 35, _, _, _, _, _⟩) (v := ?v0) rfl (by kernel_rfl) (by kernel_rfl) (by kernel_rfl) (fun _ _ _ h => h) (Or.inl ⟨by rfl, ?y0⟩) hHeld ?r0
          case y0 =>
            intro wx hSx
            go_simp
            try with_reducible rfl
          try simp only [Act.put, List.setIfInBounds_toArray, List.set_cons_zero, List.set_cons_succ]
          refine wpAnyH_take (i := 1) (oi := ⟨some 36, _, _, _, _, _⟩) (v := ?v1) rfl (by kernel_rfl) (by kernel_rfl) (by kernel_rfl) (fun _ _ _ h => h) (Or.inl ⟨by rfl, ?y1⟩) hHeld ?r1
          case y1 =>
            intro wx hSx
            go_simp
            try with_reducible rfl
          try simp only [Act.put, List.setIfInBounds_toArray, List.set_cons_zero, List.set_cons_succ]
          refine wpAnyH_take (i := 2) (oi := ⟨some 37, _, _, _, _, _⟩) (v := ?v2) rfl (by kernel_rfl) (by kernel_rfl) (by kernel_rfl) (fun _ _ _ h => h) (Or.inl ⟨by rfl, ?y2⟩) hHeld ?r2
          case y2 =>
            intro wx hSx
            go_simp
            try with_reducible rfl
          try simp only [Act.put, List.setIfInBounds_toArray, List.set_cons_zero, List.set_cons_succ]
          refine wpAnyH_take (i := 3) (oi := ⟨some 38, _, _, _, _, _⟩) (v := ?v3) rfl (by kernel_rfl) (by kernel_rfl) (by kernel_rfl) (fun _ _ _ h => h) (Or.inl ⟨by rfl, ?y3⟩) hHeld ?r3
          case y3 =>
            intro wx hSx
            go_simp
            try with_reducible rfl
          try simp only [Act.put, List.setIfInBounds_toArray, List.set_cons_zero, List.set_cons_succ]
          refine wpAnyH_take (i := 4) (oi := ⟨some 39, _, _, _, _, _⟩) (v := ?v4) rfl (by kernel_rfl) (by kernel_rfl) (by kernel_rfl) (fun _ _ _ h => h) (Or.inl ⟨by rfl, ?y4⟩) hHeld ?r4
          case y4 =>
            intro wx hSx
            go_simp
            try with_reducible rfl
          try simp only [Act.put, List.setIfInBounds_toArray, List.set_cons_zero, List.set_cons_succ]
          refine wpAnyH_take (i := 5) (oi := ⟨some 40, _, _, _, _, _⟩) (v := .int .i64 y) rfl (by kernel_rfl) (by kernel_rfl) (by kernel_rfl) (fun _ _ _ h => h) (Or.inl ⟨by rfl, ?y5⟩) hHeld ?r5
          case y5 =>
            intro wx hSx
            have hce := hSx.2
            clear hSx
            go_simp
            try with_reducible rfl
          try simp only [Act.put, List.setIfInBounds_toArray, List.set_cons_zero, List.set_cons_succ]
          refine wpAnyH_take (i := 7) (oi := ⟨some 42, _, _, _, _, _⟩) (v := ?v7) rfl (by kernel_rfl) (by kernel_rfl) (by kernel_rfl) (fun _ _ _ h => h) (Or.inl ⟨by rfl, ?y7⟩) hHeld ?r7
          case y7 =>
            intro wx hSx
            go_simp
            try with_reducible rfl
          try simp only [Act.put, List.setIfInBounds_toArray, List.set_cons_zero, List.set_cons_succ]
          refine wpAnyH_take (i := 8) (oi := ⟨some 43, _, _, _, _, _⟩) (v := ?v8) rfl (by kernel_rfl) (by kernel_rfl) (by kernel_rfl) (fun _ _ _ h => h) (Or.inl ⟨by rfl, ?y8⟩) hHeld ?r8
          case y8 =>
            intro wx hSx
            go_simp
            try with_reducible rfl
          try simp only [Act.put, List.setIfInBounds_toArray, List.set_cons_zero, List.set_cons_succ]
          refine wpAnyH_take (i := 9) (oi := ⟨some 44, _, _, _, _, _⟩) (v := ?v9) rfl (by kernel_rfl) (by kernel_rfl) (by kernel_rfl) (fun _ _ _ h => h) (Or.inl ⟨by rfl, ?y9⟩) hHeld ?r9
          case y9 =>
            intro wx hSx
            go_simp
            try with_reducible rfl
          try simp only [Act.put, List.setIfInBounds_toArray, List.set_cons_zero, List.set_cons_succ]
          refine wpAnyH_take (i := 10) (oi := ⟨some 45, _, _, _, _, _⟩) (v := ?v10) rfl (by kernel_rfl) (by kernel_rfl) (by kernel_rfl) (fun _ _ _ h => h) (Or.inl ⟨by rfl, ?y10⟩) hHeld ?r10
          case y10 =>
            intro wx hSx
            go_simp
            try with_reducible rfl
          try simp only [Act.put, List.setIfInBounds_toArray, List.set_cons_zero, List.set_cons_succ]
          refine wpAnyH_take (i := 11) (oi := ⟨some 46, _, _, _, _, _⟩) (v := ?v11) rfl (by kernel_rfl) (by kernel_rfl) (by kernel_rfl) (fun _ _ _ h => h) (Or.inl ⟨by rfl, ?y11⟩) hHeld ?r11
          case y11 =>
            intro wx hSx
            go_simp
            try with_reducible rfl
          try simp only [Act.put, List.setIfInBounds_toArray, List.set_cons_zero, List.set_cons_succ]
          refine wpAnyH_take (i := 12) (oi := ⟨some 47, _, _, _, _, _⟩) (v := .int .i64 y) rfl (by kernel_rfl) (by kernel_rfl) (by kernel_rfl) (fun _ _ _ h => h) (Or.inl ⟨by rfl, ?y12⟩) hHeld ?r12
          case y12 =>
            intro wx hSx
            have hce := hSx.2
            clear hSx
            go_simp
            try with_reducible rfl
          try simp only [Act.put, List.setIfInBounds_toArray, List.set_cons_zero, List.set_cons_succ]
          refine wpAnyH_ready (rs := [6]) (by kernel_rfl) (by simp) ?_
          refine AllReadyH.cons (o := ⟨some 41, _, _, _, _, _⟩) rfl (fun K hK => ?_) AllReadyH.nil
          go_simp
          refine (readText_any 0 g2 s y _ (HBo.out.drewN 1).1 hsl y0 y1).mono ?_
          rintro e wa ⟨rfl, hra, hga⟩
          have HFa := Lib.hid ((HBo.out.drewN 1).2.other (HBo.out.drewN 1).1 hga)
          have HDa := Lib.hid hra
          skip
          have hSa : Below w.heap.size w wa ∧ wa.cell? ⟨b, off + k * 2 + 1, none⟩ = some (.int .i64 y) := ⟨below_grown (w := w) HBel.out.drew hga hg2w, hga.cell (w := wr.drew) HY.out (fun e => by injection e with e; have e : b = g2 := e; omega)⟩
          refine hK.out _ _ hSa (fun hH => ?_)
          clear hK K hra hga hH hHeld
          try simp only [Act.put, List.setIfInBounds_toArray, List.set_cons_zero, List.set_cons_succ]
          refine wpAnyH_ready (rs := [13]) (by kernel_rfl) (by simp) ?_
          refine AllReadyH.cons (o := ⟨some 48, _, _, _, _, _⟩) rfl (fun K hK => ?_) AllReadyH.nil
          go_simp
          refine (refTextR_any 0 w2.heap.size s y _ HFa.out y0 y1).mono ?_
          rintro e wb ⟨rfl, hrb, hgb⟩
          have HBb : Hid (Both wb g2 w2.heap.size (textS s y).2) := Lib.hid ⟨HDa.out.otherR HFa.out hgb, hrb⟩
          have hSb : Below w.heap.size w wb ∧ wb.cell? ⟨b, off + k * 2 + 1, none⟩ = some (.int .i64 y) := ⟨below_grown hSa.1 hgb hg3w, hgb.cell hSa.2 (fun e => by injection e with e; have e : b = w2.heap.size := e; omega)⟩
          refine hK.out _ _ hSb (fun hH => ?_)
          clear hK K hrb hgb hH
          try simp only [Act.put, List.setIfInBounds_toArray, List.set_cons_zero, List.set_cons_succ]
          have HNl := Lib.hid (Nat.le_trans (textS_len s y) hsl)
          have HBc := Lib.hid hSb.1
          generalize strOf (textS s y).1 = n at *
          generalize (textS s y).2 = t at *
          refine wpAnyH_take (i := 14) (oi := ⟨some 49, _, _, _, _, _⟩) (v := ?v14) rfl (by kernel_rfl) (by kernel_rfl) (by kernel_rfl) (fun _ _ _ h => h) (Or.inl ⟨by rfl, ?y14⟩) hSb ?r14
          case y14 =>
            intro wx hSx
            go_simp
            try with_reducible rfl
          try simp only [Act.put, List.setIfInBounds_toArray, List.set_cons_zero, List.set_cons_succ]
          refine wpAnyH_done (by kernel_rfl) ?_ _
          clear hSb hSa HDa HFa hx hy
          go_wp2_with fail
          have hce := HBb.out.2.e
          go_quiet (first | (go_at_call 26; exact quiet_left (errno_any 0 g2 t _ (HBb.out.drewN _).1)) | (go_at_call 27; exact quiet_left (left_any 0 g2 t _ (HBb.out.drewN _).1 HNl.out)) | (go_at_call 28; exact Calls.quiet_of (refLeft_any 0 w2.heap.size t _ (HBb.out.drewN _).2)) | (go_at_call 29; exact quiet_left (end_any 0 g2 t _ (HBb.out.drewN _).1 HNl.out)) | (go_at_call 30; exact Calls.quiet_of (refEnd_any 0 w2.heap.size t _ (HBb.out.drewN _).2)))
          go_wp2_with fail
          refine ⟨⟨k + 1, t, by omega, by omega, by go_num, Lib.hid (HBb.out.drewN _), Lib.hid (below_drewN HBc.out _), HNl.out⟩, ?_⟩
          simp [intOf]; omega
      · have q2 : decide ((k : Int) < 8) = false := decide_eq_false (by omega)
        go_wp2_with fail
        refine (lives_any _).mono ?_
        rintro e w9 ⟨rfl, hb9⟩
        have HB9 := Lib.hid (later HBel.out hb9)
        clear hb9
        go_wp2_with fail
        go_ret
        exact ⟨rfl, HB9.out⟩
    · have q1 : decide ((k : Int) < (clen : Int)) = false := decide_eq_false (by omega)
      go_wp2_with fail
      refine (lives_any _).mono ?_
      rintro e w9 ⟨rfl, hb9⟩
      have HB9 := Lib.hid (later HBel.out hb9)
      clear hb9
      go_wp2_with fail
      go_ret
      exact ⟨rfl, HB9.out⟩
end Go.Proofs.Ytkedbaknjekoaaa
