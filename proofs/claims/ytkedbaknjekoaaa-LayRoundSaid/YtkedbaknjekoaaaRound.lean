/-
  What is laid is read as it was, and nothing is left: the statement LayRound, walked.
-/
import Derived.Test.YtkedbaknjekoaaaReads
namespace Go.Proofs.Ytkedbaknjekoaaa
open Go.RowKit
set_option linter.unusedVariables false
set_option linter.unusedSimpArgs false

/-- A list that came in, its elements one cell each. -/
def ListAt (w : World) (a : Option Addr) (len : Nat) (f : Nat → Value) : Prop := len = 0 ∨ ∃ b off, a = some ⟨b, off, none⟩ ∧ ∀ j, j < len → w.cell? ⟨b, off + j, none⟩ = some (f j)
theorem ListAt.get {w : World} {a : Option Addr} {len : Nat} {f : Nat → Value} (h : ListAt w a len f) {k : Nat} (hk : k < len) : ∃ b off, a = some ⟨b, off, none⟩ ∧ b < w.heap.size ∧ w.cell? ⟨b, off + k, none⟩ = some (f k) := by
  rcases h with h | ⟨b, off, ha, h⟩
  · omega
  · exact ⟨b, off, ha, World.block_lt_of_cell? w _ (h k hk), h k hk⟩

theorem textS_text (f : ByteArray) (h : f.size ≤ 20) (r : List UInt8) : textS (textB f ++ r, 0) 20 = (f.data.toList, (r, 0)) := by
  have hn := numS_digs f.size (Nat.lt_of_le_of_lt h (by decide)) (f.data.toList ++ r) 0
  have hl : f.data.toList.length = f.size := by rw [Array.length_toList]; rfl
  unfold textB
  rw [List.append_assoc]
  rw [textS_take (n := f.size) (s1 := (f.data.toList ++ r, 0)) (by rw [hn]) (by rw [hn]) (by omega) (by simp only [List.length_append]; omega) rfl]
  simp only
  rw [← hl, List.take_left, List.drop_left]
theorem flagS_flag (b : Bool) (r : List UInt8) : flagS (flagB b ++ r, 0) = (b, (r, 0)) := by
  cases b <;> rfl

section
variable (z : Nat → Int) (t : Nat → ByteArray) (f : Nat → Bool)
/-- What is laid of one of each. -/
def itemB (k : Nat) : List UInt8 := digs (natI (z k)) ++ (textB (fewS (t k) 20) ++ flagB (f k))
/-- What is laid of so many, one behind the other. -/
def laidB : Nat → List UInt8
  | 0 => []
  | k + 1 => laidB k ++ itemB z t f k
/-- What is left of it, from the k-th on. -/
def restB : Nat → Nat → List UInt8
  | 0, _ => []
  | m + 1, k => itemB z t f k ++ restB m (k + 1)
theorem rest_snoc : ∀ (m k : Nat), restB z t f (m + 1) k = restB z t f m k ++ itemB z t f (k + m)
  | 0, k => by simp [restB]
  | m + 1, k => by
    rw [restB, rest_snoc m (k + 1), ← List.append_assoc, ← restB]
    congr 2
    omega
theorem laid_rest (n : Nat) : laidB z t f n = restB z t f n 0 := by
  induction n with
  | zero => rfl
  | succ n ih => rw [laidB, ih, rest_snoc, Nat.zero_add]
theorem item_len (k : Nat) (h : z k ≤ 9223372036854775807) : (itemB z t f k).length ≤ 39 := by
  have h1 := len_digs _ (natI_lt (z k) h)
  have h2 := fewS_size (t k) 20
  have h3 := len_digs (fewS (t k) 20).size (Nat.lt_of_le_of_lt h2 (by decide))
  unfold itemB
  rw [List.length_append, List.length_append, textB_len]
  show _ + (_ + 1) ≤ _
  omega
theorem laid_len (n : Nat) (h : ∀ k, k < n → z k ≤ 9223372036854775807) : (laidB z t f n).length ≤ 39 * n := by
  induction n with
  | zero => exact Nat.le_refl _
  | succ n ih =>
    rw [laidB, List.length_append]
    have h1 := ih (fun k hk => h k (by omega))
    have h2 := item_len z t f n (h n (by omega))
    omega
end

set_option maxHeartbeats 12800000 in
set_option maxRecDepth 100000 in
theorem round_walk (a1 a2 a3 : Option Addr) (n1 n2 n3 m1 m2 m3 : Nat) (z : Nat → Int) (t : Nat → ByteArray) (f : Nat → Bool) (w : World)
    (h1 : ListAt w a1 n1 (fun j => .int .i64 (z j))) (h2 : ListAt w a2 n2 (fun j => .string (t j))) (h3 : ListAt w a3 n3 (fun j => .bool (f j)))
    (hz : ∀ j, j < n1 → -9223372036854775808 ≤ z j ∧ z j ≤ 9223372036854775807) (ht : ∀ j, j < n2 → (t j).size ≤ maxLen) (e1 : n1 ≤ m1) (e2 : n2 ≤ m2) (e3 : n3 ≤ m3) (f1 : m1 ≤ maxLen) (f2 : m2 ≤ maxLen) (f3 : m3 ≤ maxLen) :
    Calls Try.prog 5 #[.slice a1 n1 m1, .slice a2 n2 m2, .slice a3 n3 m3] w fun e w' => e = .returned (.bool true) ∧ Below w.heap.size w w' := by
  have H1 := Lib.hid h1
  have H2 := Lib.hid h2
  have H3 := Lib.hid h3
  have HZ := Lib.hid hz
  have HTT := Lib.hid ht
  unfold maxLen at f1 f2 f3
  clear h1 h2 h3 hz ht
  obtain ⟨M, hM⟩ : ∃ M, M = min n1 (min n2 n3) := ⟨_, rfl⟩
  obtain ⟨N, hN⟩ : ∃ N, N = min M 5 := ⟨_, rfl⟩
  have g1 : N ≤ n1 := by omega
  have g2 : N ≤ n2 := by omega
  have g3 : N ≤ n3 := by omega
  have g5 : N ≤ 5 := by omega
  have HM := Lib.hid hM
  have HN := Lib.hid hN
  clear hM hN
  go_enter Try.func5, Try.ntmps5
  go_upto_region 2 with (fail)
  go_cut [8] (fun s8 wx => s8 = .int .i64 (M : Int) ∧ w = wx)
  case first =>
    go_wp2_with fail
    all_goals
      go_meet
      refine ⟨?_, rfl⟩
      have := HM.out
      exact congrArg (Value.int .i64) (by omega)
  case rest =>
    obtain ⟨rfl, rfl⟩ := hcut
    go_upto_region 3 with (fail)
    go_cut [8] (fun s8 wx => s8 = .int .i64 (N : Int) ∧ w = wx)
    case first =>
      go_wp2_with fail
      all_goals
        go_meet
        refine ⟨?_, rfl⟩
        have := HN.out
        exact congrArg (Value.int .i64) (by omega)
    case rest =>
      obtain ⟨rfl, rfl⟩ := hcut
      go_wp2_with fail
      go_loopw [7, 9] (fun o i wr => ∃ k : Nat, k ≤ N ∧ i = .int .i64 (k : Int) ∧ Hid (Row wr 0 o (laidB z t f k)) ∧ Hid (Below w.heap.size w wr)) (fun _ i _ => N - (intOf i).toNat)
      case atStart => exact ⟨0, by omega, rfl, Lib.hid (Row.nil _ _), Lib.hid (Below.refl _ _)⟩
      case round =>
        obtain ⟨k, hk, rfl, HR, HB⟩ := hrel
        have hln := laid_len z t f k (fun j hj => (HZ.out j (by omega)).2)
        have hln2 : (laidB z t f k).length ≤ 195 := by omega
        clear hln
        by_cases hkN : k < N
        · have q1 : decide ((k : Int) < (N : Int)) = true := decide_eq_true (by omega)
          obtain ⟨b1, o1, rfl, l1, c1⟩ := H1.out.get (k := k) (by omega)
          obtain ⟨b2, o2, rfl, l2, c2⟩ := H2.out.get (k := k) (by omega)
          obtain ⟨b3, o3, rfl, l3, c3⟩ := H3.out.get (k := k) (by omega)
          obtain ⟨z0, z1⟩ := HZ.out k (by omega)
          have htk := HTT.out k (by omega)
          have HI := Lib.hid (show laidB z t f (k + 1) = laidB z t f k ++ digs (natI (z k)) ++ textB (fewS (t k) 20) ++ flagB (f k) by rw [laidB, itemB, List.append_assoc, List.append_assoc])
          have hfl := fewS_size (t k) 20
          have hd1 := len_digs _ (natI_lt (z k) z1)
          have hd2 := len_digs (fewS (t k) 20).size (Nat.lt_of_le_of_lt hfl (by decide))
          have hd3 := textB_len (fewS (t k) 20)
          have hx1 : (laidB z t f k ++ digs (natI (z k))).length ≤ 300 := by rw [List.length_append]; omega
          have hx2 : (laidB z t f k ++ digs (natI (z k)) ++ textB (fewS (t k) 20)).length ≤ 400 := by rw [List.length_append]; omega
          clear hd1 hd2 hd3
          have d1 := (HB.out.cell (p := ⟨b1, o1 + k, none⟩) l1).trans c1
          have d2 := (HB.out.cell (p := ⟨b2, o2 + k, none⟩) l2).trans c2
          have d3 := (HB.out.cell (p := ⟨b3, o3 + k, none⟩) l3).trans c3
          go_wp2_with fail
          refine (number_put _ (laidB z t f k) 0 (z k) _ HR.out (by omega) z0 z1).mono ?_
          rintro e w1 ⟨⟨g4, cap4, rfl, hg4, ho4⟩, hb4⟩
          have HB1 := Lib.hid (later HB.out hb4)
          have HR1 := Lib.hid (ho4.row (lo := 0) (Nat.zero_le _))
          clear hb4 ho4 d1 d2 d3
          generalize laidB z t f k ++ digs (natI (z k)) = xs at *
          have d1 := (HB1.out.cell (p := ⟨b1, o1 + k, none⟩) l1).trans c1
          have d2 := (HB1.out.cell (p := ⟨b2, o2 + k, none⟩) l2).trans c2
          have d3 := (HB1.out.cell (p := ⟨b3, o3 + k, none⟩) l3).trans c3
          go_wp2_with fail
          refine (few_any (t k) 20 (by decide) _ htk).mono ?_
          rintro e wx ⟨rfl, rfl⟩
          go_wp2_with fail
          refine (text_put _ xs 0 (fewS (t k) 20) _ HR1.out (by omega) (by omega)).mono ?_
          rintro e w2 ⟨⟨g5', cap5, rfl, hg5, ho5⟩, hb5⟩
          have HB2 := Lib.hid (later HB1.out hb5)
          have HR2 := Lib.hid (ho5.row (lo := 0) (Nat.zero_le _))
          clear hb5 ho5 d1 d2 d3
          generalize xs ++ textB (fewS (t k) 20) = ys at *
          have d3 := (HB2.out.cell (p := ⟨b3, o3 + k, none⟩) l3).trans c3
          go_wp2_with fail
          refine (flag_put _ ys 0 (f k) _ HR2.out (by omega)).mono ?_
          rintro e w3 ⟨⟨g6, cap6, rfl, hg6, ho6⟩, hb6⟩
          have HB3 := Lib.hid (later HB2.out hb6)
          have HR3 := Lib.hid (show Row w3 0 (.slice (some ⟨g6, 0, none⟩) (ys ++ flagB (f k)).length cap6) (laidB z t f (k + 1)) by rw [HI.out]; exact ho6.row (Nat.zero_le _))
          clear hb6 ho6 d3
          generalize (ys ++ flagB (f k)).length = L6 at *
          go_wp2_with fail
          refine ⟨⟨k + 1, by omega, by go_num, HR3, HB3⟩, ?_⟩
          simp [intOf]; omega
        · have q1 : decide ((k : Int) < (N : Int)) = false := decide_eq_false (by omega)
          have hkk : N = k := by omega
          subst hkk
          have HRest := Lib.hid (laid_rest z t f N)
          go_wp2_with fail
          refine (read_any _ (laidB z t f N) 0 _ HR.out (by omega)).mono ?_
          rintro e w2 ⟨⟨g2', rfl, hg2', hr2⟩, hb2⟩
          rw [HRest.out] at hr2
          have HD2 := Lib.hid (hr2.mono (Nat.zero_le _))
          have HB2 := Lib.hid (later HB.out hb2)
          have hgw : w.heap.size ≤ g2' := Nat.le_trans HB.out.size hg2'
          clear hr2 hb2 HR
          go_wp2_with fail
          go_loopw [11] (fun i wr => ∃ k : Nat, k ≤ N ∧ i = .int .i64 (k : Int) ∧ Hid (Rd wr 0 g2' (restB z t f (N - k) k, 0)) ∧ Hid (Below w.heap.size w wr) ∧ Hid ((restB z t f (N - k) k).length ≤ 195)) (fun i _ => N - (intOf i).toNat)
          case atStart => exact ⟨0, by omega, rfl, HD2, HB2, Lib.hid (by rw [Nat.sub_zero, ← HRest.out]; exact hln2)⟩
          case round =>
            obtain ⟨k, hk2, rfl, HR, HBr, HLr⟩ := hrel
            clear HD2 HB2 HB
            by_cases hkN2 : k < N
            · have q1 : decide ((k : Int) < (N : Int)) = true := decide_eq_true (by omega)
              obtain ⟨b1, o1, rfl, l1, c1⟩ := H1.out.get (k := k) (by omega)
              obtain ⟨b2, o2, rfl, l2, c2⟩ := H2.out.get (k := k) (by omega)
              obtain ⟨b3, o3, rfl, l3, c3⟩ := H3.out.get (k := k) (by omega)
              obtain ⟨z0, z1⟩ := HZ.out k (by omega)
              have htk := HTT.out k (by omega)
              have k1 : k < n1 := by omega
              have k2 : k < n2 := by omega
              have k3 : k < n3 := by omega
              have hfl := fewS_size (t k) 20
              obtain ⟨m, hm⟩ : ∃ m, N - k = m + 1 := ⟨N - k - 1, by omega⟩
              have hm2 : N - (k + 1) = m := by omega
              rw [hm, restB, itemB, List.append_assoc] at HR HLr
              obtain ⟨r1, hr1⟩ : ∃ r1, r1 = restB z t f m (k + 1) := ⟨_, rfl⟩
              rw [← hr1, List.append_assoc] at HR HLr
              have HR1 := Lib.hid hr1
              have HM2 := Lib.hid hm2
              have hL1 : (digs (natI (z k)) ++ (textB (fewS (t k) 20) ++ (flagB (f k) ++ r1))).length ≤ 195 := HLr.out
              have hL2 : (textB (fewS (t k) 20) ++ (flagB (f k) ++ r1)).length ≤ 195 := by rw [List.length_append] at hL1; omega
              have hL3 : (flagB (f k) ++ r1).length ≤ 195 := by rw [List.length_append] at hL2; omega
              have hL4 : r1.length ≤ 195 := by rw [List.length_append] at hL3; omega
              have N1 := Lib.hid (numS_digs (natI (z k)) (natI_lt _ z1) (textB (fewS (t k) 20) ++ (flagB (f k) ++ r1)) 0)
              have N2 := Lib.hid (textS_text (fewS (t k) 20) hfl (flagB (f k) ++ r1))
              have N3 := Lib.hid (flagS_flag (f k) r1)
              have X1 := Lib.hid (readNum_any 0 g2' (digs (natI (z k)) ++ (textB (fewS (t k) 20) ++ (flagB (f k) ++ r1)), 0))
              clear hr1 hm hm2 HLr
              have HF := Lib.hid (fun (W : World) => few_any (t k) 20 (by decide) W htk)
              have HNz := Lib.hid (show ((natI (z k) : Nat) : Int) = max (z k) 0 by unfold natI; omega)
              generalize fewS (t k) 20 = ft at *
              generalize natI (z k) = nz at *
              generalize z k = zk at *
              generalize t k = tk at *
              generalize f k = fk at *
              go_wp2_with fail
              refine wp_region_held_drew (S := fun w' => Below w.heap.size w w') (by kernel_rfl) HBr.out.drew (fun hHeld => ?_)
              refine wpAnyH_take (i := 0) (oi := ⟨some 55, _, _, _, _, _⟩) (v := ?v0) rfl (by kernel_rfl) (by kernel_rfl) (by kernel_rfl) (fun _ _ _ h => h) (Or.inl ⟨by rfl, ?y0⟩) hHeld ?r0
              case y0 =>
                intro wx hSx
                go_simp
                try with_reducible rfl
              try simp only [Act.put, List.setIfInBounds_toArray, List.set_cons_zero, List.set_cons_succ]
              refine wpAnyH_take (i := 2) (oi := ⟨some 57, _, _, _, _, _⟩) (v := ?v2) rfl (by kernel_rfl) (by kernel_rfl) (by kernel_rfl) (fun _ _ _ h => h) (Or.inl ⟨by rfl, ?y2⟩) hHeld ?r2
              case y2 =>
                intro wx hSx
                go_simp
                try with_reducible rfl
              try simp only [Act.put, List.setIfInBounds_toArray, List.set_cons_zero, List.set_cons_succ]
              refine wpAnyH_take (i := 3) (oi := ⟨some 58, _, _, _, _, _⟩) (v := ?v3) rfl (by kernel_rfl) (by kernel_rfl) (by kernel_rfl) (fun _ _ _ h => h) (Or.inl ⟨by rfl, ?y3⟩) hHeld ?r3
              case y3 =>
                intro wx hSx
                go_simp
                try with_reducible rfl
              try simp only [Act.put, List.setIfInBounds_toArray, List.set_cons_zero, List.set_cons_succ]
              refine wpAnyH_take (i := 4) (oi := ⟨some 59, _, _, _, _, _⟩) (v := ?v4) rfl (by kernel_rfl) (by kernel_rfl) (by kernel_rfl) (fun _ _ _ h => h) (Or.inl ⟨by rfl, ?y4⟩) hHeld ?r4
              case y4 =>
                intro wx hSx
                go_simp
                try with_reducible rfl
              try simp only [Act.put, List.setIfInBounds_toArray, List.set_cons_zero, List.set_cons_succ]
              refine wpAnyH_take (i := 5) (oi := ⟨some 60, _, _, _, _, _⟩) (v := .int .i64 zk) rfl (by kernel_rfl) (by kernel_rfl) (by kernel_rfl) (fun _ _ _ h => h) (Or.inl ⟨by rfl, ?y5⟩) hHeld ?r5
              case y5 =>
                intro wx hSx
                have hce := (hSx.cell (p := ⟨b1, o1 + k, none⟩) l1).trans c1
                clear hSx
                go_simp
                try with_reducible rfl
              try simp only [Act.put, List.setIfInBounds_toArray, List.set_cons_zero, List.set_cons_succ]
              refine wpAnyH_take (i := 6) (oi := ⟨some 61, _, _, _, _, _⟩) (v := .int .i64 (nz : Int)) rfl (by kernel_rfl) (by kernel_rfl) (by kernel_rfl) (fun _ _ _ h => h) (Or.inl ⟨by rfl, ?y6⟩) hHeld ?r6
              case y6 =>
                intro wx hSx
                clear hSx
                rw [HNz.out]
                go_simp
                split <;> omega
              try simp only [Act.put, List.setIfInBounds_toArray, List.set_cons_zero, List.set_cons_succ]
              refine wpAnyH_ready (rs := [1]) (by kernel_rfl) (by simp) ?_
              refine AllReadyH.cons (o := ⟨some 56, _, _, _, _, _⟩) rfl (fun K hK => ?_) AllReadyH.nil
              go_simp
              refine (readNum_any 0 g2' (digs nz ++ (textB ft ++ (flagB fk ++ r1)), 0) _ (HR.out.drewN 1) (by simp only; omega)).mono ?_
              rintro e wa ⟨rfl, hrn, hgn⟩
              rw [N1.out] at hrn ⊢
              have Hwa := Lib.hid hrn
              have hHeld2 := below_grown (w := w) hHeld hgn hgw
              refine hK.out _ _ hHeld2 (fun hH => ?_)
              clear hK K hrn hgn hH hHeld
              have hHeld := hHeld2
              clear hHeld2
              try simp only [Act.put, List.setIfInBounds_toArray, List.set_cons_zero, List.set_cons_succ]
              refine wpAnyH_take (i := 7) (oi := ⟨some 62, _, _, _, _, _⟩) (v := ?v7) rfl (by kernel_rfl) (by kernel_rfl) (by kernel_rfl) (fun _ _ _ h => h) (Or.inl ⟨by rfl, ?y7⟩) hHeld ?r7
              case y7 =>
                intro wx hSx
                go_simp
                try with_reducible rfl
              try simp only [Act.put, List.setIfInBounds_toArray, List.set_cons_zero, List.set_cons_succ]
              refine wpAnyH_take (i := 8) (oi := ⟨some 63, _, _, _, _, _⟩) (v := ?v8) rfl (by kernel_rfl) (by kernel_rfl) (by kernel_rfl) (fun _ _ _ h => h) (Or.inl ⟨by rfl, ?y8⟩) hHeld ?r8
              case y8 =>
                intro wx hSx
                go_simp
                try with_reducible rfl
              try simp only [Act.put, List.setIfInBounds_toArray, List.set_cons_zero, List.set_cons_succ]
              refine wpAnyH_take (i := 9) (oi := ⟨some 64, _, _, _, _, _⟩) (v := ?v9) rfl (by kernel_rfl) (by kernel_rfl) (by kernel_rfl) (fun _ _ _ h => h) (Or.inl ⟨by rfl, ?y9⟩) hHeld ?r9
              case y9 =>
                intro wx hSx
                go_simp
                try with_reducible rfl
              try simp only [Act.put, List.setIfInBounds_toArray, List.set_cons_zero, List.set_cons_succ]
              refine wpAnyH_take (i := 11) (oi := ⟨some 66, _, _, _, _, _⟩) (v := ?v11) rfl (by kernel_rfl) (by kernel_rfl) (by kernel_rfl) (fun _ _ _ h => h) (Or.inl ⟨by rfl, ?y11⟩) hHeld ?r11
              case y11 =>
                intro wx hSx
                go_simp
                try with_reducible rfl
              try simp only [Act.put, List.setIfInBounds_toArray, List.set_cons_zero, List.set_cons_succ]
              refine wpAnyH_take (i := 12) (oi := ⟨some 67, _, _, _, _, _⟩) (v := ?v12) rfl (by kernel_rfl) (by kernel_rfl) (by kernel_rfl) (fun _ _ _ h => h) (Or.inl ⟨by rfl, ?y12⟩) hHeld ?r12
              case y12 =>
                intro wx hSx
                go_simp
                try with_reducible rfl
              try simp only [Act.put, List.setIfInBounds_toArray, List.set_cons_zero, List.set_cons_succ]
              refine wpAnyH_take (i := 13) (oi := ⟨some 68, _, _, _, _, _⟩) (v := ?v13) rfl (by kernel_rfl) (by kernel_rfl) (by kernel_rfl) (fun _ _ _ h => h) (Or.inl ⟨by rfl, ?y13⟩) hHeld ?r13
              case y13 =>
                intro wx hSx
                go_simp
                try with_reducible rfl
              try simp only [Act.put, List.setIfInBounds_toArray, List.set_cons_zero, List.set_cons_succ]
              refine wpAnyH_take (i := 14) (oi := ⟨some 69, _, _, _, _, _⟩) (v := .string tk) rfl (by kernel_rfl) (by kernel_rfl) (by kernel_rfl) (fun _ _ _ h => h) (Or.inl ⟨by rfl, ?y14⟩) hHeld ?r14
              case y14 =>
                intro wx hSx
                have hce := (hSx.cell (p := ⟨b2, o2 + k, none⟩) l2).trans c2
                clear hSx
                go_simp
                try with_reducible rfl
              try simp only [Act.put, List.setIfInBounds_toArray, List.set_cons_zero, List.set_cons_succ]
              refine wpAnyH_ready (rs := [10]) (by kernel_rfl) (by simp) ?_
              refine AllReadyH.cons (o := ⟨some 65, _, _, _, _, _⟩) rfl (fun K hK => ?_) AllReadyH.nil
              go_simp
              refine (readText_any 0 g2' (textB ft ++ (flagB fk ++ r1), 0) 20 _ Hwa.out (by simp only; omega) (by decide) (by decide)).mono ?_
              rintro e wb ⟨rfl, hrn, hgn⟩
              rw [N2.out] at hrn ⊢
              have Hwb := Lib.hid hrn
              have hHeld2 := below_grown (w := w) hHeld hgn hgw
              refine hK.out _ _ hHeld2 (fun hH => ?_)
              clear hK K hrn hgn hH hHeld
              have hHeld := hHeld2
              clear hHeld2
              try simp only [Act.put, List.setIfInBounds_toArray, List.set_cons_zero, List.set_cons_succ]
              rw [strOf_toList]
              refine anyH_asks (i := 15) (oi := ⟨some 70, _, _, _, _, _⟩) (v := .string ft) rfl (by kernel_rfl) (by kernel_rfl) (by kernel_rfl) (fun _ _ _ h => h) ⟨by rfl, fun wx hSx => ⟨_, _, ?e15, HF.out wx⟩⟩ hHeld ?r15
              case e15 => go_simp
              try simp only [Act.put, List.setIfInBounds_toArray, List.set_cons_zero, List.set_cons_succ]
              refine wpAnyH_take (i := 16) (oi := ⟨some 71, _, _, _, _, _⟩) (v := ?v16) rfl (by kernel_rfl) (by kernel_rfl) (by kernel_rfl) (fun _ _ _ h => h) (Or.inl ⟨by rfl, ?y16⟩) hHeld ?r16
              case y16 =>
                intro wx hSx
                go_simp
                try with_reducible rfl
              try simp only [Act.put, List.setIfInBounds_toArray, List.set_cons_zero, List.set_cons_succ]
              refine wpAnyH_take (i := 17) (oi := ⟨some 72, _, _, _, _, _⟩) (v := ?v17) rfl (by kernel_rfl) (by kernel_rfl) (by kernel_rfl) (fun _ _ _ h => h) (Or.inl ⟨by rfl, ?y17⟩) hHeld ?r17
              case y17 =>
                intro wx hSx
                go_simp
                try with_reducible rfl
              try simp only [Act.put, List.setIfInBounds_toArray, List.set_cons_zero, List.set_cons_succ]
              refine wpAnyH_take (i := 18) (oi := ⟨some 73, _, _, _, _, _⟩) (v := ?v18) rfl (by kernel_rfl) (by kernel_rfl) (by kernel_rfl) (fun _ _ _ h => h) (Or.inl ⟨by rfl, ?y18⟩) hHeld ?r18
              case y18 =>
                intro wx hSx
                go_simp
                try with_reducible rfl
              try simp only [Act.put, List.setIfInBounds_toArray, List.set_cons_zero, List.set_cons_succ]
              refine wpAnyH_take (i := 19) (oi := ⟨some 74, _, _, _, _, _⟩) (v := ?v19) rfl (by kernel_rfl) (by kernel_rfl) (by kernel_rfl) (fun _ _ _ h => h) (Or.inl ⟨by rfl, ?y19⟩) hHeld ?r19
              case y19 =>
                intro wx hSx
                go_simp
                try with_reducible rfl
              try simp only [Act.put, List.setIfInBounds_toArray, List.set_cons_zero, List.set_cons_succ]
              refine wpAnyH_take (i := 21) (oi := ⟨some 76, _, _, _, _, _⟩) (v := ?v21) rfl (by kernel_rfl) (by kernel_rfl) (by kernel_rfl) (fun _ _ _ h => h) (Or.inl ⟨by rfl, ?y21⟩) hHeld ?r21
              case y21 =>
                intro wx hSx
                go_simp
                try with_reducible rfl
              try simp only [Act.put, List.setIfInBounds_toArray, List.set_cons_zero, List.set_cons_succ]
              refine wpAnyH_take (i := 22) (oi := ⟨some 77, _, _, _, _, _⟩) (v := ?v22) rfl (by kernel_rfl) (by kernel_rfl) (by kernel_rfl) (fun _ _ _ h => h) (Or.inl ⟨by rfl, ?y22⟩) hHeld ?r22
              case y22 =>
                intro wx hSx
                go_simp
                try with_reducible rfl
              try simp only [Act.put, List.setIfInBounds_toArray, List.set_cons_zero, List.set_cons_succ]
              refine wpAnyH_take (i := 23) (oi := ⟨some 78, _, _, _, _, _⟩) (v := ?v23) rfl (by kernel_rfl) (by kernel_rfl) (by kernel_rfl) (fun _ _ _ h => h) (Or.inl ⟨by rfl, ?y23⟩) hHeld ?r23
              case y23 =>
                intro wx hSx
                go_simp
                try with_reducible rfl
              try simp only [Act.put, List.setIfInBounds_toArray, List.set_cons_zero, List.set_cons_succ]
              refine wpAnyH_take (i := 24) (oi := ⟨some 79, _, _, _, _, _⟩) (v := .bool fk) rfl (by kernel_rfl) (by kernel_rfl) (by kernel_rfl) (fun _ _ _ h => h) (Or.inl ⟨by rfl, ?y24⟩) hHeld ?r24
              case y24 =>
                intro wx hSx
                have hce := (hSx.cell (p := ⟨b3, o3 + k, none⟩) l3).trans c3
                clear hSx
                go_simp
                try with_reducible rfl
              try simp only [Act.put, List.setIfInBounds_toArray, List.set_cons_zero, List.set_cons_succ]
              refine wpAnyH_ready (rs := [20]) (by kernel_rfl) (by simp) ?_
              refine AllReadyH.cons (o := ⟨some 75, _, _, _, _, _⟩) rfl (fun K hK => ?_) AllReadyH.nil
              go_simp
              refine (readFlag_any 0 g2' (flagB fk ++ r1, 0) _ Hwb.out (by simp only; omega)).mono ?_
              rintro e wc ⟨rfl, hrn, hgn⟩
              rw [N3.out] at hrn ⊢
              have Hwc := Lib.hid hrn
              have hHeld2 := below_grown (w := w) hHeld hgn hgw
              refine hK.out _ _ hHeld2 (fun hH => ?_)
              clear hK K hrn hgn hH hHeld
              have hHeld := hHeld2
              clear hHeld2
              try simp only [Act.put, List.setIfInBounds_toArray, List.set_cons_zero, List.set_cons_succ]
              refine wpAnyH_take (i := 25) (oi := ⟨some 80, _, _, _, _, _⟩) (v := ?v25) rfl (by kernel_rfl) (by kernel_rfl) (by kernel_rfl) (fun _ _ _ h => h) (Or.inl ⟨by rfl, ?y25⟩) hHeld ?r25
              case y25 =>
                intro wx hSx
                go_simp
                try with_reducible rfl
              try simp only [Act.put, List.setIfInBounds_toArray, List.set_cons_zero, List.set_cons_succ]
              refine wpAnyH_take (i := 26) (oi := ⟨some 81, _, _, _, _, _⟩) (v := ?v26) rfl (by kernel_rfl) (by kernel_rfl) (by kernel_rfl) (fun _ _ _ h => h) (Or.inl ⟨by rfl, ?y26⟩) hHeld ?r26
              case y26 =>
                intro wx hSx
                go_simp
                try with_reducible rfl
              try simp only [Act.put, List.setIfInBounds_toArray, List.set_cons_zero, List.set_cons_succ]
              refine wpAnyH_done (by kernel_rfl) ?_ _
              have HK := Lib.hid hHeld
              clear hHeld
              have HEnd := Lib.hid (show Rd wc 0 g2' (restB z t f (N - (k + 1)) (k + 1), 0) by rw [HM2.out, ← HR1.out]; exact Hwc.out)
              have HLen := Lib.hid (show (restB z t f (N - (k + 1)) (k + 1)).length ≤ 195 by rw [HM2.out, ← HR1.out]; exact hL4)
              go_wp2_with fail
              refine ⟨⟨k + 1, by omega, by go_num, HEnd, HK, HLen⟩, ?_⟩
              simp [intOf]; omega
            · have q1 : decide ((k : Int) < (N : Int)) = false := decide_eq_false (by omega)
              have hkk : N = k := by omega
              subst hkk
              rw [Nat.sub_self, restB] at HR
              go_wp2_with fail
              refine (end_any 0 g2' ([], 0) _ HR.out (by simp)).mono ?_
              rintro e wx ⟨rfl, rfl⟩
              rw [show endS ([], 0) = 0 from rfl]
              go_wp2_with fail
              refine (left_any 0 g2' ([], 0) _ HR.out (by simp)).mono ?_
              rintro e wx ⟨rfl, rfl⟩
              go_wp2_with fail
              refine (lives_any _).mono ?_
              rintro e w9 ⟨rfl, hb9⟩
              have HB9 := Lib.hid (later HBr.out hb9)
              clear hb9
              go_wp2_with fail
              go_ret
              exact ⟨rfl, HB9.out⟩
end Go.Proofs.Ytkedbaknjekoaaa
