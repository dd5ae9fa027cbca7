/-
  What the statements stand on, part ZA1.
-/
import Derived.Test.YtnnapkakbdpkaaaGreatZA0
set_option linter.unusedVariables false
set_option linter.unusedSimpArgs false
namespace Go.Proofs.YtnnapkakbdpkaaaGreat
open Go.RowKit
set_option linter.unusedVariables false
set_option linter.unusedSimpArgs false
set_option maxRecDepth 20000
set_option maxHeartbeats 1600000 in
theorem refPart_any (s : ByteArray) (w : World) (hs : s.size ≤ maxLen) :
    Calls Tryz.prog 88 #[.string s] w fun e w' => e = .returned (.bool (filledB partI s)) ∧ w = w' := by
  unfold maxLen at hs
  go_enter Tryz.func88, Tryz.ntmps88
  go_wp2_with fail
  go_loop [3] (fun i => ∃ k : Nat, k ≤ s.size ∧ i = .int .i64 k ∧ allI partI (s.data.toList.take k) = true) (fun i => s.size - (intOf i).toNat)
  case atStart => exact ⟨0, Nat.zero_le _, rfl, by simp [allI]⟩
  case round =>
    obtain ⟨k, hk, rfl, hall⟩ := hrel
    have Hall := Lib.hid hall
    clear hall
    by_cases hlt : k < s.size
    · have hb : (s[k].toNat : Int) ≤ 255 := by have := s[k].toNat_lt; omega
      have Hp := Lib.hid (partI_eq (c := (s[k].toNat : Int)) (by omega) hb)
      have Hs := Lib.hid (allI_step partI s k hlt Hall.out)
      have Ht := Lib.hid (allI_stop partI s k hlt)
      cases hl : lowI (s[k].toNat : Int)
      · have Hl := Lib.hid hl
        clear hl
        go_wp2_with fail
        refine (low_any _ _ (by omega) hb).mono ?_
        rintro e w' ⟨rfl, rfl⟩
        rw [Hl.out]
        go_wp2
        all_goals first
          | (go_ret
             have hx : partI (s[k].toNat : Int) = false := by
               rw [Hp.out, Hl.out]
               try simp only [bne_iff_ne] at *
               simp
               omega
             rw [filledB_stop partI s (Ht.out hx)]
             exact ⟨rfl, rfl⟩)
          | (have hx : partI (s[k].toNat : Int) = true := by
               rw [Hp.out, Hl.out]
               try simp only [bne_eq_false_iff_eq] at *
               simp
               omega
             go_round
             case rel => exact ⟨k + 1, by omega, by go_num, Hs.out hx⟩
             case measure => simp [intOf]; omega)
      · have Hl := Lib.hid hl
        clear hl
        go_wp2_with fail
        refine (low_any _ _ (by omega) hb).mono ?_
        rintro e w' ⟨rfl, rfl⟩
        rw [Hl.out]
        go_wp2
        go_round
        case rel => exact ⟨k + 1, by omega, by go_num, Hs.out (by rw [Hp.out, Hl.out]; rfl)⟩
        case measure => simp [intOf]; omega
    · have Hf := Lib.hid (allI_full partI s k (by omega) Hall.out)
      by_cases h1 : s.size < 1
      · have Hn := Lib.hid (filledB_no partI s (.inl h1))
        go_wp2
        go_ret
        rw [Hn.out]
        exact ⟨rfl, rfl⟩
      · by_cases h2 : 16 < s.size
        · have Hn := Lib.hid (filledB_no partI s (.inr h2))
          have q1 : decide ((0 : Int) < (s.size : Int)) = true := by simp; omega
          have q2 : decide ((s.size : Int) < 17) = false := by simp; omega
          go_wp2
          go_ret
          rw [Hn.out]
          exact ⟨rfl, rfl⟩
        · have Hn := Lib.hid (filledB_in partI s (by omega) (by omega))
          have q1 : decide ((0 : Int) < (s.size : Int)) = true := by simp; omega
          have q2 : decide ((s.size : Int) < 17) = true := by simp; omega
          go_wp2
          go_ret
          rw [Hn.out, Hf.out]
          exact ⟨rfl, rfl⟩

set_option maxHeartbeats 1600000 in
theorem colon_any (s : ByteArray) (w : World) (hs : s.size ≤ maxLen) :
    Calls Tryz.prog 87 #[.string s] w fun e w' => e = .returned (.int .i64 (colonK s)) ∧ w = w' := by
  unfold maxLen at hs
  go_enter Tryz.func87, Tryz.ntmps87
  go_wp2_with fail
  go_loop [3] (fun i => ∃ k : Nat, k ≤ s.size ∧ i = .int .i64 k ∧ colonK s = (if Lib.indexByte (s.data.toList.drop k) 58 = -1 then -1 else Lib.indexByte (s.data.toList.drop k) 58 + k)) (fun i => s.size - (intOf i).toNat)
  case atStart => exact ⟨0, Nat.zero_le _, rfl, by rw [List.drop_zero]; unfold colonK; split <;> simp_all⟩
  case round =>
    obtain ⟨k, hk, rfl, hall⟩ := hrel
    have Hall := Lib.hid hall
    clear hall
    by_cases hlt : k < s.size
    · cases hc : ((s[k].toNat : Int) == 58)
      · have Hn := Lib.hid (colon_miss s k hlt hc)
        go_wp2
        go_round
        case rel => exact ⟨k + 1, by omega, by go_num, by rw [Hall.out]; exact Hn.out⟩
        case measure => simp [intOf]; omega
      · have Hn := Lib.hid (colon_hit s k hlt hc)
        go_wp2
        go_ret
        rw [Hall.out, Hn.out]
        exact ⟨rfl, rfl⟩
    · have Hn := Lib.hid (colon_end s k (by omega))
      go_wp2
      go_ret
      rw [Hall.out, Hn.out]
      exact ⟨rfl, rfl⟩
end Go.Proofs.YtnnapkakbdpkaaaGreat
namespace Go.Proofs.YtnnapkakbdpkaaaGreat
open Go.RowKit
set_option linter.unusedVariables false
set_option linter.unusedSimpArgs false
set_option maxRecDepth 20000
set_option maxHeartbeats 3200000 in
theorem refServer_any (s : ByteArray) (w : World) (hs : s.size ≤ maxLen) :
    Calls Tryz.prog 89 #[.string s] w fun e w' => e = .returned (.bool (serverB s)) ∧ w = w' := by
  unfold maxLen at hs
  go_enter Tryz.func89, Tryz.ntmps89
  go_wp2_with fail
  go_loop [3] (fun i => ∃ k : Nat, k ≤ s.size ∧ i = .int .i64 k ∧ srvTo s k) (fun i => s.size - (intOf i).toNat)
  case atStart => exact ⟨0, Nat.zero_le _, rfl, fun j hj => absurd hj (Nat.not_lt_zero j)⟩
  case round =>
    obtain ⟨k, hk, rfl, hall⟩ := hrel
    have Hall := Lib.hid hall
    clear hall
    by_cases hlt : k < s.size
    · have hb : (s[k].toNat : Int) ≤ 255 := byte_le _
      have Hp := Lib.hid (hostI_eq (c := (s[k].toNat : Int)) (by omega) hb)
      have Hs := Lib.hid (srv_step s k Hall.out hlt)
      have Ht := Lib.hid (srv_stop s k hlt)
      cases hl : lowI (s[k].toNat : Int)
      · have Hl := Lib.hid hl
        clear hl
        by_cases hin : 0 < k ∧ k < s.size - 1
        · obtain ⟨hin0, hin1⟩ := hin
          have q1 : decide ((0 : Int) < (k : Int)) = true := by simp; omega
          have q2 : decide ((k : Int) < (s.size : Int) - 1) = true := by simp; omega
          cases h46 : ((s[k].toNat : Int) == 46) <;> cases h45 : ((s[k].toNat : Int) == 45)
          · have hx : hostI (s[k].toNat : Int) = false := by rw [Hp.out, Hl.out, h46, h45]; rfl
            have Hn := Lib.hid (Ht.out Hl.out (.inr (.inr hx)))
            clear hx
            go_wp2_with fail
            refine (low_any _ _ (by omega) hb).mono ?_
            rintro e w' ⟨rfl, rfl⟩
            rw [Hl.out]
            go_wp2
            go_ret
            rw [Hn.out]
            exact ⟨rfl, rfl⟩
          all_goals
            have hx : hostI (s[k].toNat : Int) = true := by rw [Hp.out, Hl.out, h46, h45]; rfl
            have Hn := Lib.hid (Hs.out (.inr ⟨hin0, hin1, hx⟩))
            clear hx
            go_wp2_with fail
            refine (low_any _ _ (by omega) hb).mono ?_
            rintro e w' ⟨rfl, rfl⟩
            rw [Hl.out]
            go_wp2
            go_round
            case rel => exact ⟨k + 1, by omega, by go_num, Hn.out⟩
            case measure => simp [intOf]; omega
        · have Hn := Lib.hid (Ht.out Hl.out (by omega))
          go_wp2_with fail
          refine (low_any _ _ (by omega) hb).mono ?_
          rintro e w' ⟨rfl, rfl⟩
          rw [Hl.out]
          by_cases h0 : 0 < k
          · have q1 : decide ((0 : Int) < (k : Int)) = true := by simp; omega
            have q2 : decide ((k : Int) < (s.size : Int) - 1) = false := by simp; omega
            go_wp2
            all_goals
              go_ret
              rw [Hn.out]
              exact ⟨rfl, rfl⟩
          · have q1 : decide ((0 : Int) < (k : Int)) = false := by simp; omega
            go_wp2
            all_goals
              go_ret
              rw [Hn.out]
              exact ⟨rfl, rfl⟩
      · have Hl := Lib.hid hl
        clear hl
        go_wp2_with fail
        refine (low_any _ _ (by omega) hb).mono ?_
        rintro e w' ⟨rfl, rfl⟩
        rw [Hl.out]
        go_wp2
        all_goals
          go_round
          case rel => exact ⟨k + 1, by omega, by go_num, Hs.out (.inl Hl.out)⟩
          case measure => simp [intOf]; omega
    · by_cases h1 : s.size < 1
      · have Hn := Lib.hid (srv_long s (.inl h1))
        go_wp2
        go_ret
        rw [Hn.out]
        exact ⟨rfl, rfl⟩
      · by_cases h2 : 16 < s.size
        · have Hn := Lib.hid (srv_long s (.inr h2))
          have q1 : decide ((0 : Int) < (s.size : Int)) = true := by simp; omega
          have q2 : decide ((s.size : Int) < 17) = false := by simp; omega
          go_wp2
          go_ret
          rw [Hn.out]
          exact ⟨rfl, rfl⟩
        · have Hn := Lib.hid (srv_full s k Hall.out (by omega) (by omega) (by omega))
          have q1 : decide ((0 : Int) < (s.size : Int)) = true := by simp; omega
          have q2 : decide ((s.size : Int) < 17) = true := by simp; omega
          go_wp2
          go_ret
          rw [Hn.out]
          exact ⟨rfl, rfl⟩

theorem extract_le (s : ByteArray) (a b : Nat) : (s.extract a b).size ≤ s.size := by
  rw [Lib.size_eq, Lib.extract_data, List.length_take, List.length_drop, ← Lib.size_eq]; omega

set_option maxHeartbeats 1600000 in
theorem refNamed_any (s : ByteArray) (sign : Int) (w : World) (hs : s.size ≤ maxLen) :
    Calls Tryz.prog 60 #[.string s, .int .u8 sign] w fun e w' => e = .returned (.bool (namedB sign s)) ∧ w = w' := by
  have hs' := hs
  unfold maxLen at hs'
  have hg := colonK_ge s
  have hl := colonK_lt s
  by_cases h1 : colonK s < 1
  · have Hn := Lib.hid (named_off sign s h1)
    go_enter Tryz.func60, Tryz.ntmps60
    go_wp2_with fail
    refine (colon_any s _ hs).mono ?_
    rintro e w' ⟨rfl, rfl⟩
    go_wp2
    go_ret
    rw [Hn.out]
    exact ⟨rfl, rfl⟩
  · obtain ⟨k, hk⟩ := Int.eq_ofNat_of_zero_le (a := colonK s) (by omega)
    have hk1 : 1 ≤ k := by omega
    have hkl : k < s.size := by omega
    have hz : 0 < s.size := by omega
    have hn := named_on sign s k hk hk1 hz
    have Hk := Lib.hid hk
    clear hk h1 hg hl
    cases hd : ((s[0].toNat : Int) == sign)
    · rw [hd] at hn
      have Hn := Lib.hid hn
      have q1 : ((s[0].toNat : Int) != sign) = true := by rw [bne, hd]; rfl
      clear hn
      go_enter Tryz.func60, Tryz.ntmps60
      go_wp2_with fail
      refine (colon_any s _ hs).mono ?_
      rintro e w' ⟨rfl, rfl⟩
      rw [Hk.out]
      go_wp2
      go_ret
      rw [Hn.out]
      exact ⟨rfl, rfl⟩
    · rw [hd] at hn
      have Hn := Lib.hid hn
      have q1 : ((s[0].toNat : Int) != sign) = false := by rw [bne, hd]; rfl
      clear hn
      have hx := extract_le s 1 k
      have hy := extract_le s (k + 1) s.size
      go_enter Tryz.func60, Tryz.ntmps60
      go_wp2_with fail
      refine (colon_any s _ hs).mono ?_
      rintro e w' ⟨rfl, rfl⟩
      rw [Hk.out]
      go_wp2_with fail
      refine (refPart_any (s.extract 1 k) _ (Nat.le_trans hx hs)).mono ?_
      rintro e w' ⟨rfl, rfl⟩
      go_wp2_with fail
      refine (refServer_any (s.extract (k + 1) s.size) _ (Nat.le_trans hy hs)).mono ?_
      rintro e w' ⟨rfl, rfl⟩
      go_wp2
      all_goals
        go_ret
        rw [Hn.out]
        refine ⟨?_, rfl⟩
        simp [*]
end Go.Proofs.YtnnapkakbdpkaaaGreat
namespace Go.Proofs.YtnnapkakbdpkaaaGreat
open Go.RowKit
set_option linter.unusedVariables false
set_option linter.unusedSimpArgs false
set_option maxRecDepth 20000
set_option maxHeartbeats 3200000 in
theorem refEvent_any (s : ByteArray) (w : World) (hs : s.size ≤ maxLen) :
    Calls Tryz.prog 61 #[.string s] w fun e w' => e = .returned (.bool (eventB s)) ∧ w = w' := by
  unfold maxLen at hs
  by_cases h1 : s.size < 2
  · have Hn := Lib.hid (ev_size s (.inl h1))
    go_enter Tryz.func61, Tryz.ntmps61
    go_wp2
    go_ret
    rw [Hn.out]
    exact ⟨rfl, rfl⟩
  by_cases h2 : 17 < s.size
  · have Hn := Lib.hid (ev_size s (.inr h2))
    have q1 : decide ((s.size : Int) < 2) = false := by simp; omega
    have q2 : decide ((17 : Int) < (s.size : Int)) = true := by simp; omega
    go_enter Tryz.func61, Tryz.ntmps61
    go_wp2
    go_ret
    rw [Hn.out]
    exact ⟨rfl, rfl⟩
  have hz : 0 < s.size := by omega
  have q1 : decide ((s.size : Int) < 2) = false := by simp; omega
  have q2 : decide ((17 : Int) < (s.size : Int)) = false := by simp; omega
  cases hd : ((s[0].toNat : Int) == 36)
  · have Hn := Lib.hid (ev_other s hz hd)
    have q3 : ((s[0].toNat : Int) != 36) = true := by rw [bne, hd]; rfl
    go_enter Tryz.func61, Tryz.ntmps61
    go_wp2
    go_ret
    rw [Hn.out]
    exact ⟨rfl, rfl⟩
  have q3 : ((s[0].toNat : Int) != 36) = false := by rw [bne, hd]; rfl
  have Hd := Lib.hid hd
  clear hd
  go_enter Tryz.func61, Tryz.ntmps61
  go_wp2_with fail
  go_loop [3] (fun i => ∃ k : Nat, 1 ≤ k ∧ k ≤ s.size ∧ i = .int .i64 k ∧ evTo s k) (fun i => s.size - (intOf i).toNat)
  case atStart => exact ⟨1, Nat.le_refl _, by omega, rfl, fun j h1 h2 => by omega⟩
  case round =>
    obtain ⟨k, hk1, hk, rfl, hall⟩ := hrel
    have Hall := Lib.hid hall
    clear hall
    by_cases hlt : k < s.size
    · have hb : (s[k].toNat : Int) ≤ 255 := byte_le _
      have Hp := Lib.hid (signI_eq (c := (s[k].toNat : Int)) (by omega) hb)
      have Hs := Lib.hid (ev_step s k Hall.out hlt)
      have Ht := Lib.hid (ev_stop s k hk1 hlt)
      cases hl : lowI (s[k].toNat : Int)
      · have Hl := Lib.hid hl
        clear hl
        by_cases hgr : 65 ≤ (s[k].toNat : Int) ∧ (s[k].toNat : Int) ≤ 90
        · have hx : signI (s[k].toNat : Int) = true := by rw [Hp.out, Hl.out, decide_eq_true hgr]; rfl
          have Hn := Lib.hid (Hs.out hx)
          clear hx
          obtain ⟨hg1, hg2⟩ := hgr
          go_wp2_with fail
          refine (low_any _ _ (by omega) hb).mono ?_
          rintro e w' ⟨rfl, rfl⟩
          rw [Hl.out]
          go_wp2
          go_round
          case rel => exact ⟨k + 1, by omega, by omega, by go_num, Hn.out⟩
          case measure => simp [intOf]; omega
        · have hgr' := decide_eq_false hgr
          cases h45 : ((s[k].toNat : Int) == 45) <;> cases h95 : ((s[k].toNat : Int) == 95)
          · have hx : signI (s[k].toNat : Int) = false := by rw [Hp.out, Hl.out, hgr', h45, h95]; rfl
            have Hn := Lib.hid (Ht.out hx)
            have q4 : ((s[k].toNat : Int) != 45) = true := by rw [bne, h45]; rfl
            have q5 : ((s[k].toNat : Int) != 95) = true := by rw [bne, h95]; rfl
            clear hx hgr'
            by_cases hg1 : 65 ≤ (s[k].toNat : Int)
            · have q6 : decide ((65 : Int) ≤ (s[k].toNat : Int)) = true := decide_eq_true hg1
              have q7 : decide ((s[k].toNat : Int) ≤ 90) = false := by simp; omega
              clear hgr
              go_wp2_with fail
              refine (low_any _ _ (by omega) hb).mono ?_
              rintro e w' ⟨rfl, rfl⟩
              rw [Hl.out]
              go_wp2
              go_ret
              rw [Hn.out]
              exact ⟨rfl, rfl⟩
            · have q6 : decide ((65 : Int) ≤ (s[k].toNat : Int)) = false := by simp; omega
              clear hgr
              go_wp2_with fail
              refine (low_any _ _ (by omega) hb).mono ?_
              rintro e w' ⟨rfl, rfl⟩
              rw [Hl.out]
              go_wp2
              go_ret
              rw [Hn.out]
              exact ⟨rfl, rfl⟩
          all_goals
            have hx : signI (s[k].toNat : Int) = true := by rw [Hp.out, Hl.out, hgr', h45, h95]; rfl
            have Hn := Lib.hid (Hs.out hx)
            clear hx hgr' hgr
            have q4 : ((s[k].toNat : Int) != 45) = !((s[k].toNat : Int) == 45) := rfl
            have q5 : ((s[k].toNat : Int) != 95) = !((s[k].toNat : Int) == 95) := rfl
            rw [h45] at q4
            rw [h95] at q5
            go_wp2_with fail
            refine (low_any _ _ (by omega) hb).mono ?_
            rintro e w' ⟨rfl, rfl⟩
            rw [Hl.out]
            go_wp2
            all_goals
              go_round
              case rel => exact ⟨k + 1, by omega, by omega, by go_num, Hn.out⟩
              case measure => simp [intOf]; omega
      · have Hl := Lib.hid hl
        clear hl
        have hx : signI (s[k].toNat : Int) = true := by rw [Hp.out, Hl.out]; rfl
        have Hn := Lib.hid (Hs.out hx)
        clear hx
        go_wp2_with fail
        refine (low_any _ _ (by omega) hb).mono ?_
        rintro e w' ⟨rfl, rfl⟩
        rw [Hl.out]
        go_wp2
        all_goals
          go_round
          case rel => exact ⟨k + 1, by omega, by omega, by go_num, Hn.out⟩
          case measure => simp [intOf]; omega
    · have Hn := Lib.hid (ev_full s k Hall.out (by omega) (by omega) (by omega) Hd.out)
      go_wp2
      go_ret
      rw [Hn.out]
      exact ⟨rfl, rfl⟩

theorem refThread_any (s : ByteArray) (w : World) (hs : s.size ≤ maxLen) :
    Calls Tryz.prog 62 #[.string s] w fun e w' => e = .returned (.bool (threadB s)) ∧ w = w' := by
  go_enter Tryz.func62, Tryz.ntmps62
  go_wp2_with fail
  refine (refEvent_any s _ hs).mono ?_
  rintro e w' ⟨rfl, rfl⟩
  go_wp2
  all_goals
    go_ret
    refine ⟨?_, rfl⟩
    simp [threadB, *]

end Go.Proofs.YtnnapkakbdpkaaaGreat
namespace Go.Proofs.YtnnapkakbdpkaaaGreat
set_option maxRecDepth 20000
open Go.RowKit
def bV (b : UInt8) : Value := .int .u8 (b.toNat : Int)
def bVs (bs : List UInt8) : List Value := bs.map bV
theorem bVs_len (bs : List UInt8) : (bVs bs).length = bs.length := by simp [bVs]
def strOf (bs : List UInt8) : ByteArray := ⟨bs.toArray⟩
theorem strOf_size (bs : List UInt8) : (strOf bs).size = bs.length := by simp [strOf, ByteArray.size]
def Row (w : World) (lo : Nat) (v : Value) (bs : List UInt8) : Prop :=
 (v = .slice none 0 0 ∧ bs = []) ∨
 ∃ g off c cur, v = .slice (some ⟨g, off, none⟩) bs.length c ∧ lo ≤ g ∧ w.heap[g]? = some (.cells cur 5 (0, 0)) ∧ bs.length ≤ c ∧ c ≤ maxLen ∧ (cur.toList.drop off).take bs.length = bVs bs
def Own (w : World) (g cap : Nat) (bs : List UInt8) : Prop :=
 ∃ cur, w.heap[g]? = some (.cells cur 5 (0, 0)) ∧ bs.length ≤ cap ∧ cap ≤ maxLen ∧ cur.size = cap ∧ cur.toList.take bs.length = bVs bs
theorem heap_lt {w : World} {g : Nat} {o : Obj} (h : w.heap[g]? = some o) : g < w.heap.size := (Array.getElem?_eq_some_iff.1 h).1
theorem Own.lt {w : World} {g cap : Nat} {bs : List UInt8} (h : Own w g cap bs) : g < w.heap.size := by obtain ⟨cur, hh, _⟩ := h; exact heap_lt hh
theorem Own.row {w : World} {lo g cap : Nat} {bs : List UInt8} (h : Own w g cap bs) (hl : lo ≤ g) : Row w lo (.slice (some ⟨g, 0, none⟩) bs.length cap) bs := by
 obtain ⟨cur, hh, h1, h2, h3, h4⟩ := h
 exact .inr ⟨g, 0, cap, cur, rfl, hl, hh, h1, h2, by simpa using h4⟩
theorem Own.block {w w' : World} {g cap : Nat} {bs : List UInt8} (h : Own w g cap bs) (hb : w'.heap[g]? = w.heap[g]?) : Own w' g cap bs := by
 obtain ⟨cur, hh, r⟩ := h
 exact ⟨cur, hb.trans hh, r⟩
theorem Own.below {w w' : World} {g cap : Nat} {bs : List UInt8} (h : Own w g cap bs) (hb : Below w.heap.size w w') : Own w' g cap bs := h.block (hb.block g h.lt)
theorem Row.nil (w : World) (lo : Nat) : Row w lo (.slice none 0 0) [] := .inl ⟨rfl, rfl⟩
theorem Row.mono {w : World} {lo lo' : Nat} {v : Value} {bs : List UInt8} (h : Row w lo v bs) (hl : lo' ≤ lo) : Row w lo' v bs := by
 rcases h with h | ⟨g, off, c, cur, hv, hg, r⟩
 ·exact .inl h
 ·exact .inr ⟨g, off, c, cur, hv, by omega, r⟩
theorem Row.keep {w w' : World} {lo : Nat} {v : Value} {bs : List UInt8} (h : Row w lo v bs) (hk : ∀ g cur, lo ≤ g → w.heap[g]? = some (.cells cur 5 (0, 0)) → w'.heap[g]? = w.heap[g]?) : Row w' lo v bs := by
 rcases h with h | ⟨g, off, c, cur, hv, hg, hh, r⟩
 ·exact .inl h
 ·exact .inr ⟨g, off, c, cur, hv, hg, (hk g cur hg hh).trans hh, r⟩
theorem Row.below {w w' : World} {lo : Nat} {v : Value} {bs : List UInt8} (h : Row w lo v bs) (hb : Below w.heap.size w w') : Row w' lo v bs :=
 h.keep fun g cur _ hh => hb.block g (heap_lt hh)
theorem Row.grown {w w' : World} {lo k : Nat} {v : Value} {bs : List UInt8} (h : Row w lo v bs) (hb : w.grownBy w' (some k)) (hk : ∀ cur, w.heap[k]? ≠ some (.cells cur 5 (0, 0))) : Row w' lo v bs :=
 h.keep fun g cur _ hh => hb.block g (heap_lt hh) (fun e => by injection e with e; subst e; exact hk cur hh)
theorem Row.drew {w : World} {lo : Nat} {v : Value} {bs : List UInt8} (h : Row w lo v bs) : Row w.drew lo v bs := h
theorem Row.shape {w : World} {lo : Nat} {v : Value} {bs : List UInt8} (h : Row w lo v bs) : ∃ A c, v = .slice A bs.length c ∧ bs.length ≤ c ∧ c ≤ maxLen ∧ (A = none → c = 0) := by
 rcases h with ⟨rfl, rfl⟩ | ⟨g, off, c, cur, rfl, _, _, h1, h2, _⟩
 ·exact ⟨none, 0, rfl, Nat.le_refl _, Nat.zero_le _, fun _ => rfl⟩
 ·exact ⟨_, c, rfl, h1, h2, fun h => by cases h⟩
theorem at_of_take {cur : List Value} {off n : Nat} {xs : List Value} (h : (cur.drop off).take n = xs) {j : Nat} {u : Value} (hu : xs[j]? = some u) : cur[off + j]? = some u := by
 rw [← h, List.getElem?_take] at hu
 split at hu
 ·rwa [List.getElem?_drop] at hu
 ·cases hu
theorem Row.cells {w : World} {lo g off c : Nat} {bs : List UInt8} (h : Row w lo (.slice (some ⟨g, off, none⟩) bs.length c) bs) : ∀ j x, bs[j]? = some x → w.cell? ⟨g, off + j, none⟩ = some (bV x) := by
 intro j x hx
 rcases h with ⟨h, _⟩ | ⟨g', off', c', cur, hv, hg, hh, h1, h2, h3⟩
 ·cases h
 ·injection hv with ha _ _
  injection ha with ha
  injection ha with e1 e2 _
  subst e1 e2
  rw [cell_of_row w g (off + j) cur 5 (0, 0) hh]
  have : (bVs bs)[j]? = some (bV x) := by unfold bVs; rw [List.getElem?_map, hx]; rfl
  simpa using at_of_take h3 this
theorem Own.cells {w : World} {g cap : Nat} {bs : List UInt8} (h : Own w g cap bs) : ∀ j x, bs[j]? = some x → w.cell? ⟨g, j, none⟩ = some (bV x) := by
 intro j x hx
 have := (h.row (lo := 0) (Nat.zero_le _)).cells j x hx
 simpa using this
theorem conv_row {w : World} {lo : Nat} {v : Value} {bs : List UInt8} (h : Row w lo v bs) : (convert 171 9 v).run Tryz.prog w = .ok (.string (strOf bs)) w := by
 have h' := h
 rcases h with ⟨rfl, rfl⟩ | ⟨g, off, c, cur, rfl, hg, hh, h1, h2, h3⟩
 ·exact run_convert_bytes_nil (P := Tryz.prog) w 171 5 Tryz.underlying171 Tryz.underlying5 0 0 9 Tryz.underlying9
 ·have hr := run_convert_bytes_arg (P := Tryz.prog) w 171 5 Tryz.underlying171 Tryz.underlying5 g off bs.length c (bs.map fun b => (b.toNat : Int)) (by simp) (fun i hi => by
   rw [h'.cells i _ (List.getElem?_eq_getElem hi), List.getD_eq_getElem?_getD, List.getElem?_map, List.getElem?_eq_getElem hi]
   rfl) 9 Tryz.underlying9
  rw [hr]
  congr 2
  apply ByteArray.ext
  simp only [strOfNums, strOf, List.map_map]
  congr 1
  rw [show bs = bs.map id by simp]
  rw [List.map_map]
  apply List.map_congr_left
  intro x _
  simp [Function.comp]
def Puts (w : World) (B : Nat) (v : Value) (bs : List UInt8) : Prop :=
 (∃ A, v = .slice A bs.length bs.length ∧ Row w 0 (.slice A bs.length bs.length) bs) ∨ ∃ g cap, v = .slice (some ⟨g, 0, none⟩) bs.length cap ∧ B ≤ g ∧ Own w g cap bs
def MadeB (w : World) (B : Nat) (v : Value) (bs : List UInt8) : Prop := (v = .slice none 0 0 ∧ bs = []) ∨ ∃ g cap, v = .slice (some ⟨g, 0, none⟩) bs.length cap ∧ B ≤ g ∧ Own w g cap bs
theorem MadeB.row {w : World} {B : Nat} {v : Value} {bs : List UInt8} (h : MadeB w B v bs) : Row w B v bs := by
 rcases h with h | ⟨g, cap, rfl, hB, h⟩
 ·exact .inl h
 ·exact h.row hB
theorem MadeB.below {w w' : World} {B : Nat} {v : Value} {bs : List UInt8} (h : MadeB w B v bs) (hb : Below w.heap.size w w') : MadeB w' B v bs := by
 rcases h with h | ⟨g, cap, rfl, hB, h⟩
 ·exact .inl h
 ·exact .inr ⟨g, cap, rfl, hB, h.below hb⟩
theorem later {w a b : World} (h : Below w.heap.size w a) (k : Below a.heap.size a b) : Below w.heap.size w b := h.trans (k.mono h.size)
theorem below_drewN {B : Nat} {a w : World} (h : Below B a w) (n : Nat) : Below B a (w.drewN n) := ⟨h.os, h.tape, h.output, h.size, h.block⟩
theorem Puts.alloc {w : World} {B : Nat} {v : Value} {bs : List UInt8} (h : Puts w B v bs) (o : Obj) : Puts (w.alloc o) B v bs := by
 have hb : Below w.heap.size w (w.alloc o) := (Below.refl _ w).alloc (Nat.le_refl _) o
 rcases h with ⟨A, rfl, h⟩ | ⟨g, cap, rfl, hB, h⟩
 ·exact .inl ⟨A, rfl, h.below hb⟩
 ·exact .inr ⟨g, cap, rfl, hB, h.below hb⟩
end Go.Proofs.YtnnapkakbdpkaaaGreat
