/-
  An EDU's bytes, as package edu lays them.
-/
import Derived.Test.YtahgkhcmchbpbaaLocal
namespace Go.Proofs.Ytahgkhcmchbpbaa
open Go.RowKit
set_option linter.unusedVariables false
set_option linter.unusedSimpArgs false
set_option maxRecDepth 4000

/-- The texts of an EDU, and its last numbers. -/
def txtK (e : Edu) (k : Nat) : ByteArray := if k = 0 then e.room else if k = 1 then e.user else if k = 2 then e.event else e.thread
def numK (e : Edu) (k : Nat) : Int := if k = 0 then e.span else if k = 1 then e.state else if k = 2 then e.tick else e.stamp
def headB (e : Edu) : Nat → List UInt8
  | 0 => digs (natI e.kind)
  | k + 1 => headB e k ++ textB (txtK e k)
def tailB (e : Edu) : Nat → List UInt8
  | 0 => headB e 4 ++ flagB e.on
  | k + 1 => tailB e k ++ digs (natI (numK e k))
theorem tail_all (e : Edu) : tailB e 4 = bytesB e := by
  simp [tailB, headB, bytesB, txtK, numK, List.append_assoc]
def Edu.short (e : Edu) : Prop := e.room.size ≤ 40 ∧ e.user.size ≤ 40 ∧ e.event.size ≤ 40 ∧ e.thread.size ≤ 40
theorem txt_short {e : Edu} (h : e.short) (k : Nat) : (txtK e k).size ≤ 40 := by
  obtain ⟨h1, h2, h3, h4⟩ := h
  unfold txtK
  split
  · exact h1
  · split
    · exact h2
    · split
      · exact h3
      · exact h4
theorem num_fits {e : Edu} (h : e.fits) (k : Nat) : -9223372036854775808 ≤ numK e k ∧ numK e k ≤ 9223372036854775807 := by
  obtain ⟨h0, h1, h2, h3, h4⟩ := h
  unfold numK
  split
  · exact h1
  · split
    · exact h2
    · split
      · exact h3
      · exact h4
theorem head_len {e : Edu} (hf : e.fits) (h : e.short) : ∀ k, (headB e k).length ≤ 9 + 49 * k
  | 0 => len_digs _ (natI_lt _ hf.1.2)
  | k + 1 => by
    have h1 := head_len hf h k
    have h2 := textB_len (txtK e k)
    have h3 := txt_short h k
    have h4 := len_digs (txtK e k).size (Nat.lt_of_le_of_lt h3 (by decide))
    rw [headB, List.length_append]
    omega
theorem tail_len {e : Edu} (hf : e.fits) (h : e.short) : ∀ k, (tailB e k).length ≤ 206 + 9 * k
  | 0 => by
    have h1 := head_len hf h 4
    rw [tailB, List.length_append]
    have : (flagB e.on).length = 1 := rfl
    omega
  | k + 1 => by
    have h1 := tail_len hf h k
    have h4 := len_digs _ (natI_lt _ (num_fits hf k).2)
    rw [tailB, List.length_append]
    omega
theorem bytes_len {e : Edu} (hf : e.fits) (h : e.short) : (bytesB e).length ≤ 242 := by rw [← tail_all]; exact tail_len hf h 4

/-- A struct, and a list of its own behind it. -/
def Listed (w : World) (box : Array Value) (L : Nat) (l : Array Value) (ty : TypeId) (w' : World) : Prop := One w box w' ∧ w'.heap[L]? = some (.cells l ty (0, 0)) ∧ w.heap.size < L
theorem Listed.later {w w' w'' : World} {box l : Array Value} {L : Nat} {ty : TypeId} (h : Listed w box L l ty w') (hb : Below w'.heap.size w' w'') : Listed w box L l ty w'' := ⟨h.1.later hb, (hb.block _ (heap_lt h.2.1)).trans h.2.1, h.2.2⟩

theorem str_cell (e : Edu) {w : World} {L : Nat} {ty : TypeId} (h : w.heap[L]? = some (.cells #[.string e.room, .string e.user, .string e.event, .string e.thread] ty (0, 0))) {k : Nat} (hk : k < 4) : w.cell? ⟨L, k, none⟩ = some (.string (txtK e k)) := by
  rw [cell_at h k]
  rcases (show k = 0 ∨ k = 1 ∨ k = 2 ∨ k = 3 by omega) with rfl | rfl | rfl | rfl <;> rfl
theorem int_cell (e : Edu) {w : World} {L : Nat} {ty : TypeId} (h : w.heap[L]? = some (.cells #[.int .i64 e.span, .int .i64 e.state, .int .i64 e.tick, .int .i64 e.stamp] ty (0, 0))) {k : Nat} (hk : k < 4) : w.cell? ⟨L, k, none⟩ = some (.int .i64 (numK e k)) := by
  rw [cell_at h k]
  rcases (show k = 0 ∨ k = 1 ∨ k = 2 ∨ k = 3 by omega) with rfl | rfl | rfl | rfl <;> rfl

set_option maxHeartbeats 3200000 in
theorem laid_any (e : Edu) (w : World) (hf : e.fits) (hs : e.short) : Calls Try.prog 32 #[e.val] w (PutPost w (bytesB e)) := by
  have HH := Lib.hid (head_len hf hs)
  have HT := Lib.hid (tail_len hf hs)
  have HA := Lib.hid (tail_all e)
  have HX := Lib.hid (txt_short hs)
  have HN := Lib.hid (num_fits hf)
  have hk0 := hf.1
  have HC := Lib.hid (fun (W : World) (L : Nat) (ty : TypeId) h (k : Nat) => str_cell e (w := W) (L := L) (ty := ty) h (k := k))
  have HI := Lib.hid (fun (W : World) (L : Nat) (ty : TypeId) h (k : Nat) => int_cell e (w := W) (L := L) (ty := ty) h (k := k))
  have H0 := Lib.hid (show headB e 0 = digs (natI e.kind) from rfl)
  have H1 := Lib.hid (show ∀ k, headB e (k + 1) = headB e k ++ textB (txtK e k) from fun _ => rfl)
  have H2 := Lib.hid (show ∀ k, tailB e (k + 1) = tailB e k ++ digs (natI (numK e k)) from fun _ => rfl)
  have H3 := Lib.hid (show tailB e 0 = headB e 4 ++ flagB e.on from rfl)
  clear hf hs
  generalize headB e = hd at *
  generalize tailB e = tl at *
  generalize bytesB e = bb at *
  generalize txtK e = tk at *
  generalize numK e = nk at *
  obtain ⟨k, r, u, v, t, p, o, s, z, c, m⟩ := e
  simp only [Edu.val] at *
  go_enter Try.func32, Try.ntmps32
  go_wp2_with fail
  have hO := one_new w #[.int .i64 k, .string r, .string u, .string v, .string t, .bool p, .bool o, .int .i64 s, .int .i64 z, .int .i64 c, .int .i64 m]
  have hWs := size_alloc1 w (.cells #[.int .i64 k, .string r, .string u, .string v, .string t, .bool p, .bool o, .int .i64 s, .int .i64 z, .int .i64 c, .int .i64 m] 23)
  generalize hW : (w.alloc (.cells #[.int .i64 k, .string r, .string u, .string v, .string t, .bool p, .bool o, .int .i64 s, .int .i64 z, .int .i64 c, .int .i64 m] 23)) = W at hO hWs ⊢
  clear hW
  refine (number_put (.slice none 0 0) [] 0 k _ (Row.nil _ _) (by simp) hk0.1 hk0.2).mono ?_
  rintro e w1 ⟨⟨g1, cap1, rfl, hg1, ho1⟩, hb1⟩
  rw [List.nil_append, ← H0.out] at ho1 ⊢
  replace hO := hO.later hb1
  obtain ⟨d0, d1, d2, d3, d4, d5, d6, d7, d8, d9, d10⟩ := cells11 hO.2
  have HO := Lib.hid hO
  have HW := Lib.hid ho1
  have hg1' : w.heap.size ≤ g1 := by have := HO.out.1.size; have := heap_lt HO.out.2; have := hWs; omega
  clear hO hb1 ho1 hg1 hWs W H0
  go_wp2_with fail
  have HL := Lib.hid (show Listed w #[.int .i64 k, .string r, .string u, .string v, .string t, .bool p, .bool o, .int .i64 s, .int .i64 z, .int .i64 c, .int .i64 m] w1.heap.size #[.string r, .string u, .string v, .string t] 9 (w1.alloc (.cells #[.string r, .string u, .string v, .string t] 9)) from ⟨HO.out.later (below_new w1 _), heap_alloc_new w1 _, heap_lt HO.out.2⟩)
  replace HW := Lib.hid (HW.out.below (below_new w1 (.cells #[.string r, .string u, .string v, .string t] 9)))
  have hlw : w.heap.size < w1.heap.size := heap_lt HO.out.2
  generalize hW : (w1.alloc (.cells #[.string r, .string u, .string v, .string t] 9)) = W at HL HW ⊢
  generalize hLL : w1.heap.size = L at HL hlw ⊢
  clear hW hLL HO d0 d1 d2 d3 d4 d5 d6 d7 d8 d9 d10
  clear w1
  go_loopw [3, 21] (fun b i wr => ∃ j : Nat, j ≤ 4 ∧ i = .int .i64 (j : Int) ∧ Hid (∃ g cap, b = .slice (some ⟨g, 0, none⟩) (hd j).length cap ∧ w.heap.size ≤ g ∧ Own wr g cap (hd j)) ∧ Hid (Listed w #[.int .i64 k, .string r, .string u, .string v, .string t, .bool p, .bool o, .int .i64 s, .int .i64 z, .int .i64 c, .int .i64 m] L #[.string r, .string u, .string v, .string t] 9 wr)) (fun _ i _ => 4 - (intOf i).toNat)
  case atStart => exact ⟨0, by omega, rfl, Lib.hid ⟨_, _, rfl, hg1', HW.out⟩, HL⟩
  case round =>
    obtain ⟨j, hj, rfl, HR, HK⟩ := hrel
    obtain ⟨g, cap, rfl, hgw, ho⟩ := HR.out
    replace ho := Lib.hid ho
    clear HR HW HL
    by_cases hlt : j < 4
    · have hc := HC.out _ _ _ HK.out.2.1 j hlt
      have q1 : decide ((j : Int) < 4) = true := decide_eq_true (by omega)
      have hlen := HH.out j
      have hl2 : (hd j).length ≤ 1000000 := by omega
      have hxs := HX.out j
      go_wp2_with fail
      refine (text_put _ (hd j) 0 (tk j) _ (ho.out.row (Nat.zero_le _)) hl2 (by omega)).mono ?_
      rintro e w2 ⟨⟨g2, cap2, rfl, hg2, ho2⟩, hb2⟩
      have HR2 := Lib.hid (show ∃ g cap, Value.slice (some ⟨g2, 0, none⟩) ((hd j).length + (textB (tk j)).length) cap2 = .slice (some ⟨g, 0, none⟩) (hd (j + 1)).length cap ∧ w.heap.size ≤ g ∧ Own w2 g cap (hd (j + 1)) from ⟨g2, cap2, by rw [H1.out, List.length_append], by have := HK.out.1.1.size; omega, own_cast ho2 (H1.out j).symm⟩)
      replace HK := Lib.hid (HK.out.later hb2)
      clear hb2 ho2 hc
      go_wp2_with fail
      go_roundw
      case rel => exact ⟨j + 1, by omega, by go_num, HR2, HK⟩
      case measure => simp [intOf]; omega
    · obtain rfl : j = 4 := by omega
      have hlen := HH.out 4
      have hl2 : (hd 4).length ≤ 1000000 := by omega
      obtain ⟨d0, d1, d2, d3, d4, d5, d6, d7, d8, d9, d10⟩ := cells11 HK.out.1.2
      go_wp2_with fail
      clear d0 d1 d2 d3 d4 d5 d6 d7 d8 d9 d10
      refine (flag_put _ (hd 4) 0 o _ (ho.out.row (Nat.zero_le _)) hl2).mono ?_
      rintro e w3 ⟨⟨g3, cap3, rfl, hg3, ho3⟩, hb3⟩
      rw [← H3.out] at ho3 ⊢
      have HO := Lib.hid (HK.out.later hb3).1
      have hgw3 : w.heap.size ≤ g3 := by have := HK.out.1.1.size; omega
      have HW := Lib.hid ho3
      clear hb3 ho3 HK ho hg3 hlen hl2
      obtain ⟨d0, d1, d2, d3, d4, d5, d6, d7, d8, d9, d10⟩ := cells11 HO.out.2
      go_wp2_with fail
      have HL := Lib.hid (show Listed w #[.int .i64 k, .string r, .string u, .string v, .string t, .bool p, .bool o, .int .i64 s, .int .i64 z, .int .i64 c, .int .i64 m] w3.heap.size #[.int .i64 s, .int .i64 z, .int .i64 c, .int .i64 m] 3 (w3.alloc (.cells #[.int .i64 s, .int .i64 z, .int .i64 c, .int .i64 m] 3)) from ⟨HO.out.later (below_new w3 _), heap_alloc_new w3 _, heap_lt HO.out.2⟩)
      replace HW := Lib.hid (HW.out.below (below_new w3 (.cells #[.int .i64 s, .int .i64 z, .int .i64 c, .int .i64 m] 3)))
      have hlw3 : w.heap.size < w3.heap.size := heap_lt HO.out.2
      generalize hW : (w3.alloc (.cells #[.int .i64 s, .int .i64 z, .int .i64 c, .int .i64 m] 3)) = W3 at HL HW ⊢
      generalize hLL : w3.heap.size = L3 at HL hlw3 ⊢
      clear hW hLL HO d0 d1 d2 d3 d4 d5 d6 d7 d8 d9 d10
      clear w3
      go_loopw [3, 43] (fun b i wr => ∃ j : Nat, j ≤ 4 ∧ i = .int .i64 (j : Int) ∧ Hid (∃ g cap, b = .slice (some ⟨g, 0, none⟩) (tl j).length cap ∧ w.heap.size ≤ g ∧ Own wr g cap (tl j)) ∧ Hid (Listed w #[.int .i64 k, .string r, .string u, .string v, .string t, .bool p, .bool o, .int .i64 s, .int .i64 z, .int .i64 c, .int .i64 m] L3 #[.int .i64 s, .int .i64 z, .int .i64 c, .int .i64 m] 3 wr)) (fun _ i _ => 4 - (intOf i).toNat)
      case atStart => exact ⟨0, by omega, rfl, Lib.hid ⟨_, _, rfl, hgw3, HW.out⟩, HL⟩
      case round =>
        obtain ⟨j, hj, rfl, HR, HK⟩ := hrel
        obtain ⟨g, cap, rfl, hgw, ho⟩ := HR.out
        replace ho := Lib.hid ho
        clear HR HW HL
        by_cases hlt : j < 4
        · have hc := HI.out _ _ _ HK.out.2.1 j hlt
          have q1 : decide ((j : Int) < 4) = true := decide_eq_true (by omega)
          have hlen := HT.out j
          have hl2 : (tl j).length ≤ 1000000 := by omega
          have hxs := HN.out j
          go_wp2_with fail
          refine (number_put _ (tl j) 0 (nk j) _ (ho.out.row (Nat.zero_le _)) hl2 hxs.1 hxs.2).mono ?_
          rintro e w2 ⟨⟨g2, cap2, rfl, hg2, ho2⟩, hb2⟩
          have HR2 := Lib.hid (show ∃ g cap, Value.slice (some ⟨g2, 0, none⟩) ((tl j).length + (digs (natI (nk j))).length) cap2 = .slice (some ⟨g, 0, none⟩) (tl (j + 1)).length cap ∧ w.heap.size ≤ g ∧ Own w2 g cap (tl (j + 1)) from ⟨g2, cap2, by rw [H2.out, List.length_append], by have := HK.out.1.1.size; omega, own_cast ho2 (H2.out j).symm⟩)
          replace HK := Lib.hid (HK.out.later hb2)
          clear hb2 ho2 hc
          go_wp2_with fail
          go_roundw
          case rel => exact ⟨j + 1, by omega, by go_num, HR2, HK⟩
          case measure => simp [intOf]; omega
        · obtain rfl : j = 4 := by omega
          go_wp2_with fail
          go_ret
          rw [HA.out] at *
          exact ⟨⟨g, cap, rfl, hgw, own_cast ho.out HA.out⟩, HK.out.1.1⟩

theorem short_max {e : Edu} (h : e.short) : e.room.size ≤ maxLen ∧ e.user.size ≤ maxLen ∧ e.event.size ≤ maxLen ∧ e.thread.size ≤ maxLen := by
  obtain ⟨h1, h2, h3, h4⟩ := h
  unfold maxLen
  omega
theorem write_no (e : Edu) (w : World) (hs : e.short) (hm : mayB e = false) : Calls Try.prog 13 #[e.val] w fun x w' => x = .returned (.tuple #[.slice none 0 0, .int .i64 1]) ∧ Below w.heap.size w w' := by
  obtain ⟨a1, a2, a3, a4⟩ := short_max hs
  have hL := fun w => may_any e w a1 a2 a3 a4
  rw [hm] at hL
  obtain ⟨k, r, u, v, t, p, o, s, z, c, m⟩ := e
  clear a1 a2 a3 a4 hs hm
  simp only [Edu.val] at hL ⊢
  replace hL := Lib.hid hL
  go_enter Try.func13, Try.ntmps13
  go_wp2_with fail
  have hT := one_new w #[.int .i64 k, .string r, .string u, .string v, .string t, .bool p, .bool o, .int .i64 s, .int .i64 z, .int .i64 c, .int .i64 m]
  generalize hW : (w.alloc (.cells #[.int .i64 k, .string r, .string u, .string v, .string t, .bool p, .bool o, .int .i64 s, .int .i64 z, .int .i64 c, .int .i64 m] 23)) = W at hT ⊢
  clear hW
  refine (hL.out _).mono ?_
  rintro e w1 ⟨rfl, hb1⟩
  have HB := Lib.hid (hT.later hb1).1
  clear hb1 hT
  go_wp2_with fail
  go_ret2
  exact ⟨rfl, HB.out⟩
theorem write_yes (e : Edu) (w : World) (hf : e.fits) (hs : e.short) (hm : mayB e = true) : Calls Try.prog 13 #[e.val] w fun x w' => (∃ g cap, x = .returned (.tuple #[.slice (some ⟨g, 0, none⟩) (bytesB e).length cap, .int .i64 0]) ∧ w.heap.size ≤ g ∧ Own w' g cap (bytesB e)) ∧ Below w.heap.size w w' := by
  obtain ⟨a1, a2, a3, a4⟩ := short_max hs
  have hL := fun w => may_any e w a1 a2 a3 a4
  have hB := fun w => laid_any e w hf hs
  rw [hm] at hL
  generalize bytesB e = bb at *
  obtain ⟨k, r, u, v, t, p, o, s, z, c, m⟩ := e
  clear a1 a2 a3 a4 hs hm hf
  simp only [Edu.val] at hL hB ⊢
  replace hL := Lib.hid hL
  replace hB := Lib.hid hB
  go_enter Try.func13, Try.ntmps13
  go_wp2_with fail
  have hT := one_new w #[.int .i64 k, .string r, .string u, .string v, .string t, .bool p, .bool o, .int .i64 s, .int .i64 z, .int .i64 c, .int .i64 m]
  generalize hW : (w.alloc (.cells #[.int .i64 k, .string r, .string u, .string v, .string t, .bool p, .bool o, .int .i64 s, .int .i64 z, .int .i64 c, .int .i64 m] 23)) = W at hT ⊢
  clear hW
  refine (hL.out _).mono ?_
  rintro e w1 ⟨rfl, hb1⟩
  have hT1 := hT.later hb1
  have HB := Lib.hid hT1
  obtain ⟨d0, d1, d2, d3, d4, d5, d6, d7, d8, d9, d10⟩ := cells11 hT1.2
  clear hb1 hT hT1
  go_wp2_with fail
  clear d0 d1 d2 d3 d4 d5 d6 d7 d8 d9 d10
  refine (hB.out _).mono ?_
  rintro e w2 ⟨⟨g2, cap2, rfl, hg2, ho2⟩, hb2⟩
  have HB2 := Lib.hid (HB.out.later hb2).1
  have HG := Lib.hid (show w.heap.size ≤ g2 by have := HB.out.1.size; omega)
  replace ho2 := Lib.hid ho2
  clear hb2 hg2
  go_wp2_with fail
  go_ret2
  exact ⟨⟨g2, cap2, rfl, HG.out, ho2.out⟩, HB2.out⟩
end Go.Proofs.Ytahgkhcmchbpbaa
