/-
  both, named, Ancestors, Common.
-/
import Derived.Test.YtfbfdkibdjinaaaGreatDoorI8B
namespace Go.Proofs.YtfbfdkibdjinaaaGreatDoor
set_option maxRecDepth 20000
open Go.RowKit Go.Maps Go.ChangeMaps
set_option linter.unusedVariables false
set_option linter.unusedSimpArgs false

theorem ws_cases {ws : List Nat} (h : ws.length ≤ 1) : ws = [] ∨ ∃ W, ws = [W] := by
  cases ws with
  | nil => exact .inl rfl
  | cons W t => cases t with
    | nil => exact .inr ⟨W, rfl⟩
    | cons _ _ => simp at h
theorem cap_le {w : World} {A : Option Addr} {n c : Nat} {ws : List Nat} (h : LU.Slice w (.slice A n c) ws) : c ≤ 9223372036854775807 := by
  obtain ⟨A', c', he, -, h2, -⟩ := h
  injection he with _ _ h3
  unfold maxLen at h2
  omega
/-- A set of no word. -/
theorem both_none (A A' : Option Addr) (n n' c c' : Nat) (w : World) (hn : n = 0 ∨ n' = 0) (h1 : n ≤ 1) (h2 : n' ≤ 1) (hc : c ≤ 9223372036854775807) (hc' : c' ≤ 9223372036854775807) :
    Calls Tryz.prog 38 #[.slice A n c, .slice A' n' c'] w fun e w' => ∃ b, e = .returned (.slice (some ⟨b, 0, none⟩) 0 0) ∧ LU.Mine w' w.heap.size (.slice (some ⟨b, 0, none⟩) 0 0) [] ∧ Below w.heap.size w w' := by
  have hmk := run_make_row' (P := Tryz.prog) 77 110 (.int .u64 0) 8 Tryz.underlying77 (by kernel_rfl) rfl .i64 .i64 0 (by omega) (by omega)
  rw [show ((0 : Nat) : Int) = 0 from rfl] at hmk
  have HBN := Lib.hid (below_new w (.cells (madeCells #[.int .u64 0] 0) 110))
  have HM : Hid (LU.Mine (w.alloc (.cells (madeCells #[.int .u64 0] 0) 110)) w.heap.size (.slice (some ⟨w.heap.size, 0, none⟩) 0 0) []) := Lib.hid (.inr ⟨w.heap.size, 0, 0, _, rfl, Nat.le_refl _, heap_alloc_new w _, Nat.le_refl _, Nat.zero_le _, by simp [LU], by simp [Lies.vs]⟩)
  have hcs : (n = 0 ∧ n' = 0) ∨ (n = 0 ∧ n' = 1) ∨ (n = 1 ∧ n' = 0) := by omega
  have m1 : min (0 : Int) 1 = 0 := by decide
  have m2 : min (1 : Int) 0 = 0 := by decide
  clear hn h1 h2
  rcases hcs with ⟨rfl, rfl⟩ | ⟨rfl, rfl⟩ | ⟨rfl, rfl⟩
  all_goals
    go_enter Tryz.func38, Tryz.ntmps38
    go_upto_region 2 with (fail)
    clear hmk
    generalize w.alloc _ = w2 at HBN HM ⊢
    generalize hB : w.heap.size = B at HM ⊢
    go_wp2_with fail
    go_loopw [15] (fun i wr => i = .int .i64 0 ∧ wr = w2) (fun i _ => 0)
    case atStart => exact ⟨rfl, rfl⟩
    case round =>
      obtain ⟨rfl, rfl⟩ := hrel
      go_wp2_with fail
      go_ret
      exact ⟨B, rfl, by rw [hB]; exact HM.out, HBN.out⟩
theorem both_one (b o b' o' c c' W W' : Nat) (w : World) (hW : W < 512) (hW' : W' < 512) (hb : b < w.heap.size) (hb' : b' < w.heap.size) (hc : c ≤ 9223372036854775807) (hc' : c' ≤ 9223372036854775807) (h : w.cell? ⟨b, o, none⟩ = some (.int .u64 (W : Int))) (h' : w.cell? ⟨b', o', none⟩ = some (.int .u64 (W' : Int))) :
    Calls Tryz.prog 38 #[.slice (some ⟨b, o, none⟩) 1 c, .slice (some ⟨b', o', none⟩) 1 c'] w fun e w' => ∃ g, e = .returned (.slice (some ⟨g, 0, none⟩) 1 1) ∧ LU.Mine w' w.heap.size (.slice (some ⟨g, 0, none⟩) 1 1) [W &&& W'] ∧ Below w.heap.size w w' := by
  have hmk := run_make_row' (P := Tryz.prog) 77 110 (.int .u64 0) 8 Tryz.underlying77 (by kernel_rfl) rfl .i64 .i64 1 (by omega) (by omega)
  rw [show ((1 : Nat) : Int) = 1 from rfl] at hmk
  have HBN := Lib.hid (below_new w (.cells (madeCells #[.int .u64 0] 1) 110))
  have HM : Hid ((w.alloc (.cells (madeCells #[.int .u64 0] 1) 110)).heap[w.heap.size]? = some (.cells #[.int .u64 0] 110 (0, 0))) := Lib.hid (by have h := heap_alloc_new w (.cells (madeCells #[.int .u64 0] 1) 110); rw [made_one] at h ⊢; exact h)
  have k1 := index_any (P := Tryz.prog) knU (by decide) (b := b) (off := o) (cap := c) (i := 0) (len := 1) (by omega)
  have k2 := index_any (P := Tryz.prog) knU (by decide) (b := b') (off := o') (cap := c') (i := 0) (len := 1) (by omega)
  have k3 := index_any (P := Tryz.prog) knU (by decide) (b := w.heap.size) (off := 0) (cap := 1) (i := 0) (len := 1) (by omega)
  simp only [LU] at k1 k2 k3
  go_enter Tryz.func38, Tryz.ntmps38
  go_upto_region 2 with (fail)
  clear hmk
  have g1 : (w.alloc (.cells (madeCells #[.int .u64 0] 1) 110)).cell? ⟨b, o, none⟩ = some (.int .u64 (W : Int)) := (HBN.out.cell (p := ⟨b, o, none⟩) hb).trans h
  have g2 : (w.alloc (.cells (madeCells #[.int .u64 0] 1) 110)).cell? ⟨b', o', none⟩ = some (.int .u64 (W' : Int)) := (HBN.out.cell (p := ⟨b', o', none⟩) hb').trans h'
  generalize w.alloc _ = w2 at HBN HM g1 g2 ⊢
  generalize hB : w.heap.size = B at HM k3 hb hb' ⊢
  go_wp2_with fail
  go_loopw [15] (fun i wr => (i = .int .i64 0 ∧ wr = w2) ∨ (i = .int .i64 1 ∧ Hid (Below w.heap.size w wr ∧ wr.heap[B]? = some (.cells #[.int .u64 ((W &&& W' : Nat) : Int)] 110 (0, 0))))) (fun i _ => 1 - (intOf i).toNat)
  case atStart => exact .inl ⟨rfl, rfl⟩
  case round =>
    rcases hrel with ⟨rfl, rfl⟩ | ⟨rfl, HH⟩
    · have q1 := bits_and hW hW'
      have m0 : wr.cell? ⟨B, 0, none⟩ = some (.int .u64 0) := cell_at HM.out 0
      have f0 : wr.frozen? ⟨B, 0, none⟩ = false := free_at HM.out 0
      generalize (W &&& W' : Nat) = n at q1 ⊢
      have HR : Hid (Below w.heap.size w ((wr.setCell ⟨B, 0, none⟩ (.int .u64 (n : Int))).drew) ∧ ((wr.setCell ⟨B, 0, none⟩ (.int .u64 (n : Int))).drew).heap[B]? = some (.cells #[.int .u64 (n : Int)] 110 (0, 0))) := Lib.hid (by
        obtain ⟨cur, z1, z2, z3⟩ := sm_at B 110 [.int .u64 (n : Int)] 0 wr _ HM.out (Nat.le_refl 1)
        have z5 : cur = #[.int .u64 (n : Int)] := Array.toList_inj.1 z3
        rw [z5] at z1
        exact ⟨(HBN.out.grown (sm_grown wr B 0 [.int .u64 (n : Int)]) HBN.out.size (fun k hk => by injection hk with hk; omega)).drew, z1⟩)
      go_upto_region 5 with (fail)
      go_region
      generalize World.drew _ = w4 at HR ⊢
      go_wp2_with fail
      exact ⟨.inr ⟨rfl, HR⟩, by simp [intOf]⟩
    · go_wp2_with fail
      go_ret
      exact ⟨B, rfl, .inr ⟨B, 0, 1, _, rfl, Nat.le_of_eq hB, HH.out.2, Nat.le_refl _, by unfold maxLen; omega, by simp [LU], by simp [Lies.vs, LU]⟩, HH.out.1⟩
/-- both, of two pasts' sets. -/
theorem both_any (x z : PsV) (w : World) (hx : x.at w) (hz : z.at w) :
    Calls Tryz.prog 38 #[.slice x.A x.p.ws.length x.c, .slice z.A z.p.ws.length z.c] w fun e w' => ∃ u : PsV, e = .returned (.slice u.A u.p.ws.length u.c) ∧ u.at w' ∧ u.p.word = x.p.word &&& z.p.word ∧ Below w.heap.size w w' := by
  obtain ⟨⟨pl, ws⟩, A, c⟩ := x
  obtain ⟨⟨pl', ws'⟩, A', c'⟩ := z
  have hs : LU.Slice w (.slice A ws.length c) ws := hx.1
  have hs' : LU.Slice w (.slice A' ws'.length c') ws' := hz.1
  have hl : ws.length ≤ 1 := hx.2.len
  have hl' : ws'.length ≤ 1 := hz.2.len
  have hlt : ∀ W ∈ ws, W < 512 := hx.2.lt
  have hlt' : ∀ W ∈ ws', W < 512 := hz.2.lt
  have key : ws.length = 0 ∨ ws'.length = 0 → (List.headD ws 0) &&& (List.headD ws' 0) = 0 := fun h => by
    rcases h with h | h
    · rw [List.eq_nil_of_length_eq_zero h]; simp
    · rw [List.eq_nil_of_length_eq_zero h]; simp
  by_cases h0 : ws.length = 0 ∨ ws'.length = 0
  · refine (both_none A A' ws.length ws'.length c c' w h0 hl hl' (cap_le hs) (cap_le hs')).mono ?_
    rintro e w' ⟨b, rfl, hm, hb⟩
    exact ⟨⟨⟨0, []⟩, some ⟨b, 0, none⟩, 0⟩, rfl, ⟨hm.slice, zeroP_ok⟩, (key h0).symm, hb⟩
  · rcases ws_cases hl with rfl | ⟨W, rfl⟩
    · simp at h0
    rcases ws_cases hl' with rfl | ⟨W', rfl⟩
    · simp at h0
    have hW := hlt W (by simp)
    have hW' := hlt' W' (by simp)
    have hc := cap_le hs
    have hc' := cap_le hs'
    obtain ⟨b, o, rfl, hb, hr⟩ := hs.at (i := 0) (x := W) rfl
    obtain ⟨b', o', rfl, hb', hr'⟩ := hs'.at (i := 0) (x := W') rfl
    refine (both_one b o b' o' c c' W W' w hW hW' hb hb' hc hc' (by have := hr 0 _ rfl; simpa only [LU, Nat.zero_mul, Nat.add_zero] using this) (by have := hr' 0 _ rfl; simpa only [LU, Nat.zero_mul, Nat.add_zero] using this)).mono ?_
    rintro e w' ⟨g, rfl, hm, hb2⟩
    exact ⟨⟨⟨0, [W &&& W']⟩, some ⟨g, 0, none⟩, 1⟩, rfl, ⟨hm.slice, ⟨by show (0 : Nat) < 9; omega, Nat.le_refl _, fun V hV => by rw [List.mem_singleton.1 hV]; exact and_lt hW⟩⟩, rfl, hb2⟩
end Go.Proofs.YtfbfdkibdjinaaaGreatDoor

namespace Go.Proofs.YtfbfdkibdjinaaaGreatDoor
set_option maxRecDepth 20000
open Go.RowKit Go.Maps Go.ChangeMaps
set_option linter.unusedVariables false
set_option linter.unusedSimpArgs false

/-- The bits from t on. -/
def fromB (W t : Nat) : Nat := W / 2 ^ t * 2 ^ t
def pickB (V : Nat) : Nat := V &&& (V - 1)
theorem from_isF : ∀ W : Fin 512, ∀ t : Fin 10, fromB W.val t.val ≠ 0 → tzN (fromB W.val t.val) < 9 ∧ t.val ≤ tzN (fromB W.val t.val) ∧ W.val.testBit (tzN (fromB W.val t.val)) = true ∧ pickB (fromB W.val t.val) = fromB W.val (tzN (fromB W.val t.val) + 1) ∧ fromB W.val t.val < 512 ∧ (List.range 9).all (fun j => !(decide (t.val ≤ j) && decide (j < tzN (fromB W.val t.val))) || !W.val.testBit j) = true := by decide +kernel
theorem from_zeroF : ∀ W : Fin 512, ∀ t : Fin 10, fromB W.val t.val = 0 → (List.range 9).all (fun j => !decide (t.val ≤ j) || !W.val.testBit j) = true := by decide +kernel
theorem fromB_zero (W : Nat) : fromB W 0 = W := by simp [fromB]
def namedTo (s : List Ev) (W t : Nat) : List ByteArray := (List.range t).filterMap (fun j => if W.testBit j then (s[j]?).map Ev.id else none)
theorem namedTo_succ (s : List Ev) (W t : Nat) : namedTo s W (t + 1) = namedTo s W t ++ (if W.testBit t then (s[t]?).map Ev.id else none).toList := by
  unfold namedTo
  rw [List.range_succ, List.filterMap_append]
  congr 1
theorem namedTo_skip (s : List Ev) (W t : Nat) : ∀ n, (∀ j, t ≤ j → j < t + n → W.testBit j = false ∨ s[j]? = none) → namedTo s W (t + n) = namedTo s W t
  | 0, _ => rfl
  | n + 1, h => by
    rw [show t + (n + 1) = (t + n) + 1 from rfl, namedTo_succ, namedTo_skip s W t n (fun j h1 h2 => h j h1 (by omega))]
    rcases h (t + n) (by omega) (by omega) with hh | hh
    · rw [hh]; simp
    · rw [hh]; simp
theorem namedTo_len (s : List Ev) (W t : Nat) : (namedTo s W t).length ≤ t := by
  unfold namedTo
  exact Nat.le_trans (List.length_filterMap_le _ _) (by rw [List.length_range]; exact Nat.le_refl _)
theorem named_step {s : List Ev} {W t : Nat} (hW : W < 512) (ht : t ≤ 9) (h0 : fromB W t ≠ 0) (hs : ∀ j, W.testBit j = true → j < s.length) : ∃ e, s[tzN (fromB W t)]? = some e ∧ namedTo s W (tzN (fromB W t) + 1) = namedTo s W t ++ [e.id] ∧ pickB (fromB W t) = fromB W (tzN (fromB W t) + 1) ∧ tzN (fromB W t) < 9 ∧ fromB W t < 512 := by
  obtain ⟨h1, h2, h3, h4, h5, h6⟩ := from_isF ⟨W, hW⟩ ⟨t, by omega⟩ h0
  simp only [] at h1 h2 h3 h4 h5 h6
  generalize tzN (fromB W t) = z at h1 h2 h3 h4 h6
  have hz := hs z h3
  refine ⟨s[z], List.getElem?_eq_getElem hz, ?_, h4, h1, h5⟩
  have h7 : namedTo s W z = namedTo s W t := by
    have := namedTo_skip s W t (z - t) (fun j hj1 hj2 => by
      have := List.all_eq_true.1 h6 j (List.mem_range.2 (by omega))
      simp only [Bool.or_eq_true, Bool.not_eq_true', Bool.and_eq_false_iff, decide_eq_false_iff_not] at this
      rcases this with (h | h) | h
      · omega
      · omega
      · exact .inl h)
    rw [show t + (z - t) = z by omega] at this
    exact this
  rw [namedTo_succ, h7, h3, List.getElem?_eq_getElem hz]
  rfl
theorem named_end {s : List Ev} {W t : Nat} (hW : W < 512) (ht : t ≤ 9) (h0 : fromB W t = 0) (hs : s.length ≤ 9) : namedTo s W t = namedL s W := by
  have h6 := from_zeroF ⟨W, hW⟩ ⟨t, by omega⟩ h0
  simp only [] at h6
  have e1 : namedTo s W 9 = namedTo s W t := by
    have := namedTo_skip s W t (9 - t) (fun j hj1 hj2 => by
      have := List.all_eq_true.1 h6 j (List.mem_range.2 (by omega))
      simp only [Bool.or_eq_true, Bool.not_eq_true', decide_eq_false_iff_not] at this
      rcases this with h | h
      · omega
      · exact .inl h)
    rw [show t + (9 - t) = 9 by omega] at this
    exact this
  have e2 : namedTo s W 9 = namedTo s W s.length := by
    have := namedTo_skip s W s.length (9 - s.length) (fun j hj1 hj2 => .inr (List.getElem?_eq_none hj1))
    rw [show s.length + (9 - s.length) = 9 by omega] at this
    exact this
  rw [← e1, e2]
  rfl
theorem sub_wrap {V : Nat} (h0 : 0 < V) (h : V < 512) : IntKind.u64.wrap ((V : Int) - 1) = ((V - 1 : Nat) : Int) := by
  rw [IntKind.wrap_u64]
  omega

set_option maxHeartbeats 1600000 in
theorem named_any {l : List Ev} {g : Nat} {vr : Value} (x : PsV) (w : World) (hd : ∃ par d m, w.heap[g]? = some (IxB vr par d 0 m)) (hr : LT.Mine w 0 vr ((allL l).map Ev.id)) (hsz : ∀ e ∈ allL l, e.id.size ≤ 281474976710656) (hl : l.length ≤ 9) (hx : x.at w) (hw : ∀ j, x.p.word.testBit j = true → j < l.length) (ht : TabW w) :
    Calls Tryz.prog 35 #[.pointer (some ⟨g, 0, none⟩), .slice x.A x.p.ws.length x.c] w fun e w' => ∃ v, e = .returned v ∧ LT.Mine w' w.heap.size v (namedL (allL l) x.p.word) ∧ Below w.heap.size w w' := by
  obtain ⟨⟨pl, ws⟩, A, c⟩ := x
  have hs : LU.Slice w (.slice A ws.length c) ws := hx.1
  have hlen : ws.length ≤ 1 := hx.2.len
  have hlt : ∀ W ∈ ws, W < 512 := hx.2.lt
  have hc := cap_le hs
  obtain ⟨par, d, m, hhd⟩ := hd
  obtain ⟨A0, c0, hvr, h1, h2, -⟩ := id hr.slice
  rw [List.length_map, allL_len] at hvr h1
  subst hvr
  have hc0 : c0 ≤ 9223372036854775807 := by unfold maxLen at h2; omega
  have HHD := Lib.hid hhd
  have HR := Lib.hid hr
  have HSZ := Lib.hid hsz
  have HTB := Lib.hid ht
  clear hx hr h2 hhd hsz ht
  rcases ws_cases hlen with rfl | ⟨W, rfl⟩
  · have HE : Hid (namedL (allL l) (Pst.word ⟨pl, []⟩) = []) := Lib.hid (by simp [namedL, Pst.word])
    go_enter Tryz.func35, Tryz.ntmps35
    go_wp2_with fail
    go_loopw [5, 11] (fun u i wr => u = .slice none 0 0 ∧ i = .int .i64 0 ∧ wr = w) (fun _ i _ => 0)
    case atStart => exact ⟨rfl, rfl, rfl⟩
    case round =>
      obtain ⟨rfl, rfl, rfl⟩ := hrel
      go_wp2_with fail
      go_ret
      exact ⟨_, rfl, by show LT.Mine _ _ _ (namedL (allL l) (Pst.word ⟨pl, []⟩)); rw [HE.out]; exact .nil _ _, Below.refl _ _⟩
  · have hW := hlt W (by simp)
    have hb9 : ∀ j, W.testBit j = true → j < (allL l).length := fun j hj => by rw [allL_len]; exact hw j hj
    have HB9 := Lib.hid hb9
    obtain ⟨b, o, rfl, hb, hrr⟩ := hs.at (i := 0) (x := W) rfl
    have HW0 : Hid (w.cell? ⟨b, o, none⟩ = some (.int .u64 (W : Int))) := Lib.hid (by have := hrr 0 _ rfl; simpa only [LU, Nat.zero_mul, Nat.add_zero] using this)
    have hix := index_any (P := Tryz.prog) knU (by decide) (b := b) (off := o) (cap := c) (i := 0) (len := 1) (by omega)
    simp only [LU] at hix
    clear hrr hw hs hb9 hlt hlen
    go_enter Tryz.func35, Tryz.ntmps35
    go_wp2_with fail
    go_loopw [5, 11] (fun u i wr => (i = .int .i64 0 ∧ u = .slice none 0 0 ∧ wr = w) ∨ (i = .int .i64 1 ∧ Hid (LT.Mine wr w.heap.size u (namedL (allL l) W) ∧ Below w.heap.size w wr))) (fun _ i _ => 1 - (intOf i).toNat)
    case atStart => exact .inl ⟨rfl, rfl, rfl⟩
    case round =>
      rcases hrel with ⟨rfl, rfl, hwr⟩ | ⟨rfl, HH⟩
      · subst hwr
        have g0 := HW0.out
        have HV0 : Hid (fromB W 0 = W) := Lib.hid (fromB_zero W)
        go_wp2_with fail
        clear g0
        obtain ⟨w0, hw0⟩ : ∃ w0, w0 = wr := ⟨_, rfl⟩
        subst hw0
        go_loopw [5, 7] (fun u v wr => ∃ (t : Nat) (ids : List ByteArray) (Ao : Option Addr) (co : Nat), u = .slice Ao ids.length co ∧ v = .int .u64 ((fromB W t : Nat) : Int) ∧ t ≤ 9 ∧ ids.length ≤ t ∧ Hid (ids = namedTo (allL l) W t) ∧ Hid (LT.Mine wr w0.heap.size u ids) ∧ Hid (Below w0.heap.size w0 wr)) (fun _ v _ => (intOf v).toNat)
        case atStart => exact ⟨0, [], none, 0, rfl, by rw [HV0.out], Nat.zero_le _, Nat.le_refl _, Lib.hid rfl, Lib.hid (.nil _ _), Lib.hid (Below.refl _ _)⟩
        case round =>
          obtain ⟨t, ids, Ao, co, rfl, rfl, ht9, hidl, HID, HMI, HBE⟩ := hrel
          have hco : ids.length ≤ co ∧ co ≤ 9223372036854775807 := by
            obtain ⟨_, _, he, h5, hm, -⟩ := HMI.out.shape
            injection he with _ he2 he3
            unfold maxLen at hm
            omega
          by_cases hv0 : fromB W t = 0
          · have HEN := Lib.hid (named_end hW ht9 hv0 (s := allL l) (by rw [allL_len]; exact hl))
            rw [hv0]
            go_wp2_with fail
            exact ⟨.inr ⟨rfl, Lib.hid ⟨by rw [← HEN.out, ← HID.out]; exact HMI.out, HBE.out⟩⟩, by simp [intOf]⟩
          · obtain ⟨e, he, hns, hpk, hz9, hv512⟩ := named_step hW ht9 hv0 HB9.out
            have hvp : 0 < fromB W t := by omega
            have HTZ := Lib.hid (tz_any (fromB W t) wr hv512 hvp (HTB.out.below HBE.out HTB.out.1))
            have q1 : (((fromB W t : Nat) : Int) != 0) = true := by simp [hv0]
            have q2 := sub_wrap hvp hv512
            have q3 : bits BinOp.and IntKind.u64 ((fromB W t : Nat) : Int) ((fromB W t - 1 : Nat) : Int) = ((fromB W (tzN (fromB W t) + 1) : Nat) : Int) := by
              rw [bits_and hv512 (by omega), ← hpk]
              rfl
            have hles : fromB W (tzN (fromB W t) + 1) < fromB W t := by
              rw [← hpk]
              exact Nat.lt_of_le_of_lt Nat.and_le_right (by omega)
            have hzl : tzN (fromB W t) < l.length := by
              have := (List.getElem?_eq_some_iff.1 he).1
              rw [allL_len] at this
              exact this
            have hid2 : ((allL l).map Ev.id)[tzN (fromB W t)]? = some e.id := by rw [List.getElem?_map, he]; rfl
            have HNS := Lib.hid hns
            have HCL := Lib.hid (fun W' => clone_any e.id W' (HSZ.out e (List.mem_of_getElem? he)))
            generalize tzN (fromB W t) = z at hz9 HTZ q3 hles hzl hid2 HNS
            generalize hve : fromB W (z + 1) = v' at q3 hles
            have HVE := Lib.hid hve
            generalize fromB W t = v at hv0 hv512 hvp HTZ q1 q2 q3 hles ⊢
            obtain ⟨b3, o3, hA3, hb3, hr3⟩ := (show LT.Slice w0 (.slice A0 l.length c0) ((allL l).map Ev.id) from HR.out.slice).at hid2
            have r3 : wr.cell? ⟨b3, o3 + z, none⟩ = some (.string e.id) := (HBE.out.cell (p := ⟨b3, o3 + z, none⟩) hb3).trans (by have := hr3 0 _ rfl; simpa only [LT, Nat.mul_one, Nat.add_zero] using this)
            have hi3 := index_any (P := Tryz.prog) knT (by decide) (b := b3) (off := o3) (cap := c0) hzl
            simp only [LT] at hi3
            have hgl := smem_lt HHD.out
            have d0 : wr.cell? ⟨g, 0, none⟩ = some (.slice A0 l.length c0) := (HBE.out.cell (p := ⟨g, 0, none⟩) hgl).trans (cell_at HHD.out 0)
            rw [hA3] at d0
            have q4 : IntKind.i64.wrap (z : Int) = (z : Int) := IntWalk.i64_in _ (by omega)
            clear he hns hpk hid2 hr3 hve
            go_wp2_with fail
            go_at_call 53
            refine HTZ.out.mono ?_
            rintro e1 w1 ⟨rfl, rfl⟩
            go_wp2_with fail
            go_at_call 37
            refine (HCL.out _).mono ?_
            rintro e1 w2 ⟨rfl, hb2⟩
            have hlit := Lib.hid (show LT.Slice (w2.alloc (.cells #[.string e.id] 9)) (.slice (some ⟨w2.heap.size, 0, none⟩) 1 1) [e.id] from lit_slice (L := LT) w2 e.id w2.heap.size rfl #[.string e.id] rfl)
            have hb6 := below_new w2 (.cells #[.string e.id] 9)
            have HM6 := Lib.hid ((HMI.out.below hb2).below hb6)
            have HB6 := Lib.hid ((HBE.out.trans (hb2.mono HBE.out.size)).trans (hb6.mono (Nat.le_trans HBE.out.size hb2.size)))
            have hsz6 : w0.heap.size ≤ (w2.alloc (.cells #[.string e.id] 9)).heap.size := HB6.out.size
            clear hb2 hb6 HTZ HCL r3 d0
            go_wp2_with (at_builtin; refine wpList_puts rfl knT (.tmp 27) (.tmp 36) 39 rfl (v := .slice Ao ids.length co) rfl HM6.out hsz6 (.slice (some ⟨w2.heap.size, 0, none⟩) 1 1) [e.id] 1 rfl rfl (hlit.out.srcN knT rfl) (by omega) ?_; intro A7 cap7 w7 m7 g7 o7; have HM7 := Lib.hid m7; have HB7 := Lib.hid (HB6.out.grown g7 HB6.out.size (fun k hk => (HM6.out.lt k hk).1)); clear m7 g7 o7)
            refine ⟨⟨z + 1, ids ++ [e.id], A7, cap7, by rw [List.length_append]; rfl, by rw [HVE.out], by omega, by rw [HID.out, ← HNS.out]; exact namedTo_len _ _ _, Lib.hid (by rw [HNS.out, HID.out]), HM7, HB7⟩, ?_⟩
            simp [intOf]; omega
      · obtain ⟨A9, c9, rfl, -⟩ := id HH.out.1.slice
        go_wp2_with fail
        go_ret
        exact ⟨_, rfl, HH.out.1, HH.out.2⟩
end Go.Proofs.YtfbfdkibdjinaaaGreatDoor

namespace Go.Proofs.YtfbfdkibdjinaaaGreatDoor
set_option maxRecDepth 20000
open Go.RowKit Go.Maps Go.ChangeMaps
set_option linter.unusedVariables false
set_option linter.unusedSimpArgs false

noncomputable def ancL (l : List Ev) (a : ByteArray) : List ByteArray := ((allL l).filter (fun f => aheadB l f.id a)).map Ev.id
noncomputable def commonL (l : List Ev) (a b : ByteArray) : List ByteArray := ((allL l).filter (fun f => aheadB l f.id a && aheadB l f.id b)).map Ev.id
section
variable {w w' : World} {g mb : Nat} {l : List Ev} {vr : Value} {qs : List PsV} {room : ByteArray} {a b : ByteArray} {P : Nat → Prop}
theorem IxN.bit_lt (h : IxN w g l vr mb qs) (hv : Valid room l) {j : Nat} (hj : ((fQ (allL l) qs a).getD zeroV).p.word.testBit j = true) : j < l.length := by
  cases ha : hasE l a with
  | false =>
    rw [IxN.none_ hv ha] at hj
    simp [zeroV, zeroP, Pst.word] at hj
  | true =>
    obtain ⟨ja, ea, q, hea, hid, hf, hq, hm⟩ := h.some_ hv ha
    rw [hf, Option.getD_some, hq] at hj
    obtain ⟨f, hf1, -⟩ := (past_bit hv ja ea hea j).1 hj
    have := (List.getElem?_eq_some_iff.1 hf1).1
    rw [allL_len] at this
    exact this
theorem ids_small (hv : Valid room l) : ∀ e ∈ allL l, e.id.size ≤ 281474976710656 := fun e he => by
  obtain ⟨i, hi⟩ := List.getElem?_of_mem (((allL_row hv).2 e).1 he)
  have := (may_short (err_zero (hv i e hi)).1).1
  omega
theorem TabW.turnP (h : TabW w) (ht : TurnP P w w') (h0 : ¬ P 0) : TabW w' :=
  ⟨Nat.lt_of_lt_of_le h.1 ht.size, fun i hi => (World.cell?_of_block (a := ⟨0, i, none⟩) (ht.block 0 h.1 h0)).trans (h.2 i hi)⟩
theorem IxN.below (h : IxN w g l vr mb qs) (hb : Below w.heap.size w w') : IxN w' g l vr mb qs :=
  ⟨(hb.block g (smem_lt h.hd)).trans h.hd, h.row.below hb, h.map.keep (hb.block mb h.map.lt), h.len, h.is, fun q hq => (h.ws q hq).below hb⟩
end
/-- What a call that asks an index and tells a row tells: the row is none of the index's own. -/
def AskV (w w' : World) (g : Nat) (l : List Ev) (P : Nat → Prop) (v : Value) : Prop := ∃ P', CX w' g l P' ∧ TurnP P w w' ∧ (∀ k, P' k → P k ∨ w.heap.size ≤ k) ∧ ∀ k, v.ownBlock = some k → ¬ P' k
theorem AskV.ask {w w' : World} {g : Nat} {l : List Ev} {P : Nat → Prop} {v : Value} (h : AskV w w' g l P v) : AskX w w' g l P := by
  obtain ⟨P', h1, h2, h3, -⟩ := h
  exact ⟨P', h1, h2, h3⟩
set_option maxHeartbeats 1600000 in
theorem common_any {P : Nat → Prop} {g : Nat} {l : List Ev} (w : World) (h : CX w g l P) (a b : ByteArray) (ha : a.size ≤ maxLen) (hb : b.size ≤ maxLen) (ht : TabW w) (h0 : ¬ P 0) :
    Calls Tryz.prog 22 #[.pointer (some ⟨g, 0, none⟩), .string a, .string b] w fun e w' => ∃ v, e = .returned v ∧ LT.Mine w' w.heap.size v (commonL l a b) ∧ AskV w w' g l P v := by
  have HK := Lib.hid (known_any w h)
  obtain ⟨room, hv⟩ := h.val
  have hl := h.len
  have HV := Lib.hid hv
  have HTB := Lib.hid ht
  clear h hv ht
  have hfd := field_past
  go_enter Tryz.func22, Tryz.ntmps22
  go_wp2_with fail
  go_at_call 31
  refine HK.out.mono ?_
  rintro e w1 ⟨P', vr, mb, qs, rfl, hN, hI, hC, hT, hP⟩
  have HN := Lib.hid hN
  have HA : Hid (∀ w2 v, Below w1.heap.size w1 w2 → (∀ k, v.ownBlock = some k → w1.heap.size ≤ k) → AskV w w2 g l P v) := Lib.hid (fun w2 v hb hv => ⟨P', hC.below hb, hT.trans (.of_below hb) hP, hP, fun k hk e => by
    have h1 := hC.old k e
    have h2 := hv k hk
    omega⟩)
  have HT1 := Lib.hid (HTB.out.turnP hT h0)
  have hsz1 := hT.size
  have hl1 := hN.map.look ha
  have hl2 := hN.map.look hb
  have HZ1 := Lib.hid (hN.at_ HV.out hl a)
  have HZ2 := Lib.hid (hN.at_ HV.out hl b)
  have HW1 : Hid (∀ j e, (allL l)[j]? = some e → ((fQ (allL l) qs a).getD zeroV).p.word.testBit j = aheadB l e.id a) := Lib.hid (fun j e he => HN.out.bit HV.out he a)
  have HW2 : Hid (∀ j e, (allL l)[j]? = some e → ((fQ (allL l) qs b).getD zeroV).p.word.testBit j = aheadB l e.id b) := Lib.hid (fun j e he => HN.out.bit HV.out he b)
  have HL1 : Hid (∀ j, ((fQ (allL l) qs a).getD zeroV).p.word.testBit j = true → j < l.length) := Lib.hid (fun j hj => HN.out.bit_lt HV.out hj)
  generalize (fQ (allL l) qs a).getD zeroV = z1 at hl1 HZ1 HW1 HL1
  generalize (fQ (allL l) qs b).getD zeroV = z2 at hl2 HZ2 HW2
  unfold PsV.val PsV.sv at hl1 hl2
  have HBO := Lib.hid (both_any z1 z2 w1 HZ1.out HZ2.out)
  clear hN hI hC hT hP HK
  go_wp2_with fail
  go_at_call 38
  refine HBO.out.mono ?_
  rintro e w2 ⟨u, rfl, hu, huw, hb2⟩
  have HN2 := Lib.hid (HN.out.below hb2)
  have HNA := Lib.hid (named_any (l := l) (g := g) (vr := vr) u w2 ⟨_, _, _, HN2.out.hd⟩ HN2.out.row (ids_small HV.out) hl hu (fun j hj => HL1.out j (by rw [huw, Nat.testBit_and, Bool.and_eq_true] at hj; exact hj.1)) (HT1.out.below hb2 HT1.out.1))
  have HRS : Hid (namedL (allL l) u.p.word = commonL l a b) := Lib.hid (namedL_is _ _ _ (fun j f hf => by rw [huw, Nat.testBit_and, HW1.out j f hf, HW2.out j f hf]))
  have HB2 := Lib.hid hb2
  clear hu huw hb2 HBO hl1 hl2
  go_wp2_with fail
  go_at_call 35
  refine HNA.out.mono ?_
  rintro e w3 ⟨v, rfl, hm, hb3⟩
  obtain ⟨A9, c9, rfl, -⟩ := id hm.slice
  have HM := Lib.hid hm
  have HB3 := Lib.hid (HB2.out.trans (hb3.mono HB2.out.size))
  have hs2 := HB2.out.size
  clear hm hb3 HNA
  go_wp2_with fail
  go_ret
  exact ⟨_, rfl, by rw [← HRS.out]; exact HM.out.mono (by omega), HA.out _ _ HB3.out (fun k hk => by have h1 := (HM.out.lt k hk).1; omega)⟩
set_option maxHeartbeats 1600000 in
theorem ancestors_any {P : Nat → Prop} {g : Nat} {l : List Ev} (w : World) (h : CX w g l P) (a : ByteArray) (ha : a.size ≤ maxLen) (ht : TabW w) (h0 : ¬ P 0) :
    Calls Tryz.prog 19 #[.pointer (some ⟨g, 0, none⟩), .string a] w fun e w' => ∃ v, e = .returned v ∧ LT.Mine w' w.heap.size v (ancL l a) ∧ AskV w w' g l P v := by
  have HK := Lib.hid (known_any w h)
  obtain ⟨room, hv⟩ := h.val
  have hl := h.len
  have HV := Lib.hid hv
  have HTB := Lib.hid ht
  clear h hv ht
  have hfd := field_past
  go_enter Tryz.func19, Tryz.ntmps19
  go_wp2_with fail
  go_at_call 31
  refine HK.out.mono ?_
  rintro e w1 ⟨P', vr, mb, qs, rfl, hN, hI, hC, hT, hP⟩
  have HN := Lib.hid hN
  have HA : Hid (∀ w2 v, Below w1.heap.size w1 w2 → (∀ k, v.ownBlock = some k → w1.heap.size ≤ k) → AskV w w2 g l P v) := Lib.hid (fun w2 v hb hv => ⟨P', hC.below hb, hT.trans (.of_below hb) hP, hP, fun k hk e => by
    have h1 := hC.old k e
    have h2 := hv k hk
    omega⟩)
  have HT1 := Lib.hid (HTB.out.turnP hT h0)
  have hsz1 := hT.size
  have hl1 := hN.map.look ha
  have HZ1 := Lib.hid (hN.at_ HV.out hl a)
  have HRS : Hid (namedL (allL l) ((fQ (allL l) qs a).getD zeroV).p.word = ancL l a) := Lib.hid (namedL_is _ _ _ (fun j f hf => HN.out.bit HV.out hf a))
  have HL1 : Hid (∀ j, ((fQ (allL l) qs a).getD zeroV).p.word.testBit j = true → j < l.length) := Lib.hid (fun j hj => HN.out.bit_lt HV.out hj)
  generalize (fQ (allL l) qs a).getD zeroV = z1 at hl1 HZ1 HRS HL1
  unfold PsV.val PsV.sv at hl1
  have HNA := Lib.hid (named_any (l := l) (g := g) (vr := vr) z1 w1 ⟨_, _, _, HN.out.hd⟩ HN.out.row (ids_small HV.out) hl HZ1.out HL1.out HT1.out)
  clear hN hI hC hT hP HK
  go_wp2_with fail
  go_at_call 35
  refine HNA.out.mono ?_
  rintro e w3 ⟨v, rfl, hm, hb3⟩
  obtain ⟨A9, c9, rfl, -⟩ := id hm.slice
  have HM := Lib.hid hm
  have HB3 := Lib.hid hb3
  clear hm hb3 HNA hl1
  go_wp2_with fail
  go_ret
  exact ⟨_, rfl, by rw [← HRS.out]; exact HM.out.mono (by omega), HA.out _ _ HB3.out (fun k hk => by have h1 := (HM.out.lt k hk).1; omega)⟩
end Go.Proofs.YtfbfdkibdjinaaaGreatDoor
