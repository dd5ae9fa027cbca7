/-
  MemberSteps: a step behind all others settles it: who joins so is joined, who leaves so is not, and nobody else's is another.
-/
import Derived.Test.YtfbfdkibdjinaaaGreatM9C
import Derived.Test.YtfbfdkibdjinaaaGreatMlP
namespace Go.Proofs.YtfbfdkibdjinaaaGreat
set_option maxRecDepth 20000
open Go.RowKit
set_option linter.unusedVariables false
set_option linter.unusedSimpArgs false

section
variable {C : Dags} {w w2 wr w' : World} {gd : Nat} {l l' : List Ev} {bs bs' : List (Nat × Obj)} {es es' : List EvV} {ts ts' : List (Value × List ByteArray)}
/-- A cell of a box of one's own is written. -/
theorem KpS.set {B : Nat} {cs : Array Value} {t : TypeId} (h : KpS C w w2 wr gd l ((B, .cells cs t (0, 0)) :: bs) es ts) (i : Nat) (u : Value) (hw : w.heap.size ≤ w2.heap.size) (hB : w2.heap.size ≤ B) (hb : ∀ q ∈ bs, q.1 ≠ B) (he : ∀ x ∈ es, ∀ k, footV x k → k ≠ B) (ht : ∀ p ∈ ts, ∀ k, 0 < p.2.length → p.1.ownBlock = some k → k ≠ B) :
    KpS C w w2 (wr.setCell ⟨B, i, none⟩ u) gd l ((B, .cells (cs.setIfInBounds i u) t (0, 0)) :: bs) es ts := by
  obtain ⟨hx, hno⟩ := h.box _ List.mem_cons_self
  have hg := sm_grown wr B i [u]
  have hf : ∀ k, k ≠ B → (wr.setCell ⟨B, i, none⟩ u).heap[k]? = wr.heap[k]? := fun k hk => Below.heap_setCell wr _ u k hk
  have hsz : wr.heap.size ≤ (wr.setCell ⟨B, i, none⟩ u).heap.size := hg.size
  obtain ⟨hc, ho⟩ := C.keep h.bd.code hsz (fun k hk => hf k (fun e => hno (e ▸ hk)))
  refine ⟨⟨hc, h.bd.below.grown hg h.bd.below.size (fun k hk => by injection hk with hk; omega), fun k hk => h.bd.fresh k (ho k hk)⟩, ⟨hg.os.trans h.turn.os, hg.tape.trans h.turn.tape, hg.output.trans h.turn.output, Nat.le_trans h.turn.size hsz, fun k hk hn => (hf k (by omega)).trans (h.turn.block k hk hn), fun k hk => h.turn.owns k (ho k hk)⟩, fun q hq => ?_, fun x hxx => ?_, fun p hp => ?_⟩
  · rcases List.mem_cons.1 hq with rfl | hq
    · exact ⟨heap_set hx i u, fun e => hno (ho _ e)⟩
    · obtain ⟨h1, h2⟩ := h.box q (List.mem_cons_of_mem _ hq)
      exact ⟨(hf _ (hb q hq)).trans h1, fun e => h2 (ho _ e)⟩
  · obtain ⟨h1, h2⟩ := h.ev x hxx
    exact ⟨h1.stay0 hsz (fun k hk hv => hf k (he x hxx k hv)), fun k hv e => h2 k hv (ho k e)⟩
  · obtain ⟨h1, h2⟩ := h.tx p hp
    exact ⟨h1.stay0 hsz (fun k hk h0 hv => hf k (ht p hp k h0 hv)), fun k h0 hv e => h2 k h0 hv (ho k e)⟩
end
theorem yK_add : ∀ k : Fin 9, (⟨#[36, 121]⟩ : ByteArray) ++ strOf [UInt8.ofNat (48 + k.val)] = yK k.val := by decide +kernel
theorem strOf1_size (b : UInt8) : (strOf [b]).size ≤ 10000 := by rw [strOf_size]; exact (by decide : 1 ≤ 10000)
theorem yK_full : ∀ k : Fin 9, yK k.val ≠ (⟨#[]⟩ : ByteArray) := by decide +kernel
theorem yK_len : ∀ k : Fin 9, (yK k.val).size ≤ maxLen := by decide +kernel
theorem eventK_len : ∀ k : Fin 9, (eventK k.val).size ≤ maxLen := by decide +kernel
theorem y_ok {user : ByteArray} {h : List ByteArray} {E : List Ev} (c : ChainOk roomR user h E) {a : Nat} (ha : a < h.length) (hus : user.size ≤ maxLen) : (yEv roomR user h a).ok := by
  have hl := c.len
  obtain ⟨k, hk⟩ := c.headK ha
  refine ⟨yK_len ⟨a, by omega⟩, roomR_size, Nat.zero_le _, hus, fun p hp => ?_, by show (-9223372036854775808 : Int) ≤ 0 ∧ (0 : Int) ≤ 9223372036854775807; omega⟩
  simp only [yEv, yPar] at hp
  split at hp
  · rw [List.mem_singleton.1 hp, hk]; exact eventK_len k
  · rcases List.mem_cons.1 hp with rfl | hp
    · rw [hk]; exact eventK_len k
    · rw [List.mem_singleton.1 hp]; exact yK_len ⟨a - 1, by omega⟩
theorem y_stored {w0 wr : World} {B15 Ba : Nat} {p : ByteArray} (hb : Below w0.heap.size w0 wr) (hlo : w0.heap.size ≤ B15) (hr : wr.heap[B15]? = some (.cells #[.string ⟨#[]⟩, .string ⟨#[]⟩, .slice none 0 0, .string ⟨#[]⟩, .string ⟨#[]⟩, .int .i64 0] 33 (0, 0))) (hla : w0.heap.size ≤ Ba) (hna : wr.heap[Ba]? = some (.cells #[.string p] 9 (0, 0))) (hne : B15 ≠ Ba) (id room user : ByteArray) :
    ∀ W, W = wr.setCells B15 0 [.string id, .string room, .slice (some ⟨Ba, 0, none⟩) 1 1, .string ⟨#[]⟩, .string user, .int .i64 0] → Below w0.heap.size w0 W ∧ w0.heap.size ≤ B15 ∧ W.heap[B15]? = some (.cells #[.string id, .string room, .slice (some ⟨Ba, 0, none⟩) 1 1, .string ⟨#[]⟩, .string user, .int .i64 0] 33 (0, 0)) ∧ LT.Mine W w0.heap.size (.slice (some ⟨Ba, 0, none⟩) 1 1) [p] ∧ B15 ≠ Ba := by
  rintro W rfl
  obtain ⟨cur, z1, z2, z3⟩ := sm_at B15 33 [.string id, .string room, .slice (some ⟨Ba, 0, none⟩) 1 1, .string ⟨#[]⟩, .string user, .int .i64 0] 0 wr _ hr (Nat.le_refl 6)
  have z5 : cur = #[.string id, .string room, .slice (some ⟨Ba, 0, none⟩) 1 1, .string ⟨#[]⟩, .string user, .int .i64 0] := Array.toList_inj.1 z3
  rw [z5] at z1
  have hg := sm_grown wr B15 0 [.string id, .string room, .slice (some ⟨Ba, 0, none⟩) 1 1, .string ⟨#[]⟩, .string user, .int .i64 0]
  have hnn : (some Ba : Option Nat) ≠ some B15 := fun e => hne (Option.some.inj e).symm
  have hb0 := hg.block Ba (smem_lt hna) hnn
  rw [hna] at hb0
  exact ⟨hb.grown hg hb.size (fun k hk => by injection hk with hk; omega), hlo, z1, .inr ⟨Ba, 0, 1, _, rfl, hla, hb0, Nat.le_refl _, by unfold maxLen; omega, by simp [LT], by simp [LT, Lies.vs]⟩, hne⟩
theorem toList_inj9 {a b : ByteArray} (h : a.toList = b.toList) : a = b := by
  rw [ByteArray.toList_eq, ByteArray.toList_eq] at h
  cases a
  cases b
  exact congrArg ByteArray.mk (Array.toList_inj.1 h)
theorem zK_len : zK.size ≤ maxLen := by decide
theorem z_ok {user : ByteArray} {h : List ByteArray} {E : List Ev} (c : ChainOk roomR user h E) (hus : user.size ≤ maxLen) {d : Int} (h0 : 0 ≤ d) (h2 : d ≤ 2) : (zEv roomR user h d).ok := by
  have hl := c.len
  refine ⟨zK_len, roomR_size, Nat.zero_le _, hus, fun p hp => ?_, by show (-9223372036854775808 : Int) ≤ d ∧ d ≤ 9223372036854775807; omega⟩
  simp only [zEv, zPar] at hp
  split at hp
  · cases hp
  · rw [List.mem_singleton.1 hp]; exact yK_len ⟨h.length - 1, by omega⟩
theorem text_cell {w : World} {bo oo n c a : Nat} {h : List ByteArray} {p : ByteArray} (hs : LT.Slice w (.slice (some ⟨bo, oo, none⟩) n c) h) (hi : h[a]? = some p) : w.cell? ⟨bo, oo + a, none⟩ = some (.string p) := by
  obtain ⟨b, o, hA, -, hr⟩ := text_at hs hi
  injection hA with hA
  injection hA with h1 h2
  rw [h1, h2]
  exact hr
/-- The last message so far. -/
def lastK (i : Nat) : ByteArray := if i = 0 then ⟨#[]⟩ else yK (i - 1)
theorem lastK_succ (i : Nat) : lastK (i + 1) = yK i := by simp [lastK]

set_option maxHeartbeats 6400000 in
theorem memberSteps_walk (C : Dags) (CA : DagAlls C) (v : Value) (gs : List GV) (na : Int) (jb : Bool) (w : World) (h : GsS w v gs) (hn0 : -9223372036854775808 ≤ na) (hn1 : na ≤ 9223372036854775807) :
    Calls Tryz.prog 7 #[v, .int .i64 na, .bool jb] w fun e w' => e = .returned (.bool true) ∧ Below w.heap.size w w' := by
  have HBU := Lib.hid (build9_any C v gs w h)
  obtain ⟨A0, c0, rfl, -⟩ := id h.1
  clear h
  go_enter Tryz.func7, Tryz.ntmps7
  go_wp2_with fail
  go_at_call 8
  refine HBU.out.mono ?_
  rintro e w1 ⟨gd, v', xs, rfl, hbt⟩
  obtain ⟨Av, cv, rfl, -, hv2, -⟩ := id hbt.evs.1
  have hv3 : cv ≤ 9223372036854775807 := by unfold maxLen at hv2; omega
  have hxl := hbt.len
  have HIDS : Hid (∀ e ∈ evs xs, ∃ k : Fin 9, e.id = eventK k.val) := Lib.hid hbt.ids
  have HVL : Hid (Valid roomR (evs xs)) := Lib.hid (C.valid hbt.bd.code)
  have hb2 := below_new w1 (.cells #[.string roomR, .slice Av xs.length cv] 26)
  have HX2 := Lib.hid (heap_alloc_new w1 (.cells #[.string roomR, .slice Av xs.length cv] 26))
  have HD2 := Lib.hid (hbt.bd.later hb2)
  have HE2 := Lib.hid (hbt.evs.below hb2)
  have HOF2 : Hid (∀ k, footE (.slice Av xs.length cv) xs k → ¬ C.own (w1.alloc (.cells #[.string roomR, .slice Av xs.length cv] 26)) gd k) := Lib.hid (fun k hk ho => hbt.off k hk ((C.keep hbt.bd.code hb2.size (fun k hk => hb2.block k (C.old hbt.bd.code hk))).2 k ho))
  have HOB2 : Hid (¬ C.own (w1.alloc (.cells #[.string roomR, .slice Av xs.length cv] 26)) gd w1.heap.size) := Lib.hid (fun ho => by
    have := C.old hbt.bd.code ((C.keep hbt.bd.code hb2.size (fun k hk => hb2.block k (C.old hbt.bd.code hk))).2 _ ho)
    omega)
  clear hbt hb2 HBU hv2
  go_upto_region 2 with (fail)
  generalize w1.alloc _ = w2 at HX2 HD2 HE2 HOF2 HOB2 ⊢
  generalize w1.heap.size = B4 at HX2 HOB2 ⊢
  have hb4lt := smem_lt HX2.out
  have HK2 : Hid (KpS C w w2 w2 gd (evs xs) [(B4, .cells #[.string roomR, .slice Av xs.length cv] 26 (0, 0))] [] []) := Lib.hid ⟨HD2.out, TurnD.refl _ _, fun q hq => by
    rw [List.mem_singleton.1 hq]
    exact ⟨HX2.out, HOB2.out⟩, fun x hx => (by cases hx), fun p hp => (by cases hp)⟩
  have HEW : Hid (∀ W bs es ts, KpS C w w2 W gd (evs xs) bs es ts → EvsS W (.slice Av xs.length cv) xs ∧ ∀ x ∈ xs, ∀ k, footV x k → ¬ C.own W gd k) := Lib.hid (fun W bs es ts hW => hW.evs HE2.out HOF2.out)
  have hl100 : (evs xs).length ≤ 100 := by rw [evs_len]; omega
  have HUS : Hid (∀ W bs es ts, KpS C w w2 W gd (evs xs) bs es ts → Calls Tryz.prog 17 #[.pointer (some ⟨gd, 0, none⟩)] W fun e w' => ∃ A c, e = .returned (.slice A (usersL (evs xs)).length c) ∧ KpS C w w2 w' gd (evs xs) bs es ((.slice A (usersL (evs xs)).length c, usersL (evs xs)) :: ts)) := Lib.hid (fun W bs es ts h => by
    refine (memUsers_any C CA h.bd.code hl100).mono ?_
    rintro e w' ⟨v, rfl, m, t, hc, ht⟩
    obtain ⟨A, c, rfl, -⟩ := id m.shape
    exact ⟨A, c, rfl, (h.step hc ht).withTx m.slice (fun k _ hk => t k hk)⟩)
  have HLV : Hid (∀ W bs es ts, KpS C w w2 W gd (evs xs) bs es ts → Calls Tryz.prog 19 #[] W fun e w' => e = .returned (.bool true) ∧ KpS C w w2 w' gd (evs xs) bs es ts) := Lib.hid (fun W bs es ts h => by
    refine (lives9_any C CA W).mono ?_
    rintro e w' ⟨rfl, b⟩
    exact ⟨rfl, h.later b⟩)
  have HHD : Hid (∀ W bs es ts, KpS C w w2 W gd (evs xs) bs es ts → Calls Tryz.prog 29 #[.agg #[.string roomR, .slice Av xs.length cv]] W fun e w' => ∃ A c, e = .returned (.slice A (headsL (evs xs)).length c) ∧ LT.Mine w' W.heap.size (.slice A (headsL (evs xs)).length c) (headsL (evs xs)) ∧ KpS C w w2 w' gd (evs xs) bs es ((.slice A (headsL (evs xs)).length c, headsL (evs xs)) :: ts)) := Lib.hid (fun W bs es ts h => by
    refine (refHeads_any roomR _ xs W (HEW.out _ _ _ _ h).1 HVL.out (by omega)).mono ?_
    rintro e w' ⟨v, rfl, m, b⟩
    obtain ⟨A, c, rfl, -⟩ := id m.shape
    exact ⟨A, c, rfl, m, (h.later b).withTx m.slice (fun k _ hk e => by
      have h1 := (h.grow b).2.2 k e
      have h2 := (m.lt k hk).1
      omega)⟩)
  have HUO := Lib.hid (fun W => userOf_any na W hn0 hn1)
  have hus : (userS na).size ≤ maxLen := Nat.le_trans (userS_len9 na) (by decide)
  have HUU := Lib.hid (userS_user na)
  generalize userS na = user at HUO hus HUU
  have hw2 := HD2.out.below.size
  clear HD2 HE2 HOF2 HOB2
  go_wp2_with fail
  go_at_call 9
  refine (HUO.out _).mono ?_
  rintro e w3 ⟨rfl, b3⟩
  have HK3 := Lib.hid (HK2.out.later b3)
  clear b3 HK2 HUO
  have HQ := Lib.hid (HUS.out _ _ _ _ HK3.out)
  go_wp2_with fail
  go_at_call 17
  refine HQ.out.mono ?_
  rintro e w4 ⟨A3, c3, rfl, hk4⟩
  have HK4 := Lib.hid hk4
  have HF3 : Hid (∀ k, 0 < (usersL (evs xs)).length → (Value.slice A3 (usersL (evs xs)).length c3).ownBlock = some k → k ≠ w4.heap.size) := Lib.hid (fun k h0 hk => by
    have := (hk4.tx _ List.mem_cons_self).1.foot h0 hk
    omega)
  have d0 : w4.cell? ⟨B4, 0, none⟩ = some (.string roomR) := cell_at (hk4.box _ List.mem_cons_self).1 0
  clear hk4 HQ HK3
  have HK5 := Lib.hid (HK4.out.new (below_new w4 (.cells #[.string zK, .string roomR, .slice none 0 0, .string ⟨#[]⟩, .string user, .int .i64 2] 33)) (Nat.le_refl _) (heap_alloc_new w4 (.cells #[.string zK, .string roomR, .slice none 0 0, .string ⟨#[]⟩, .string user, .int .i64 2] 33)))
  have HB11 : w2.heap.size ≤ w4.heap.size := HK4.out.turn.size
  have HN4 : B4 ≠ w4.heap.size := by omega
  unfold zK at HK5
  go_upto_region 7 with (fail)
  generalize w4.alloc _ = w5 at HK5 ⊢
  generalize w4.heap.size = B11 at HK5 HF3 HB11 HN4 ⊢
  clear HK4 d0
  cases jb
  case false =>
    have HXD := Lib.hid (HK5.out.box _ (List.mem_cons_of_mem _ List.mem_cons_self)).1
    have d0 := cell_at HXD.out 0
    have d1 := cell_at HXD.out 1
    simp only [List.getElem?_toArray, List.getElem?_cons_succ, List.getElem?_cons_zero] at d0 d1
    have hb11 := smem_lt (HK5.out.box _ List.mem_cons_self).1
    have HQ := Lib.hid (HHD.out _ _ _ _ HK5.out)
    go_wp2_with fail
    go_at_call 29
    refine HQ.out.mono ?_
    rintro e w7 ⟨A7, c7, rfl, m7, hk7⟩
    have HF7 : Hid (∀ k, 0 < (headsL (evs xs)).length → (Value.slice A7 (headsL (evs xs)).length c7).ownBlock = some k → k ≠ B11) := Lib.hid (fun k _ hk => by
      have := (m7.lt k hk).1
      omega)
    have HK7 := Lib.hid hk7
    have hc7' : c7 ≤ 9223372036854775807 := by
      obtain ⟨_, _, he7, hc7, hm7, -⟩ := id m7.slice
      injection he7 with _ _ he7
      unfold maxLen at hm7
      omega
    clear hk7 m7 HQ HXD d0 d1 HK5 hb11
    have HCO : Hid (ChainOk roomR user (headsL (evs xs)) (evs xs)) := Lib.hid ⟨HVL.out, roomR_room, HUU.out, by rw [← headsTo_all]; exact Nat.le_trans (headsTo_len _ _ _) (by rw [allL_len, evs_len]; exact hxl), HIDS.out, heads_mem HVL.out⟩
    have HHH : Hid (headsL (evs xs) = headsL (evs xs)) := Lib.hid rfl
    have hln : (headsL (evs xs)).length ≤ 9 := HCO.out.len
    have HUE : Hid (usersL (evs xs) = usersL (evs xs)) := Lib.hid rfl
    have hul : (usersL (evs xs)).length ≤ 9 := Nat.le_trans (usersL_len _) (by rw [evs_len]; exact hxl)
    generalize hh : headsL (evs xs) = h at HF7 HK7 HCO hln ⊢
    clear HHH
    have HHH : Hid (h = headsL (evs xs)) := Lib.hid hh.symm
    generalize hu : usersL (evs xs) = us at HF3 HK7 hul ⊢
    clear HUE
    have HUE : Hid (us = usersL (evs xs)) := Lib.hid hu.symm
    clear hh hu
    have HAD : Hid (∀ W bs ts a A c, KpS C w w2 W gd (chain roomR user h (evs xs) a) bs [] ((.slice A (yPar h a).length c, yPar h a) :: ts) ∧ a < h.length → EvV.at ⟨yEv roomR user h a, A, c⟩ W → Calls Tryz.prog 28 #[.pointer (some ⟨gd, 0, none⟩), (⟨yEv roomR user h a, A, c⟩ : EvV).val] W fun e w' => e = .returned (.int .i64 0) ∧ KpS C w w2 w' gd (chain roomR user h (evs xs) (a + 1)) bs [] ((.slice A (yPar h a).length c, yPar h a) :: ts)) := Lib.hid (fun W bs ts a A c ⟨hk, ha⟩ hx => by
      refine (C.add _ hk.bd.code (by rw [chain_len, evs_len]; omega) hx).mono ?_
      have h0 : errA roomR (chain roomR user h (evs xs) a) (yEv roomR user h a) = 0 := HCO.out.err ha
      rintro e w' ⟨rfl, hc, ht⟩
      refine ⟨by rw [h0], hk.step ?_ ht⟩
      have h1 : addA roomR (chain roomR user h (evs xs) a) (yEv roomR user h a) = chain roomR user h (evs xs) (a + 1) := by unfold addA; rw [if_pos h0, chain_succ]
      rw [← h1]
      exact hc)
    have HK8 : Hid (KpS C w w2 w7 gd (chain roomR user h (evs xs) 0) [(B11, .cells #[.string ⟨#[36, 122]⟩, .string roomR, .slice none 0 0, .string ⟨#[]⟩, .string user, .int .i64 2] 33 (0, 0)), (B4, .cells #[.string roomR, .slice Av xs.length cv] 26 (0, 0))] [] [(.slice A7 h.length c7, h), (.slice A3 us.length c3, us)]) := Lib.hid (by rw [chain_zero]; exact HK7.out)
    clear HK7 HUS HHD HEW
    go_wp2_with fail
    go_loopw [13, 14] (fun s i wr => ∃ a : Nat, s = .string (lastK a) ∧ i = .int .i64 (a : Int) ∧ a ≤ h.length ∧ Hid (KpS C w w2 wr gd (chain roomR user h (evs xs) a) [(B11, .cells #[.string ⟨#[36, 122]⟩, .string roomR, .slice none 0 0, .string ⟨#[]⟩, .string user, .int .i64 2] 33 (0, 0)), (B4, .cells #[.string roomR, .slice Av xs.length cv] 26 (0, 0))] [] [(.slice A7 h.length c7, h), (.slice A3 us.length c3, us)])) (fun _ i _ => h.length - (intOf i).toNat)
    case atStart => exact ⟨0, rfl, rfl, Nat.zero_le _, HK8⟩
    case round =>
      clear HK8
      obtain ⟨a, rfl, rfl, ha, HK⟩ := hrel
      by_cases hax : a < h.length
      · have q1 : decide ((a : Int) < (h.length : Int)) = true := decide_eq_true (by omega)
        obtain ⟨hx, -⟩ := head_get hax
        have HPA := Lib.hid (HCO.out.par hax)
        have HYO : Hid ((yEv roomR user h a).ok) := Lib.hid (y_ok HCO.out hax hus)
        have HDC := Lib.hid (fun W => decimal_any a W (by omega))
        have hd := add_any ⟨#[36, 121]⟩ (strOf [UInt8.ofNat (48 + a)]) (by decide) (strOf1_size _)
        rw [yK_add ⟨a, by omega⟩] at hd
        simp only at hd
        generalize strOf [UInt8.ofNat (48 + a)] = sd at HDC hd
        have HPG : Hid (h.getD a ⟨#[]⟩ = h.getD a ⟨#[]⟩) := Lib.hid rfl
        generalize hp : h.getD a ⟨#[]⟩ = p at hx HPA
        clear HPG
        have HPP := Lib.hid hp
        clear hp
        have HXD := Lib.hid (HK.out.box _ (List.mem_cons_of_mem _ List.mem_cons_self)).1
        obtain ⟨bo, oo, rfl, hbo, hco⟩ := text_at (HK.out.tx _ List.mem_cons_self).1 hx
        have hix := index_any (P := Tryz.prog) knT (by decide) (b := bo) (off := oo) (cap := c7) hax
        simp only [LT] at hix
        rw [Nat.mul_one] at hix
        have hco2 := hco
        have HCO2 := Lib.hid hco2
        have HX := Lib.hid hx
        clear hx hco2
        go_upto_region 14 with (fail)
        go_cut [15] from 43 to 54 (fun s15 wx => ∃ B15 Ba, s15 = .pointer (some ⟨B15, 0, none⟩) ∧ Hid (Below wr.heap.size wr wx ∧ wr.heap.size ≤ B15 ∧ wx.heap[B15]? = some (.cells #[.string (yK a), .string roomR, .slice (some ⟨Ba, 0, none⟩) 1 1, .string ⟨#[]⟩, .string user, .int .i64 0] 33 (0, 0)) ∧ LT.Mine wx wr.heap.size (.slice (some ⟨Ba, 0, none⟩) 1 1) [p] ∧ B15 ≠ Ba))
        case first =>
          refine wp_region_held_drew (S := fun w' => Below wr.heap.size wr w') (by kernel_rfl) (Below.refl _ _).drew (fun hHeld => ?_)
          have HXW : Hid (∀ W, Below wr.heap.size wr W → W.cell? ⟨B4, 0, none⟩ = some (.string roomR) ∧ W.cell? ⟨bo, oo + a, none⟩ = some (.string p)) := Lib.hid (fun W hW => ⟨cell_at ((hW.block B4 (smem_lt HXD.out)).trans HXD.out) 0, (hW.cell (p := ⟨bo, oo + a, none⟩) hbo).trans hco⟩)
          clear hco
          generalize wr.drew = wd at hHeld ⊢
          refine wpAnyH_take (i := 0) (oi := ⟨some 43, _, _, _, _, _⟩) (v := ?vq20) rfl (by kernel_rfl) (by kernel_rfl) (by kernel_rfl) (fun _ _ _ h => h) (Or.inl ⟨by rfl, ?yq20⟩) hHeld ?rq20
          case yq20 =>
            intro wx hSx
            go_simp
            try with_reducible rfl
          try simp only [Act.put, List.setIfInBounds_toArray, List.set_cons_zero, List.set_cons_succ]
          refine wpAnyH_take (i := 3) (oi := ⟨some 46, _, _, _, _, _⟩) (v := ?vq23) rfl (by kernel_rfl) (by kernel_rfl) (by kernel_rfl) (fun _ _ _ h => h) (Or.inl ⟨by rfl, ?yq23⟩) hHeld ?rq23
          case yq23 =>
            intro wx hSx
            go_simp
            try with_reducible rfl
          try simp only [Act.put, List.setIfInBounds_toArray, List.set_cons_zero, List.set_cons_succ]
          refine wpAnyH_take (i := 4) (oi := ⟨some 47, _, _, _, _, _⟩) (v := ?vq24) rfl (by kernel_rfl) (by kernel_rfl) (by kernel_rfl) (fun _ _ _ h => h) (Or.inl ⟨by rfl, ?yq24⟩) hHeld ?rq24
          case yq24 =>
            intro wx hSx
            have p0 := (HXW.out _ hSx).1
            go_simp
            try with_reducible rfl
          try simp only [Act.put, List.setIfInBounds_toArray, List.set_cons_zero, List.set_cons_succ]
          refine wpAnyH_take (i := 5) (oi := ⟨some 48, _, _, _, _, _⟩) (v := ?vq25) rfl (by kernel_rfl) (by kernel_rfl) (by kernel_rfl) (fun _ _ _ h => h) (Or.inl ⟨by rfl, ?yq25⟩) hHeld ?rq25
          case yq25 =>
            intro wx hSx
            go_simp
            try with_reducible rfl
          try simp only [Act.put, List.setIfInBounds_toArray, List.set_cons_zero, List.set_cons_succ]
          refine wpAnyH_take (i := 6) (oi := ⟨some 49, _, _, _, _, _⟩) (v := ?vq26) rfl (by kernel_rfl) (by kernel_rfl) (by kernel_rfl) (fun _ _ _ h => h) (Or.inl ⟨by rfl, ?yq26⟩) hHeld ?rq26
          case yq26 =>
            intro wx hSx
            go_simp
            try with_reducible rfl
          try simp only [Act.put, List.setIfInBounds_toArray, List.set_cons_zero, List.set_cons_succ]
          refine wpAnyH_take (i := 7) (oi := ⟨some 50, _, _, _, _, _⟩) (v := ?vq27) rfl (by kernel_rfl) (by kernel_rfl) (by kernel_rfl) (fun _ _ _ h => h) (Or.inl ⟨by rfl, ?yq27⟩) hHeld ?rq27
          case yq27 =>
            intro wx hSx
            go_simp
            try with_reducible rfl
          try simp only [Act.put, List.setIfInBounds_toArray, List.set_cons_zero, List.set_cons_succ]
          refine wpAnyH_take (i := 8) (oi := ⟨some 51, _, _, _, _, _⟩) (v := ?vq28) rfl (by kernel_rfl) (by kernel_rfl) (by kernel_rfl) (fun _ _ _ h => h) (Or.inl ⟨by rfl, ?yq28⟩) hHeld ?rq28
          case yq28 =>
            intro wx hSx
            go_simp
            try with_reducible rfl
          try simp only [Act.put, List.setIfInBounds_toArray, List.set_cons_zero, List.set_cons_succ]
          refine wpAnyH_take (i := 9) (oi := ⟨some 52, _, _, _, _, _⟩) (v := ?vq29) rfl (by kernel_rfl) (by kernel_rfl) (by kernel_rfl) (fun _ _ _ h => h) (Or.inl ⟨by rfl, ?yq29⟩) hHeld ?rq29
          case yq29 =>
            intro wx hSx
            have p0 := (HXW.out _ hSx).2
            go_simp
            try with_reducible rfl
          try simp only [Act.put, List.setIfInBounds_toArray, List.set_cons_zero, List.set_cons_succ]
          refine wpAnyH_ready (rs := [1, 10, 12]) (by kernel_rfl) (by simp) ?_
          refine AllReadyH.cons (o := ⟨some 44, _, _, _, _, _⟩) rfl (fun K hK => ?n2_1D) (AllReadyH.cons (o := ⟨some 53, _, _, _, _, _⟩) rfl (fun K hK => ?n2_1S) (AllReadyH.cons (o := ⟨some 15, _, _, _, _, _⟩) rfl (fun K hK => ?n2_1A) AllReadyH.nil))
          case n2_1D =>
            go_simp
            refine (HDC.out _).mono ?_
            rintro e wn ⟨rfl, hbn⟩
            refine hK.out _ _ (hHeld.trans (hbn.mono hHeld.size)) (fun hHeld => ?_)
            clear hK K hbn
            try simp only [Act.put, List.setIfInBounds_toArray, List.set_cons_zero, List.set_cons_succ]
            generalize wn = wd at hHeld  ⊢
            refine wpAnyH_take (i := 2) (oi := ⟨some 45, _, _, _, _, _⟩) (v := .string (yK a)) rfl (by kernel_rfl) (by kernel_rfl) (by kernel_rfl) (fun _ _ _ h => h) (Or.inl ⟨by rfl, ?yn2_1d2⟩) hHeld ?rn2_1d2
            case yn2_1d2 =>
              intro wx hSx
              skip
              go_simp
              try with_reducible rfl
            try simp only [Act.put, List.setIfInBounds_toArray, List.set_cons_zero, List.set_cons_succ]
            refine wpAnyH_ready (rs := [10, 12]) (by kernel_rfl) (by simp) ?_
            refine AllReadyH.cons (o := ⟨some 53, _, _, _, _, _⟩) rfl (fun K hK => ?n2_2S) (AllReadyH.cons (o := ⟨some 15, _, _, _, _, _⟩) rfl (fun K hK => ?n2_2A) AllReadyH.nil)
            case n2_2S =>
              have hbn := below_new wd (.cells #[.string p] 9)
              have hna := heap_alloc_new wd (.cells #[.string p] 9)
              have hla := hHeld.size
              go_simp
              refine hK.out _ _ (hHeld.trans (hbn.mono hHeld.size)) (fun hHeld => ?_)
              clear hK K hbn
              try simp only [Act.put, List.setIfInBounds_toArray, List.set_cons_zero, List.set_cons_succ]
              generalize wd.alloc _ = we at hHeld hna ⊢
              generalize wd.heap.size = Ba at hna hla  ⊢
              generalize we = wd at hHeld hna ⊢
              refine wpAnyH_take (i := 11) (oi := ⟨some 54, _, _, _, _, _⟩) (v := ?vn2_2Sb11) rfl (by kernel_rfl) (by kernel_rfl) (by kernel_rfl) (fun _ _ _ h => h) (Or.inl ⟨by rfl, ?yn2_2Sb11⟩) hHeld ?rn2_2Sb11
              case yn2_2Sb11 =>
                intro wx hSx
                go_simp
                try with_reducible rfl
              try simp only [Act.put, List.setIfInBounds_toArray, List.set_cons_zero, List.set_cons_succ]
              refine wpAnyH_ready (rs := [12]) (by kernel_rfl) (by simp) ?_
              refine AllReadyH.cons (o := ⟨some 15, _, _, _, _, _⟩) rfl (fun K hK => ?n2_3A) AllReadyH.nil
              case n2_3A =>
                have hbn := below_new wd (.cells #[.string ⟨#[]⟩, .string ⟨#[]⟩, .slice none 0 0, .string ⟨#[]⟩, .string ⟨#[]⟩, .int .i64 0] 33)
                have hnw := heap_alloc_new wd (.cells #[.string ⟨#[]⟩, .string ⟨#[]⟩, .slice none 0 0, .string ⟨#[]⟩, .string ⟨#[]⟩, .int .i64 0] 33)
                have hlo := hHeld.size
                have hne : Ba ≠ wd.heap.size := by have := smem_lt hna; omega
                replace hna := (hbn.block Ba (smem_lt hna)).trans hna
                replace hne := hne.symm
                go_simp
                refine hK.out _ _ (hHeld.trans (hbn.mono hHeld.size)) (fun hHeld => ?_)
                clear hK K hbn
                try simp only [Act.put, List.setIfInBounds_toArray, List.set_cons_zero, List.set_cons_succ]
                generalize wd.alloc _ = we at hHeld hna hnw ⊢
                generalize wd.heap.size = B15 at hnw hlo hne ⊢
                generalize we = wd at hHeld hna hnw ⊢
                refine wpAnyH_ready (rs := [13]) (by kernel_rfl) (by simp) ?_
                refine AllReadyH.cons (o := ⟨none, _, _, _, _, _⟩) rfl (fun K hK => ?_) AllReadyH.nil
                have y0 : wd.cell? ⟨B15, 0, none⟩ = some (.string ⟨#[]⟩) := cell_at hnw 0
                have z0 : wd.frozen? ⟨B15, 0, none⟩ = false := free_at hnw 0
                have y1 : wd.cell? ⟨B15, 1, none⟩ = some (.string ⟨#[]⟩) := cell_at hnw 1
                have z1 : wd.frozen? ⟨B15, 1, none⟩ = false := free_at hnw 1
                have y2 : wd.cell? ⟨B15, 2, none⟩ = some (.slice none 0 0) := cell_at hnw 2
                have z2 : wd.frozen? ⟨B15, 2, none⟩ = false := free_at hnw 2
                have y3 : wd.cell? ⟨B15, 3, none⟩ = some (.string ⟨#[]⟩) := cell_at hnw 3
                have z3 : wd.frozen? ⟨B15, 3, none⟩ = false := free_at hnw 3
                have y4 : wd.cell? ⟨B15, 4, none⟩ = some (.string ⟨#[]⟩) := cell_at hnw 4
                have z4 : wd.frozen? ⟨B15, 4, none⟩ = false := free_at hnw 4
                have y5 : wd.cell? ⟨B15, 5, none⟩ = some (.int .i64 0) := cell_at hnw 5
                have z5 : wd.frozen? ⟨B15, 5, none⟩ = false := free_at hnw 5
                have HAN := y_stored hHeld hlo hnw hla hna hne (yK a) roomR user _ rfl
                simp only [World.setCells] at HAN
                go_simp
                generalize World.setCell _ _ _ = w9 at HAN ⊢
                refine hK.out _ _ HAN.1 (fun hHeld => ?_)
                clear hK K
                try simp only [Act.put, List.setIfInBounds_toArray, List.set_cons_zero, List.set_cons_succ]
                refine wpAnyH_done (by kernel_rfl) ?_ _
                go_wp2_with fail
                go_meet
                exact ⟨B15, Ba, rfl, Lib.hid HAN⟩
            case n2_2A =>
              have hbn := below_new wd (.cells #[.string ⟨#[]⟩, .string ⟨#[]⟩, .slice none 0 0, .string ⟨#[]⟩, .string ⟨#[]⟩, .int .i64 0] 33)
              have hnw := heap_alloc_new wd (.cells #[.string ⟨#[]⟩, .string ⟨#[]⟩, .slice none 0 0, .string ⟨#[]⟩, .string ⟨#[]⟩, .int .i64 0] 33)
              have hlo := hHeld.size
              go_simp
              refine hK.out _ _ (hHeld.trans (hbn.mono hHeld.size)) (fun hHeld => ?_)
              clear hK K hbn
              try simp only [Act.put, List.setIfInBounds_toArray, List.set_cons_zero, List.set_cons_succ]
              generalize wd.alloc _ = we at hHeld hnw ⊢
              generalize wd.heap.size = B15 at hnw hlo  ⊢
              generalize we = wd at hHeld hnw ⊢
              refine wpAnyH_ready (rs := [10]) (by kernel_rfl) (by simp) ?_
              refine AllReadyH.cons (o := ⟨some 53, _, _, _, _, _⟩) rfl (fun K hK => ?n2_5S) AllReadyH.nil
              case n2_5S =>
                have hbn := below_new wd (.cells #[.string p] 9)
                have hna := heap_alloc_new wd (.cells #[.string p] 9)
                have hla := hHeld.size
                have hne : B15 ≠ wd.heap.size := by have := smem_lt hnw; omega
                replace hnw := (hbn.block B15 (smem_lt hnw)).trans hnw
                go_simp
                refine hK.out _ _ (hHeld.trans (hbn.mono hHeld.size)) (fun hHeld => ?_)
                clear hK K hbn
                try simp only [Act.put, List.setIfInBounds_toArray, List.set_cons_zero, List.set_cons_succ]
                generalize wd.alloc _ = we at hHeld hnw hna ⊢
                generalize wd.heap.size = Ba at hna hla hne ⊢
                generalize we = wd at hHeld hnw hna ⊢
                refine wpAnyH_take (i := 11) (oi := ⟨some 54, _, _, _, _, _⟩) (v := ?vn2_5Sb11) rfl (by kernel_rfl) (by kernel_rfl) (by kernel_rfl) (fun _ _ _ h => h) (Or.inl ⟨by rfl, ?yn2_5Sb11⟩) hHeld ?rn2_5Sb11
                case yn2_5Sb11 =>
                  intro wx hSx
                  go_simp
                  try with_reducible rfl
                try simp only [Act.put, List.setIfInBounds_toArray, List.set_cons_zero, List.set_cons_succ]
                refine wpAnyH_ready (rs := [13]) (by kernel_rfl) (by simp) ?_
                refine AllReadyH.cons (o := ⟨none, _, _, _, _, _⟩) rfl (fun K hK => ?_) AllReadyH.nil
                have y0 : wd.cell? ⟨B15, 0, none⟩ = some (.string ⟨#[]⟩) := cell_at hnw 0
                have z0 : wd.frozen? ⟨B15, 0, none⟩ = false := free_at hnw 0
                have y1 : wd.cell? ⟨B15, 1, none⟩ = some (.string ⟨#[]⟩) := cell_at hnw 1
                have z1 : wd.frozen? ⟨B15, 1, none⟩ = false := free_at hnw 1
                have y2 : wd.cell? ⟨B15, 2, none⟩ = some (.slice none 0 0) := cell_at hnw 2
                have z2 : wd.frozen? ⟨B15, 2, none⟩ = false := free_at hnw 2
                have y3 : wd.cell? ⟨B15, 3, none⟩ = some (.string ⟨#[]⟩) := cell_at hnw 3
                have z3 : wd.frozen? ⟨B15, 3, none⟩ = false := free_at hnw 3
                have y4 : wd.cell? ⟨B15, 4, none⟩ = some (.string ⟨#[]⟩) := cell_at hnw 4
                have z4 : wd.frozen? ⟨B15, 4, none⟩ = false := free_at hnw 4
                have y5 : wd.cell? ⟨B15, 5, none⟩ = some (.int .i64 0) := cell_at hnw 5
                have z5 : wd.frozen? ⟨B15, 5, none⟩ = false := free_at hnw 5
                have HAN := y_stored hHeld hlo hnw hla hna hne (yK a) roomR user _ rfl
                simp only [World.setCells] at HAN
                go_simp
                generalize World.setCell _ _ _ = w9 at HAN ⊢
                refine hK.out _ _ HAN.1 (fun hHeld => ?_)
                clear hK K
                try simp only [Act.put, List.setIfInBounds_toArray, List.set_cons_zero, List.set_cons_succ]
                refine wpAnyH_done (by kernel_rfl) ?_ _
                go_wp2_with fail
                go_meet
                exact ⟨B15, Ba, rfl, Lib.hid HAN⟩
          case n2_1S =>
            have hbn := below_new wd (.cells #[.string p] 9)
            have hna := heap_alloc_new wd (.cells #[.string p] 9)
            have hla := hHeld.size
            go_simp
            refine hK.out _ _ (hHeld.trans (hbn.mono hHeld.size)) (fun hHeld => ?_)
            clear hK K hbn
            try simp only [Act.put, List.setIfInBounds_toArray, List.set_cons_zero, List.set_cons_succ]
            generalize wd.alloc _ = we at hHeld hna ⊢
            generalize wd.heap.size = Ba at hna hla  ⊢
            generalize we = wd at hHeld hna ⊢
            refine wpAnyH_ready (rs := [1, 12]) (by kernel_rfl) (by simp) ?_
            refine AllReadyH.cons (o := ⟨some 44, _, _, _, _, _⟩) rfl (fun K hK => ?n2_7D) (AllReadyH.cons (o := ⟨some 15, _, _, _, _, _⟩) rfl (fun K hK => ?n2_7A) AllReadyH.nil)
            case n2_7D =>
              go_simp
              refine (HDC.out _).mono ?_
              rintro e wn ⟨rfl, hbn⟩
              replace hna := (hbn.block Ba (smem_lt hna)).trans hna
              refine hK.out _ _ (hHeld.trans (hbn.mono hHeld.size)) (fun hHeld => ?_)
              clear hK K hbn
              try simp only [Act.put, List.setIfInBounds_toArray, List.set_cons_zero, List.set_cons_succ]
              generalize wn = wd at hHeld hna ⊢
              refine wpAnyH_take (i := 2) (oi := ⟨some 45, _, _, _, _, _⟩) (v := .string (yK a)) rfl (by kernel_rfl) (by kernel_rfl) (by kernel_rfl) (fun _ _ _ h => h) (Or.inl ⟨by rfl, ?yn2_7d2⟩) hHeld ?rn2_7d2
              case yn2_7d2 =>
                intro wx hSx
                skip
                go_simp
                try with_reducible rfl
              try simp only [Act.put, List.setIfInBounds_toArray, List.set_cons_zero, List.set_cons_succ]
              refine wpAnyH_take (i := 11) (oi := ⟨some 54, _, _, _, _, _⟩) (v := ?vn2_7Db11) rfl (by kernel_rfl) (by kernel_rfl) (by kernel_rfl) (fun _ _ _ h => h) (Or.inl ⟨by rfl, ?yn2_7Db11⟩) hHeld ?rn2_7Db11
              case yn2_7Db11 =>
                intro wx hSx
                go_simp
                try with_reducible rfl
              try simp only [Act.put, List.setIfInBounds_toArray, List.set_cons_zero, List.set_cons_succ]
              refine wpAnyH_ready (rs := [12]) (by kernel_rfl) (by simp) ?_
              refine AllReadyH.cons (o := ⟨some 15, _, _, _, _, _⟩) rfl (fun K hK => ?n2_8A) AllReadyH.nil
              case n2_8A =>
                have hbn := below_new wd (.cells #[.string ⟨#[]⟩, .string ⟨#[]⟩, .slice none 0 0, .string ⟨#[]⟩, .string ⟨#[]⟩, .int .i64 0] 33)
                have hnw := heap_alloc_new wd (.cells #[.string ⟨#[]⟩, .string ⟨#[]⟩, .slice none 0 0, .string ⟨#[]⟩, .string ⟨#[]⟩, .int .i64 0] 33)
                have hlo := hHeld.size
                have hne : Ba ≠ wd.heap.size := by have := smem_lt hna; omega
                replace hna := (hbn.block Ba (smem_lt hna)).trans hna
                replace hne := hne.symm
                go_simp
                refine hK.out _ _ (hHeld.trans (hbn.mono hHeld.size)) (fun hHeld => ?_)
                clear hK K hbn
                try simp only [Act.put, List.setIfInBounds_toArray, List.set_cons_zero, List.set_cons_succ]
                generalize wd.alloc _ = we at hHeld hna hnw ⊢
                generalize wd.heap.size = B15 at hnw hlo hne ⊢
                generalize we = wd at hHeld hna hnw ⊢
                refine wpAnyH_ready (rs := [13]) (by kernel_rfl) (by simp) ?_
                refine AllReadyH.cons (o := ⟨none, _, _, _, _, _⟩) rfl (fun K hK => ?_) AllReadyH.nil
                have y0 : wd.cell? ⟨B15, 0, none⟩ = some (.string ⟨#[]⟩) := cell_at hnw 0
                have z0 : wd.frozen? ⟨B15, 0, none⟩ = false := free_at hnw 0
                have y1 : wd.cell? ⟨B15, 1, none⟩ = some (.string ⟨#[]⟩) := cell_at hnw 1
                have z1 : wd.frozen? ⟨B15, 1, none⟩ = false := free_at hnw 1
                have y2 : wd.cell? ⟨B15, 2, none⟩ = some (.slice none 0 0) := cell_at hnw 2
                have z2 : wd.frozen? ⟨B15, 2, none⟩ = false := free_at hnw 2
                have y3 : wd.cell? ⟨B15, 3, none⟩ = some (.string ⟨#[]⟩) := cell_at hnw 3
                have z3 : wd.frozen? ⟨B15, 3, none⟩ = false := free_at hnw 3
                have y4 : wd.cell? ⟨B15, 4, none⟩ = some (.string ⟨#[]⟩) := cell_at hnw 4
                have z4 : wd.frozen? ⟨B15, 4, none⟩ = false := free_at hnw 4
                have y5 : wd.cell? ⟨B15, 5, none⟩ = some (.int .i64 0) := cell_at hnw 5
                have z5 : wd.frozen? ⟨B15, 5, none⟩ = false := free_at hnw 5
                have HAN := y_stored hHeld hlo hnw hla hna hne (yK a) roomR user _ rfl
                simp only [World.setCells] at HAN
                go_simp
                generalize World.setCell _ _ _ = w9 at HAN ⊢
                refine hK.out _ _ HAN.1 (fun hHeld => ?_)
                clear hK K
                try simp only [Act.put, List.setIfInBounds_toArray, List.set_cons_zero, List.set_cons_succ]
                refine wpAnyH_done (by kernel_rfl) ?_ _
                go_wp2_with fail
                go_meet
                exact ⟨B15, Ba, rfl, Lib.hid HAN⟩
            case n2_7A =>
              have hbn := below_new wd (.cells #[.string ⟨#[]⟩, .string ⟨#[]⟩, .slice none 0 0, .string ⟨#[]⟩, .string ⟨#[]⟩, .int .i64 0] 33)
              have hnw := heap_alloc_new wd (.cells #[.string ⟨#[]⟩, .string ⟨#[]⟩, .slice none 0 0, .string ⟨#[]⟩, .string ⟨#[]⟩, .int .i64 0] 33)
              have hlo := hHeld.size
              have hne : Ba ≠ wd.heap.size := by have := smem_lt hna; omega
              replace hna := (hbn.block Ba (smem_lt hna)).trans hna
              replace hne := hne.symm
              go_simp
              refine hK.out _ _ (hHeld.trans (hbn.mono hHeld.size)) (fun hHeld => ?_)
              clear hK K hbn
              try simp only [Act.put, List.setIfInBounds_toArray, List.set_cons_zero, List.set_cons_succ]
              generalize wd.alloc _ = we at hHeld hna hnw ⊢
              generalize wd.heap.size = B15 at hnw hlo hne ⊢
              generalize we = wd at hHeld hna hnw ⊢
              refine wpAnyH_ready (rs := [1]) (by kernel_rfl) (by simp) ?_
              refine AllReadyH.cons (o := ⟨some 44, _, _, _, _, _⟩) rfl (fun K hK => ?n2_10D) AllReadyH.nil
              case n2_10D =>
                go_simp
                refine (HDC.out _).mono ?_
                rintro e wn ⟨rfl, hbn⟩
                replace hna := (hbn.block Ba (smem_lt hna)).trans hna
                replace hnw := (hbn.block B15 (smem_lt hnw)).trans hnw
                refine hK.out _ _ (hHeld.trans (hbn.mono hHeld.size)) (fun hHeld => ?_)
                clear hK K hbn
                try simp only [Act.put, List.setIfInBounds_toArray, List.set_cons_zero, List.set_cons_succ]
                generalize wn = wd at hHeld hna hnw ⊢
                refine wpAnyH_take (i := 2) (oi := ⟨some 45, _, _, _, _, _⟩) (v := .string (yK a)) rfl (by kernel_rfl) (by kernel_rfl) (by kernel_rfl) (fun _ _ _ h => h) (Or.inl ⟨by rfl, ?yn2_10d2⟩) hHeld ?rn2_10d2
                case yn2_10d2 =>
                  intro wx hSx
                  skip
                  go_simp
                  try with_reducible rfl
                try simp only [Act.put, List.setIfInBounds_toArray, List.set_cons_zero, List.set_cons_succ]
                refine wpAnyH_take (i := 11) (oi := ⟨some 54, _, _, _, _, _⟩) (v := ?vn2_10Db11) rfl (by kernel_rfl) (by kernel_rfl) (by kernel_rfl) (fun _ _ _ h => h) (Or.inl ⟨by rfl, ?yn2_10Db11⟩) hHeld ?rn2_10Db11
                case yn2_10Db11 =>
                  intro wx hSx
                  go_simp
                  try with_reducible rfl
                try simp only [Act.put, List.setIfInBounds_toArray, List.set_cons_zero, List.set_cons_succ]
                refine wpAnyH_ready (rs := [13]) (by kernel_rfl) (by simp) ?_
                refine AllReadyH.cons (o := ⟨none, _, _, _, _, _⟩) rfl (fun K hK => ?_) AllReadyH.nil
                have y0 : wd.cell? ⟨B15, 0, none⟩ = some (.string ⟨#[]⟩) := cell_at hnw 0
                have z0 : wd.frozen? ⟨B15, 0, none⟩ = false := free_at hnw 0
                have y1 : wd.cell? ⟨B15, 1, none⟩ = some (.string ⟨#[]⟩) := cell_at hnw 1
                have z1 : wd.frozen? ⟨B15, 1, none⟩ = false := free_at hnw 1
                have y2 : wd.cell? ⟨B15, 2, none⟩ = some (.slice none 0 0) := cell_at hnw 2
                have z2 : wd.frozen? ⟨B15, 2, none⟩ = false := free_at hnw 2
                have y3 : wd.cell? ⟨B15, 3, none⟩ = some (.string ⟨#[]⟩) := cell_at hnw 3
                have z3 : wd.frozen? ⟨B15, 3, none⟩ = false := free_at hnw 3
                have y4 : wd.cell? ⟨B15, 4, none⟩ = some (.string ⟨#[]⟩) := cell_at hnw 4
                have z4 : wd.frozen? ⟨B15, 4, none⟩ = false := free_at hnw 4
                have y5 : wd.cell? ⟨B15, 5, none⟩ = some (.int .i64 0) := cell_at hnw 5
                have z5 : wd.frozen? ⟨B15, 5, none⟩ = false := free_at hnw 5
                have HAN := y_stored hHeld hlo hnw hla hna hne (yK a) roomR user _ rfl
                simp only [World.setCells] at HAN
                go_simp
                generalize World.setCell _ _ _ = w9 at HAN ⊢
                refine hK.out _ _ HAN.1 (fun hHeld => ?_)
                clear hK K
                try simp only [Act.put, List.setIfInBounds_toArray, List.set_cons_zero, List.set_cons_succ]
                refine wpAnyH_done (by kernel_rfl) ?_ _
                go_wp2_with fail
                go_meet
                exact ⟨B15, Ba, rfl, Lib.hid HAN⟩
          case n2_1A =>
            have hbn := below_new wd (.cells #[.string ⟨#[]⟩, .string ⟨#[]⟩, .slice none 0 0, .string ⟨#[]⟩, .string ⟨#[]⟩, .int .i64 0] 33)
            have hnw := heap_alloc_new wd (.cells #[.string ⟨#[]⟩, .string ⟨#[]⟩, .slice none 0 0, .string ⟨#[]⟩, .string ⟨#[]⟩, .int .i64 0] 33)
            have hlo := hHeld.size
            go_simp
            refine hK.out _ _ (hHeld.trans (hbn.mono hHeld.size)) (fun hHeld => ?_)
            clear hK K hbn
            try simp only [Act.put, List.setIfInBounds_toArray, List.set_cons_zero, List.set_cons_succ]
            generalize wd.alloc _ = we at hHeld hnw ⊢
            generalize wd.heap.size = B15 at hnw hlo  ⊢
            generalize we = wd at hHeld hnw ⊢
            refine wpAnyH_ready (rs := [1, 10]) (by kernel_rfl) (by simp) ?_
            refine AllReadyH.cons (o := ⟨some 44, _, _, _, _, _⟩) rfl (fun K hK => ?n2_12D) (AllReadyH.cons (o := ⟨some 53, _, _, _, _, _⟩) rfl (fun K hK => ?n2_12S) AllReadyH.nil)
            case n2_12D =>
              go_simp
              refine (HDC.out _).mono ?_
              rintro e wn ⟨rfl, hbn⟩
              replace hnw := (hbn.block B15 (smem_lt hnw)).trans hnw
              refine hK.out _ _ (hHeld.trans (hbn.mono hHeld.size)) (fun hHeld => ?_)
              clear hK K hbn
              try simp only [Act.put, List.setIfInBounds_toArray, List.set_cons_zero, List.set_cons_succ]
              generalize wn = wd at hHeld hnw ⊢
              refine wpAnyH_take (i := 2) (oi := ⟨some 45, _, _, _, _, _⟩) (v := .string (yK a)) rfl (by kernel_rfl) (by kernel_rfl) (by kernel_rfl) (fun _ _ _ h => h) (Or.inl ⟨by rfl, ?yn2_12d2⟩) hHeld ?rn2_12d2
              case yn2_12d2 =>
                intro wx hSx
                skip
                go_simp
                try with_reducible rfl
              try simp only [Act.put, List.setIfInBounds_toArray, List.set_cons_zero, List.set_cons_succ]
              refine wpAnyH_ready (rs := [10]) (by kernel_rfl) (by simp) ?_
              refine AllReadyH.cons (o := ⟨some 53, _, _, _, _, _⟩) rfl (fun K hK => ?n2_13S) AllReadyH.nil
              case n2_13S =>
                have hbn := below_new wd (.cells #[.string p] 9)
                have hna := heap_alloc_new wd (.cells #[.string p] 9)
                have hla := hHeld.size
                have hne : B15 ≠ wd.heap.size := by have := smem_lt hnw; omega
                replace hnw := (hbn.block B15 (smem_lt hnw)).trans hnw
                go_simp
                refine hK.out _ _ (hHeld.trans (hbn.mono hHeld.size)) (fun hHeld => ?_)
                clear hK K hbn
                try simp only [Act.put, List.setIfInBounds_toArray, List.set_cons_zero, List.set_cons_succ]
                generalize wd.alloc _ = we at hHeld hnw hna ⊢
                generalize wd.heap.size = Ba at hna hla hne ⊢
                generalize we = wd at hHeld hnw hna ⊢
                refine wpAnyH_take (i := 11) (oi := ⟨some 54, _, _, _, _, _⟩) (v := ?vn2_13Sb11) rfl (by kernel_rfl) (by kernel_rfl) (by kernel_rfl) (fun _ _ _ h => h) (Or.inl ⟨by rfl, ?yn2_13Sb11⟩) hHeld ?rn2_13Sb11
                case yn2_13Sb11 =>
                  intro wx hSx
                  go_simp
                  try with_reducible rfl
                try simp only [Act.put, List.setIfInBounds_toArray, List.set_cons_zero, List.set_cons_succ]
                refine wpAnyH_ready (rs := [13]) (by kernel_rfl) (by simp) ?_
                refine AllReadyH.cons (o := ⟨none, _, _, _, _, _⟩) rfl (fun K hK => ?_) AllReadyH.nil
                have y0 : wd.cell? ⟨B15, 0, none⟩ = some (.string ⟨#[]⟩) := cell_at hnw 0
                have z0 : wd.frozen? ⟨B15, 0, none⟩ = false := free_at hnw 0
                have y1 : wd.cell? ⟨B15, 1, none⟩ = some (.string ⟨#[]⟩) := cell_at hnw 1
                have z1 : wd.frozen? ⟨B15, 1, none⟩ = false := free_at hnw 1
                have y2 : wd.cell? ⟨B15, 2, none⟩ = some (.slice none 0 0) := cell_at hnw 2
                have z2 : wd.frozen? ⟨B15, 2, none⟩ = false := free_at hnw 2
                have y3 : wd.cell? ⟨B15, 3, none⟩ = some (.string ⟨#[]⟩) := cell_at hnw 3
                have z3 : wd.frozen? ⟨B15, 3, none⟩ = false := free_at hnw 3
                have y4 : wd.cell? ⟨B15, 4, none⟩ = some (.string ⟨#[]⟩) := cell_at hnw 4
                have z4 : wd.frozen? ⟨B15, 4, none⟩ = false := free_at hnw 4
                have y5 : wd.cell? ⟨B15, 5, none⟩ = some (.int .i64 0) := cell_at hnw 5
                have z5 : wd.frozen? ⟨B15, 5, none⟩ = false := free_at hnw 5
                have HAN := y_stored hHeld hlo hnw hla hna hne (yK a) roomR user _ rfl
                simp only [World.setCells] at HAN
                go_simp
                generalize World.setCell _ _ _ = w9 at HAN ⊢
                refine hK.out _ _ HAN.1 (fun hHeld => ?_)
                clear hK K
                try simp only [Act.put, List.setIfInBounds_toArray, List.set_cons_zero, List.set_cons_succ]
                refine wpAnyH_done (by kernel_rfl) ?_ _
                go_wp2_with fail
                go_meet
                exact ⟨B15, Ba, rfl, Lib.hid HAN⟩
            case n2_12S =>
              have hbn := below_new wd (.cells #[.string p] 9)
              have hna := heap_alloc_new wd (.cells #[.string p] 9)
              have hla := hHeld.size
              have hne : B15 ≠ wd.heap.size := by have := smem_lt hnw; omega
              replace hnw := (hbn.block B15 (smem_lt hnw)).trans hnw
              go_simp
              refine hK.out _ _ (hHeld.trans (hbn.mono hHeld.size)) (fun hHeld => ?_)
              clear hK K hbn
              try simp only [Act.put, List.setIfInBounds_toArray, List.set_cons_zero, List.set_cons_succ]
              generalize wd.alloc _ = we at hHeld hnw hna ⊢
              generalize wd.heap.size = Ba at hna hla hne ⊢
              generalize we = wd at hHeld hnw hna ⊢
              refine wpAnyH_ready (rs := [1]) (by kernel_rfl) (by simp) ?_
              refine AllReadyH.cons (o := ⟨some 44, _, _, _, _, _⟩) rfl (fun K hK => ?n2_15D) AllReadyH.nil
              case n2_15D =>
                go_simp
                refine (HDC.out _).mono ?_
                rintro e wn ⟨rfl, hbn⟩
                replace hna := (hbn.block Ba (smem_lt hna)).trans hna
                replace hnw := (hbn.block B15 (smem_lt hnw)).trans hnw
                refine hK.out _ _ (hHeld.trans (hbn.mono hHeld.size)) (fun hHeld => ?_)
                clear hK K hbn
                try simp only [Act.put, List.setIfInBounds_toArray, List.set_cons_zero, List.set_cons_succ]
                generalize wn = wd at hHeld hna hnw ⊢
                refine wpAnyH_take (i := 2) (oi := ⟨some 45, _, _, _, _, _⟩) (v := .string (yK a)) rfl (by kernel_rfl) (by kernel_rfl) (by kernel_rfl) (fun _ _ _ h => h) (Or.inl ⟨by rfl, ?yn2_15d2⟩) hHeld ?rn2_15d2
                case yn2_15d2 =>
                  intro wx hSx
                  skip
                  go_simp
                  try with_reducible rfl
                try simp only [Act.put, List.setIfInBounds_toArray, List.set_cons_zero, List.set_cons_succ]
                refine wpAnyH_take (i := 11) (oi := ⟨some 54, _, _, _, _, _⟩) (v := ?vn2_15Db11) rfl (by kernel_rfl) (by kernel_rfl) (by kernel_rfl) (fun _ _ _ h => h) (Or.inl ⟨by rfl, ?yn2_15Db11⟩) hHeld ?rn2_15Db11
                case yn2_15Db11 =>
                  intro wx hSx
                  go_simp
                  try with_reducible rfl
                try simp only [Act.put, List.setIfInBounds_toArray, List.set_cons_zero, List.set_cons_succ]
                refine wpAnyH_ready (rs := [13]) (by kernel_rfl) (by simp) ?_
                refine AllReadyH.cons (o := ⟨none, _, _, _, _, _⟩) rfl (fun K hK => ?_) AllReadyH.nil
                have y0 : wd.cell? ⟨B15, 0, none⟩ = some (.string ⟨#[]⟩) := cell_at hnw 0
                have z0 : wd.frozen? ⟨B15, 0, none⟩ = false := free_at hnw 0
                have y1 : wd.cell? ⟨B15, 1, none⟩ = some (.string ⟨#[]⟩) := cell_at hnw 1
                have z1 : wd.frozen? ⟨B15, 1, none⟩ = false := free_at hnw 1
                have y2 : wd.cell? ⟨B15, 2, none⟩ = some (.slice none 0 0) := cell_at hnw 2
                have z2 : wd.frozen? ⟨B15, 2, none⟩ = false := free_at hnw 2
                have y3 : wd.cell? ⟨B15, 3, none⟩ = some (.string ⟨#[]⟩) := cell_at hnw 3
                have z3 : wd.frozen? ⟨B15, 3, none⟩ = false := free_at hnw 3
                have y4 : wd.cell? ⟨B15, 4, none⟩ = some (.string ⟨#[]⟩) := cell_at hnw 4
                have z4 : wd.frozen? ⟨B15, 4, none⟩ = false := free_at hnw 4
                have y5 : wd.cell? ⟨B15, 5, none⟩ = some (.int .i64 0) := cell_at hnw 5
                have z5 : wd.frozen? ⟨B15, 5, none⟩ = false := free_at hnw 5
                have HAN := y_stored hHeld hlo hnw hla hna hne (yK a) roomR user _ rfl
                simp only [World.setCells] at HAN
                go_simp
                generalize World.setCell _ _ _ = w9 at HAN ⊢
                refine hK.out _ _ HAN.1 (fun hHeld => ?_)
                clear hK K
                try simp only [Act.put, List.setIfInBounds_toArray, List.set_cons_zero, List.set_cons_succ]
                refine wpAnyH_done (by kernel_rfl) ?_ _
                go_wp2_with fail
                go_meet
                exact ⟨B15, Ba, rfl, Lib.hid HAN⟩
        case rest =>
          obtain ⟨B15, Ba, rfl, HY⟩ := hcut
          obtain ⟨w0, hw0⟩ : ∃ w0, w0 = wr := ⟨_, rfl⟩
          subst hw0
          have HKS := HK.out.turn.size
          have hlo15 := HY.out.2.1
          have HFR : Hid (∀ q ∈ ([(.slice (some ⟨bo, oo, none⟩) h.length c7, h), (.slice A3 us.length c3, us)] : List (Value × List ByteArray)), ∀ k, 0 < q.2.length → q.1.ownBlock = some k → k ≠ B15) := Lib.hid (fun q hq k h0 hk => by
            have := (HK.out.tx q hq).1.foot h0 hk
            omega)
          have HFB : Hid (∀ q ∈ ([(B11, .cells #[.string ⟨#[36, 122]⟩, .string roomR, .slice none 0 0, .string ⟨#[]⟩, .string user, .int .i64 2] 33 (0, 0)), (B4, .cells #[.string roomR, .slice Av xs.length cv] 26 (0, 0))] : List (Nat × Obj)), q.1 ≠ B15) := Lib.hid (fun q hq => by
            have := smem_lt (HK.out.box q hq).1
            omega)
          have HKYB := Lib.hid HY.out.1
          have HKY := Lib.hid (HK.out.new HY.out.1 HY.out.2.1 HY.out.2.2.1)
          have HMY := Lib.hid HY.out.2.2.2.1
          have hn15 := HY.out.2.2.2.2
          have hw15 : w2.heap.size ≤ B15 := by omega
          have hown : ∀ k, C.own w0 gd k → k < w0.heap.size := fun k hk => C.old HK.out.bd.code hk
          clear HY HXD
          by_cases h0 : a = 0
          · have q2 : decide ((0 : Int) < (a : Int)) = false := decide_eq_false (by omega)
            have q2' : decide (0 < a) = false := decide_eq_false (by omega)
            have HPL : Hid (yPar h a = [p]) := Lib.hid (by rw [← HPA.out, if_pos h0])
            have HKZ : Hid (KpS C w w2 wc gd (chain roomR user h (evs xs) a) [(B15, .cells #[.string (yK a), .string roomR, .slice (some ⟨Ba, 0, none⟩) 1 1, .string ⟨#[]⟩, .string user, .int .i64 0] 33 (0, 0)), (B11, .cells #[.string ⟨#[36, 122]⟩, .string roomR, .slice none 0 0, .string ⟨#[]⟩, .string user, .int .i64 2] 33 (0, 0)), (B4, .cells #[.string roomR, .slice Av xs.length cv] 26 (0, 0))] [] ((.slice (some ⟨Ba, 0, none⟩) (yPar h a).length 1, yPar h a) :: [(.slice (some ⟨bo, oo, none⟩) h.length c7, h), (.slice A3 us.length c3, us)])) := Lib.hid (by
              have hm := HMY.out
              have h1 := HKY.out.withTx hm.slice (fun k _ hk e => by
                have h2 := (HK.out.grow HKYB.out).2.2 k e
                have h3 := (hm.lt k hk).1
                omega)
              rw [HPL.out]
              exact h1)
            clear HKY HMY HPA h0 hown HFR HFB HK HKYB
            have HXA : Hid (EvV.at ⟨yEv roomR user h a, (some ⟨Ba, 0, none⟩), 1⟩ wc) := Lib.hid ⟨(HKZ.out.tx _ List.mem_cons_self).1, HYO.out⟩
            have HAC := Lib.hid (HAD.out _ _ _ _ _ _ ⟨HKZ.out, hax⟩ HXA.out)
            have HXY := Lib.hid (HKZ.out.box _ List.mem_cons_self).1
            unfold EvV.val EvV.pv at HAC
            simp only [yEv, HPL.out, List.length_cons, List.length_nil, Nat.zero_add] at HAC
            have v0 : wc.cell? ⟨B15, 0, none⟩ = some (.string (yK a)) := cell_at HXY.out 0
            have v1 : wc.cell? ⟨B15, 1, none⟩ = some (.string roomR) := cell_at HXY.out 1
            have v2 : wc.cell? ⟨B15, 2, none⟩ = some (.slice (some ⟨Ba, 0, none⟩) 1 1) := cell_at HXY.out 2
            have v3 : wc.cell? ⟨B15, 3, none⟩ = some (.string ⟨#[]⟩) := cell_at HXY.out 3
            have v4 : wc.cell? ⟨B15, 4, none⟩ = some (.string user) := cell_at HXY.out 4
            have v5 : wc.cell? ⟨B15, 5, none⟩ = some (.int .i64 0) := cell_at HXY.out 5
            go_wp2_with fail
            go_at_call 28
            refine HAC.out.mono ?_
            rintro e wa ⟨rfl, hka⟩
            have HKA := Lib.hid hka
            have u0 : wa.cell? ⟨B15, 0, none⟩ = some (.string (yK a)) := cell_at (hka.box _ List.mem_cons_self).1 0
            clear hka HXA HAC HXY v0 v1 v2 v3 v4 v5
            go_wp2_with fail
            refine ⟨⟨a + 1, by rw [lastK_succ], by go_num, by omega, Lib.hid (HKA.out.less (fun q hq => List.mem_cons_of_mem _ hq) (fun x hx => hx) (fun q hq => List.mem_cons_of_mem _ hq))⟩, ?_⟩
            simp [intOf]; omega
          · have q2 : decide ((0 : Int) < (a : Int)) = true := decide_eq_true (by omega)
            have q2' : decide (0 < a) = true := decide_eq_true (by omega)
            have HPL : Hid (putL (lastK a) (putL p []) = yPar h a) := Lib.hid (by rw [← HPA.out, if_neg h0]; unfold lastK; rw [if_neg h0])
            have HPU := Lib.hid (fun W => refPut_any (.slice none 0 0) [] p W (Lies.Slice.nil W) (by simp))
            have HPU2 : Hid (∀ W v, LT.Slice W v (putL p []) → Calls Tryz.prog 31 #[v, .string (lastK a)] W fun e w' => ∃ v', e = .returned v' ∧ LT.Mine w' W.heap.size v' (yPar h a) ∧ Below W.heap.size W w') := Lib.hid (fun W v hv => by
              have := refPut_any v (putL p []) (lastK a) W hv (Nat.le_trans (putL_len _ _) (by simp))
              rw [HPL.out] at this
              exact this)
            have y2 : wc.cell? ⟨B15, 2, none⟩ = some (.slice (some ⟨Ba, 0, none⟩) 1 1) := cell_at (HKY.out.box _ List.mem_cons_self).1 2
            have z2 : wc.frozen? ⟨B15, 2, none⟩ = false := free_at (HKY.out.box _ List.mem_cons_self).1 2
            have HKN := Lib.hid (HKY.out.set 2 (.slice none 0 0) hw2 hw15 HFB.out (fun x hx => by cases hx) HFR.out)
            simp only [List.setIfInBounds_toArray, List.set_cons_succ, List.set_cons_zero] at HKN
            clear HKY HMY HPA h0 hown HK HKYB
            go_upto_region 17 with (fail)
            clear y2 z2
            generalize wc.setCell _ _ = wd1 at HKN ⊢
            replace HKN := Lib.hid (HKN.out.later (Below.refl _ _).drew)
            have y2 : wd1.cell? ⟨B15, 2, none⟩ = some (.slice none 0 0) := cell_at (HKN.out.box _ List.mem_cons_self).1 2
            have e4 : wd1.cell? ⟨bo, oo + a, none⟩ = some (.string p) := text_cell (HKN.out.tx _ List.mem_cons_self).1 HX.out
            have hb15 := smem_lt (HKN.out.box _ List.mem_cons_self).1
            go_region_with ((go_at_call 31; refine (HPU.out _).mono ?_; rintro e wp ⟨v1, rfl, mp, bp⟩; obtain ⟨Ap, cp, rfl, -⟩ := id mp.shape; have HKP := Lib.hid ((HKN.out.later bp).withTx mp.slice (fun k _ hk e => by have h1 := (HKN.out.grow bp).2.2 k e; have h2 := (mp.lt k hk).1; omega)); have HFP : Hid (∀ k, (Value.slice Ap (putL p []).length cp).ownBlock = some k → k ≠ B15) := Lib.hid (fun k hk => by have h2 := (mp.lt k hk).1; omega); have x2 : wp.cell? ⟨B15, 2, none⟩ = some (.slice none 0 0) := cell_at (HKP.out.box _ List.mem_cons_self).1 2; have o2 : wp.frozen? ⟨B15, 2, none⟩ = false := free_at (HKP.out.box _ List.mem_cons_self).1 2; clear mp bp))
            all_goals
              have HKQ := Lib.hid (HKP.out.set 2 (.slice Ap (putL p []).length cp) hw2 hw15 HFB.out (fun x hx => by cases hx) (fun q hq => by
                rcases List.mem_cons.1 hq with rfl | hq
                · exact fun k _ hk => HFP.out k hk
                · exact HFR.out q hq))
              simp only [List.setIfInBounds_toArray, List.set_cons_succ, List.set_cons_zero] at HKQ
              clear x2 o2 y2 e4 HKP HKN
              generalize wp.setCell _ _ = wq at HKQ ⊢
              have hb16 := smem_lt (HKQ.out.box _ List.mem_cons_self).1
              have y2 : wq.cell? ⟨B15, 2, none⟩ = some (.slice Ap (putL p []).length cp) := cell_at (HKQ.out.box _ List.mem_cons_self).1 2
              go_wp2_with fail
              go_at_call 31
              refine (HPU2.out _ _ (HKQ.out.tx _ List.mem_cons_self).1).mono ?_
              rintro e ws ⟨v2, rfl, mq, bq⟩
              obtain ⟨Aq, cq, rfl, -⟩ := id mq.shape
              have HKR := Lib.hid ((HKQ.out.later bq).withTx mq.slice (fun k _ hk e => by have h1 := (HKQ.out.grow bq).2.2 k e; have h2 := (mq.lt k hk).1; omega))
              have HFQ : Hid (∀ k, (Value.slice Aq (yPar h a).length cq).ownBlock = some k → k ≠ B15) := Lib.hid (fun k hk => by have h2 := (mq.lt k hk).1; omega)
              have x2 : ws.cell? ⟨B15, 2, none⟩ = some (.slice Ap (putL p []).length cp) := cell_at (HKR.out.box _ List.mem_cons_self).1 2
              have o2 : ws.frozen? ⟨B15, 2, none⟩ = false := free_at (HKR.out.box _ List.mem_cons_self).1 2
              clear mq bq y2 HKQ
              go_upto_region 19 with (fail)
              have HKZ := Lib.hid (HKR.out.set 2 (.slice Aq (yPar h a).length cq) hw2 hw15 HFB.out (fun x hx => by cases hx) (fun q hq => by
                rcases List.mem_cons.1 hq with rfl | hq
                · exact fun k _ hk => HFQ.out k hk
                · rcases List.mem_cons.1 hq with rfl | hq
                  · exact fun k _ hk => HFP.out k hk
                  · exact HFR.out q hq))
              simp only [List.setIfInBounds_toArray, List.set_cons_succ, List.set_cons_zero] at HKZ
              clear x2 o2 HKR
              generalize ws.setCell _ _ = wz at HKZ ⊢
              have HXA : Hid (EvV.at ⟨yEv roomR user h a, Aq, cq⟩ wz) := Lib.hid ⟨(HKZ.out.tx _ List.mem_cons_self).1, HYO.out⟩
              have HAC := Lib.hid (HAD.out _ _ _ _ _ _ ⟨HKZ.out, hax⟩ HXA.out)
              have HXY := Lib.hid (HKZ.out.box _ List.mem_cons_self).1
              unfold EvV.val EvV.pv at HAC
              simp only [yEv] at HAC
              have v0 : wz.cell? ⟨B15, 0, none⟩ = some (.string (yK a)) := cell_at HXY.out 0
              have v1 : wz.cell? ⟨B15, 1, none⟩ = some (.string roomR) := cell_at HXY.out 1
              have v2 : wz.cell? ⟨B15, 2, none⟩ = some (.slice Aq (yPar h a).length cq) := cell_at HXY.out 2
              have v3 : wz.cell? ⟨B15, 3, none⟩ = some (.string ⟨#[]⟩) := cell_at HXY.out 3
              have v4 : wz.cell? ⟨B15, 4, none⟩ = some (.string user) := cell_at HXY.out 4
              have v5 : wz.cell? ⟨B15, 5, none⟩ = some (.int .i64 0) := cell_at HXY.out 5
              go_wp2_with fail
              go_at_call 28
              refine HAC.out.mono ?_
              rintro e wa ⟨rfl, hka⟩
              have HKA := Lib.hid hka
              have u0 : wa.cell? ⟨B15, 0, none⟩ = some (.string (yK a)) := cell_at (hka.box _ List.mem_cons_self).1 0
              clear hka HXA HAC HXY v0 v1 v2 v3 v4 v5
              go_wp2_with fail
              refine ⟨⟨a + 1, by rw [lastK_succ], by go_num, by omega, Lib.hid (HKA.out.less (fun q hq => List.mem_cons_of_mem _ hq) (fun x hx => hx) (fun q hq => List.mem_cons_of_mem _ (List.mem_cons_of_mem _ hq)))⟩, ?_⟩
              simp [intOf]; omega
      · have q1 : decide ((a : Int) < (h.length : Int)) = false := decide_eq_false (by omega)
        obtain rfl : a = h.length := by omega
        have HAZ : Hid (∀ W bs ts A c, KpS C w w2 W gd (chain roomR user h (evs xs) h.length) bs [] ts → EvV.at ⟨zEv roomR user h 2, A, c⟩ W → Calls Tryz.prog 28 #[.pointer (some ⟨gd, 0, none⟩), (⟨zEv roomR user h 2, A, c⟩ : EvV).val] W fun e w' => e = .returned (.int .i64 0) ∧ KpS C w w2 w' gd (endL roomR user h (evs xs) 2) bs [] ts) := Lib.hid (fun W bs ts A c hk hx => by
          refine (C.add _ hk.bd.code (by rw [chain_len, evs_len]; omega) hx).mono ?_
          have h0 : errA roomR (chain roomR user h (evs xs) h.length) (zEv roomR user h 2) = 0 := HCO.out.zerr (by omega) (by omega)
          rintro e w' ⟨rfl, hc, ht⟩
          refine ⟨by rw [h0], hk.step ?_ ht⟩
          have h1 : addA roomR (chain roomR user h (evs xs) h.length) (zEv roomR user h 2) = endL roomR user h (evs xs) 2 := by unfold addA; rw [if_pos h0]; rfl
          rw [← h1]
          exact hc)
        clear HAD
        by_cases hz : h.length = 0
        · have hlk : lastK h.length = ⟨#[]⟩ := by unfold lastK; rw [if_pos hz]
          have HZP : Hid (zPar h = []) := Lib.hid (by unfold zPar; rw [if_pos hz])
          rw [hlk]
          clear hlk hz
          have HXA : Hid (EvV.at ⟨zEv roomR user h 2, none, 0⟩ wr) := Lib.hid ⟨(by show LT.Slice wr (.slice none (zPar h).length 0) (zPar h); rw [HZP.out]; exact Lies.Slice.nil _), z_ok HCO.out hus (by omega) (by omega)⟩
          have HAC := Lib.hid (HAZ.out _ _ _ _ _ HK.out HXA.out)
          have HXY := Lib.hid (HK.out.box _ List.mem_cons_self).1
          unfold EvV.val EvV.pv at HAC
          simp only [zEv, HZP.out, List.length_cons, List.length_nil, Nat.zero_add] at HAC
          unfold zK at HAC
          have v0 : wr.cell? ⟨B11, 0, none⟩ = some (.string ⟨#[36, 122]⟩) := cell_at HXY.out 0
          have v1 : wr.cell? ⟨B11, 1, none⟩ = some (.string roomR) := cell_at HXY.out 1
          have v2 : wr.cell? ⟨B11, 2, none⟩ = some (.slice none 0 0) := cell_at HXY.out 2
          have v3 : wr.cell? ⟨B11, 3, none⟩ = some (.string ⟨#[]⟩) := cell_at HXY.out 3
          have v4 : wr.cell? ⟨B11, 4, none⟩ = some (.string user) := cell_at HXY.out 4
          have v5 : wr.cell? ⟨B11, 5, none⟩ = some (.int .i64 2) := cell_at HXY.out 5
          go_wp2_with fail
          go_at_call 28
          refine HAC.out.mono ?_
          rintro e wa ⟨rfl, hka⟩
          have HKE := Lib.hid (hka.less (bs' := []) (es' := []) (ts' := [(.slice A3 us.length c3, us)]) (fun q hq => (List.not_mem_nil hq).elim) (fun x hx => hx) (fun q hq => by rw [List.mem_singleton.1 hq]; exact (List.mem_cons_of_mem _ List.mem_cons_self)))
          clear hka HXA HAC HXY v0 v1 v2 v3 v4 v5
          have HJN : Hid (joinL (endL roomR user h (evs xs) 2) user = false) := Lib.hid (by rw [end_join HHH.out HCO.out (by omega) (by omega)]; rfl)
          have HUL : Hid (usersL (endL roomR user h (evs xs) 2) = wantL user us 2) := Lib.hid (by rw [end_users HHH.out HCO.out (by omega) (by omega), HUE.out])
          have hll : (endL roomR user h (evs xs) 2).length ≤ 100 := by unfold endL; rw [List.length_append, chain_len, evs_len]; simp only [List.length_cons, List.length_nil]; omega
          generalize endL roomR user h (evs xs) 2 = l at HKE HJN HUL hll
          have hc3' : c3 ≤ 9223372036854775807 := by
            obtain ⟨_, _, he3, hc3, hm3, -⟩ := id (HKE.out.tx _ List.mem_cons_self).1
            injection he3 with _ _ he3
            unfold maxLen at hm3
            omega
          go_wp2_with fail
          go_loopw [16, 17] (fun q i wr => ∃ (c : Nat) (ts : List ByteArray) (Ao : Option Addr) (co : Nat), q = .slice Ao ts.length co ∧ i = .int .i64 (c : Int) ∧ c ≤ us.length ∧ ts.length ≤ c ∧ Hid (HdS wa wr q ts) ∧ Hid (ts = (us.take c).filter (fun x => !decide (x = user)))) (fun _ i _ => us.length - (intOf i).toNat)
          case atStart => exact ⟨0, [], none, 0, rfl, rfl, Nat.zero_le _, Nat.le_refl _, Lib.hid ⟨Below.refl _ _, .inl ⟨rfl, rfl⟩⟩, Lib.hid rfl⟩
          case round =>
            obtain ⟨wm, hwm⟩ : ∃ wm, wm = wr := ⟨_, rfl⟩
            subst hwm
            obtain ⟨c, ts, Ao, co, rfl, rfl, hc, htc, HO, HT⟩ := hrel
            by_cases hcu : c < us.length
            · have q3 : decide ((c : Int) < (us.length : Int)) = true := decide_eq_true (by omega)
              have hx : us[c]? = some us[c] := List.getElem?_eq_getElem hcu
              generalize us[c] = x at hx
              have HTK : Hid (us.take (c + 1) = us.take c ++ [x]) := Lib.hid (by rw [List.take_add_one, hx]; rfl)
              obtain ⟨b3, o3, rfl, hb3, hc3c⟩ := text_at (HKE.out.tx _ List.mem_cons_self).1 hx
              have hiy := index_any (P := Tryz.prog) knT (by decide) (b := b3) (off := o3) (cap := c3) hcu
              simp only [LT] at hiy
              rw [Nat.mul_one] at hiy
              have e4 : wm.cell? ⟨b3, o3 + c, none⟩ = some (.string x) := (HO.out.below.cell (p := ⟨b3, o3 + c, none⟩) hb3).trans hc3c
              clear hx hc3c
              by_cases hxu : x = user
              · have s1 : (x.toList == user.toList) = true := by rw [hxu]; exact beq_self_eq_true _
                have s2 : (x.toList != user.toList) = false := by rw [hxu]; exact bne_self_eq_false _
                have HT2 : Hid (ts = (us.take (c + 1)).filter (fun x => !decide (x = user))) := Lib.hid (by rw [HTK.out, List.filter_append, HT.out]; simp [hxu])
                clear hxu
                go_wp2_with fail
                refine ⟨⟨c + 1, ts, Ao, co, rfl, by go_num, by omega, by omega, HO, HT2⟩, ?_⟩
                simp [intOf]; omega
              · have hne : x.toList ≠ user.toList := fun e => hxu (toList_inj9 e)
                have s1 : (x.toList == user.toList) = false := by rw [beq_eq_false_iff_ne]; exact hne
                have s2 : (x.toList != user.toList) = true := by rw [bne_iff_ne]; exact hne
                have HT2 : Hid (ts ++ [x] = (us.take (c + 1)).filter (fun x => !decide (x = user))) := Lib.hid (by rw [HTK.out, List.filter_append, HT.out]; simp [hxu])
                clear hxu hne
                have hlit1 := Lib.hid (lit_text wm x)
                have hb1 := below_new wm (.cells #[.string x] 9)
                have HA1 := Lib.hid (HO.out.on hb1)
                have hs1 : wa.heap.size ≤ (wm.alloc (.cells #[.string x] 9)).heap.size := HA1.out.below.size
                clear hb1
                go_wp2_with (at_builtin; refine wpList_puts rfl knT (.tmp 98) (.tmp 103) 31 rfl (v := .slice Ao ts.length co) rfl HA1.out.row hs1 (.slice (some ⟨wm.heap.size, 0, none⟩) 1 1) [x] 1 rfl rfl (hlit1.out.srcN knT rfl) (by omega) ?_; intro A1 c1 w1 m1 g1 o1; have H1 : Hid (HdS wa w1 (.slice A1 (ts.length + 1) c1) (ts ++ [x])) := Lib.hid ⟨HA1.out.below.grown g1 hs1 (fun k hk => (HA1.out.row.lt k hk).1), m1⟩; clear m1 g1 o1)
                refine ⟨⟨c + 1, ts ++ [x], A1, c1, by rw [List.length_append]; rfl, by go_num, by omega, by rw [List.length_append]; simp only [List.length_cons, List.length_nil]; omega, H1, HT2⟩, ?_⟩
                simp [intOf]; omega
            · have q3 : decide ((c : Int) < (us.length : Int)) = false := decide_eq_false (by omega)
              have HTW : Hid (usersL l = ts) := Lib.hid (by
                have h1 : ts = us.filter (fun x => !decide (x = user)) := by rw [HT.out, List.take_of_length_le (by omega)]
                rw [HUL.out, h1]
                rfl)
              clear HT
              skip
              have HKW : Hid (KpS C w w2 wm gd l [] [] [(.slice Ao ts.length co, ts)]) := Lib.hid (((HKE.out.later HO.out.below).less (bs' := []) (es' := []) (ts' := []) (fun q hq => (List.not_mem_nil hq).elim) (fun x hx => hx) (fun q hq => (List.not_mem_nil hq).elim)).withTx HO.out.row.slice (fun k _ hk e => by
                have h1 := (HKE.out.grow HO.out.below).2.2 k e
                have h2 := (HO.out.row.lt k hk).1
                omega))
              have HQ := Lib.hid (memJoined_any C CA user HKW.out.bd.code hll hus)
              rw [HJN.out] at HQ
              go_wp2_with fail
              go_at_call 13
              refine HQ.out.mono ?_
              rintro e wb ⟨rfl, hcb, htb⟩
              have HKX := Lib.hid (HKW.out.step hcb htb)
              clear hcb htb HQ
              have HQ := Lib.hid (memUsers_any C CA HKX.out.bd.code hll)
              rw [HTW.out] at HQ
              go_wp2_with fail
              go_at_call 17
              refine HQ.out.mono ?_
              rintro e wc2 ⟨vu, rfl, mu, tu, hcu2, htu⟩
              obtain ⟨Au, cu, rfl, -⟩ := id mu.shape
              have HKY := Lib.hid ((HKX.out.step hcu2 htu).withTx mu.slice (fun k _ hk => tu k hk))
              clear hcu2 htu HQ mu tu
              have HQ := Lib.hid (sameTexts_any _ _ _ _ wc2 (HKY.out.tx _ List.mem_cons_self).1 (HKY.out.tx _ (List.mem_cons_of_mem _ List.mem_cons_self)).1)
              simp only [decide_true] at HQ
              go_wp2_with fail
              go_at_call 16
              refine HQ.out.mono ?_
              rintro e wd2 ⟨rfl, dd, rfl⟩
              have HKV : Hid (KpS C w w2 (wc2.drewN dd) gd l [] [] []) := Lib.hid ((HKY.out.later (⟨rfl, rfl, rfl, Nat.le_refl _, fun _ _ => rfl⟩ : Below wc2.heap.size wc2 (wc2.drewN dd))).less (fun q hq => hq) (fun x hx => hx) (fun q hq => (List.not_mem_nil hq).elim))
              clear HQ
              have HQ := Lib.hid (lives9_any C CA (wc2.drewN dd))
              go_wp2_with fail
              go_at_call 19
              refine HQ.out.mono ?_
              rintro e we ⟨rfl, be⟩
              have HB9 := Lib.hid (HKV.out.later be).bd.below
              go_wp2_with fail
              go_ret
              exact ⟨rfl, HB9.out⟩
        · have hlk : lastK h.length = yK (h.length - 1) := by unfold lastK; rw [if_neg hz]
          have HZP : Hid (zPar h = [yK (h.length - 1)]) := Lib.hid (by unfold zPar; rw [if_neg hz])
          have hyf := yK_full ⟨h.length - 1, by omega⟩
          simp only at hyf
          rw [hlk]
          clear hlk hz
          generalize yK (h.length - 1) = yl at HZP hyf ⊢
          have hyt : yl.toList ≠ [] := fun e => hyf (toList_inj9 (by rw [e, ByteArray.toList_eq]))
          have s1 : yl.toList.isEmpty = false := by cases hl : yl.toList with | nil => exact absurd hl hyt | cons _ _ => rfl
          have s2 : (yl.toList == []) = false := by rw [beq_eq_false_iff_ne]; exact hyt
          have s3 : (yl.toList != []) = true := by rw [bne_iff_ne]; exact hyt
          have HBX := Lib.hid (HK.out.box _ List.mem_cons_self).1
          have hb11 := smem_lt HBX.out
          have HKM := Lib.hid ((HK.out.later (below_new wr (.cells #[.string yl] 9))).withTx (lit_text wr yl) (fun k _ hk e => by
            have h1 := (HK.out.grow (below_new wr (.cells #[.string yl] 9))).2.2 k e
            have h2 : wr.heap.size = k := by simpa [Value.ownBlock] using hk
            omega))
          have y2 : (wr.alloc (.cells #[.string yl] 9)).cell? ⟨B11, 2, none⟩ = some (.slice none 0 0) := cell_at (HKM.out.box _ List.mem_cons_self).1 2
          have z2 : (wr.alloc (.cells #[.string yl] 9)).frozen? ⟨B11, 2, none⟩ = false := free_at (HKM.out.box _ List.mem_cons_self).1 2
          have HKS := Lib.hid (HKM.out.set 2 (.slice (some ⟨wr.heap.size, 0, none⟩) 1 1) hw2 HB11 (fun q hq => by rw [List.mem_singleton.1 hq]; exact HN4) (fun x hx => by cases hx) (fun q hq => by
            rcases List.mem_cons.1 hq with rfl | hq
            · intro k _ hk
              have h2 : wr.heap.size = k := by simpa [Value.ownBlock] using hk
              omega
            · rcases List.mem_cons.1 hq with rfl | hq
              · exact HF7.out
              · rw [List.mem_singleton.1 hq]; exact HF3.out))
          simp only [List.setIfInBounds_toArray, List.set_cons_succ, List.set_cons_zero] at HKS
          clear HKM HK HBX hb11 hyf hyt
          go_upto_region 24 with (fail)
          clear y2 z2 s1 s2 s3
          generalize World.setCell _ _ _ = wq at HKS ⊢
          generalize wr.heap.size = Bl at HKS ⊢
          have HXA : Hid (EvV.at ⟨zEv roomR user h 2, (some ⟨Bl, 0, none⟩), 1⟩ wq) := Lib.hid ⟨(by show LT.Slice wq (.slice (some ⟨Bl, 0, none⟩) (zPar h).length 1) (zPar h); rw [HZP.out]; exact (HKS.out.tx _ List.mem_cons_self).1), z_ok HCO.out hus (by omega) (by omega)⟩
          have HAC := Lib.hid (HAZ.out _ _ _ _ _ HKS.out HXA.out)
          have HXY := Lib.hid (HKS.out.box _ List.mem_cons_self).1
          unfold EvV.val EvV.pv at HAC
          simp only [zEv, HZP.out, List.length_cons, List.length_nil, Nat.zero_add] at HAC
          unfold zK at HAC
          have v0 : wq.cell? ⟨B11, 0, none⟩ = some (.string ⟨#[36, 122]⟩) := cell_at HXY.out 0
          have v1 : wq.cell? ⟨B11, 1, none⟩ = some (.string roomR) := cell_at HXY.out 1
          have v2 : wq.cell? ⟨B11, 2, none⟩ = some (.slice (some ⟨Bl, 0, none⟩) 1 1) := cell_at HXY.out 2
          have v3 : wq.cell? ⟨B11, 3, none⟩ = some (.string ⟨#[]⟩) := cell_at HXY.out 3
          have v4 : wq.cell? ⟨B11, 4, none⟩ = some (.string user) := cell_at HXY.out 4
          have v5 : wq.cell? ⟨B11, 5, none⟩ = some (.int .i64 2) := cell_at HXY.out 5
          go_wp2_with fail
          go_at_call 28
          refine HAC.out.mono ?_
          rintro e wa ⟨rfl, hka⟩
          have HKE := Lib.hid (hka.less (bs' := []) (es' := []) (ts' := [(.slice A3 us.length c3, us)]) (fun q hq => (List.not_mem_nil hq).elim) (fun x hx => hx) (fun q hq => by rw [List.mem_singleton.1 hq]; exact (List.mem_cons_of_mem _ (List.mem_cons_of_mem _ List.mem_cons_self))))
          clear hka HXA HAC HXY v0 v1 v2 v3 v4 v5
          have HJN : Hid (joinL (endL roomR user h (evs xs) 2) user = false) := Lib.hid (by rw [end_join HHH.out HCO.out (by omega) (by omega)]; rfl)
          have HUL : Hid (usersL (endL roomR user h (evs xs) 2) = wantL user us 2) := Lib.hid (by rw [end_users HHH.out HCO.out (by omega) (by omega), HUE.out])
          have hll : (endL roomR user h (evs xs) 2).length ≤ 100 := by unfold endL; rw [List.length_append, chain_len, evs_len]; simp only [List.length_cons, List.length_nil]; omega
          generalize endL roomR user h (evs xs) 2 = l at HKE HJN HUL hll
          have hc3' : c3 ≤ 9223372036854775807 := by
            obtain ⟨_, _, he3, hc3, hm3, -⟩ := id (HKE.out.tx _ List.mem_cons_self).1
            injection he3 with _ _ he3
            unfold maxLen at hm3
            omega
          go_wp2_with fail
          go_loopw [16, 17] (fun q i wr => ∃ (c : Nat) (ts : List ByteArray) (Ao : Option Addr) (co : Nat), q = .slice Ao ts.length co ∧ i = .int .i64 (c : Int) ∧ c ≤ us.length ∧ ts.length ≤ c ∧ Hid (HdS wa wr q ts) ∧ Hid (ts = (us.take c).filter (fun x => !decide (x = user)))) (fun _ i _ => us.length - (intOf i).toNat)
          case atStart => exact ⟨0, [], none, 0, rfl, rfl, Nat.zero_le _, Nat.le_refl _, Lib.hid ⟨Below.refl _ _, .inl ⟨rfl, rfl⟩⟩, Lib.hid rfl⟩
          case round =>
            obtain ⟨wm, hwm⟩ : ∃ wm, wm = wr := ⟨_, rfl⟩
            subst hwm
            obtain ⟨c, ts, Ao, co, rfl, rfl, hc, htc, HO, HT⟩ := hrel
            by_cases hcu : c < us.length
            · have q3 : decide ((c : Int) < (us.length : Int)) = true := decide_eq_true (by omega)
              have hx : us[c]? = some us[c] := List.getElem?_eq_getElem hcu
              generalize us[c] = x at hx
              have HTK : Hid (us.take (c + 1) = us.take c ++ [x]) := Lib.hid (by rw [List.take_add_one, hx]; rfl)
              obtain ⟨b3, o3, rfl, hb3, hc3c⟩ := text_at (HKE.out.tx _ List.mem_cons_self).1 hx
              have hiy := index_any (P := Tryz.prog) knT (by decide) (b := b3) (off := o3) (cap := c3) hcu
              simp only [LT] at hiy
              rw [Nat.mul_one] at hiy
              have e4 : wm.cell? ⟨b3, o3 + c, none⟩ = some (.string x) := (HO.out.below.cell (p := ⟨b3, o3 + c, none⟩) hb3).trans hc3c
              clear hx hc3c
              by_cases hxu : x = user
              · have s1 : (x.toList == user.toList) = true := by rw [hxu]; exact beq_self_eq_true _
                have s2 : (x.toList != user.toList) = false := by rw [hxu]; exact bne_self_eq_false _
                have HT2 : Hid (ts = (us.take (c + 1)).filter (fun x => !decide (x = user))) := Lib.hid (by rw [HTK.out, List.filter_append, HT.out]; simp [hxu])
                clear hxu
                go_wp2_with fail
                refine ⟨⟨c + 1, ts, Ao, co, rfl, by go_num, by omega, by omega, HO, HT2⟩, ?_⟩
                simp [intOf]; omega
              · have hne : x.toList ≠ user.toList := fun e => hxu (toList_inj9 e)
                have s1 : (x.toList == user.toList) = false := by rw [beq_eq_false_iff_ne]; exact hne
                have s2 : (x.toList != user.toList) = true := by rw [bne_iff_ne]; exact hne
                have HT2 : Hid (ts ++ [x] = (us.take (c + 1)).filter (fun x => !decide (x = user))) := Lib.hid (by rw [HTK.out, List.filter_append, HT.out]; simp [hxu])
                clear hxu hne
                have hlit1 := Lib.hid (lit_text wm x)
                have hb1 := below_new wm (.cells #[.string x] 9)
                have HA1 := Lib.hid (HO.out.on hb1)
                have hs1 : wa.heap.size ≤ (wm.alloc (.cells #[.string x] 9)).heap.size := HA1.out.below.size
                clear hb1
                go_wp2_with (at_builtin; refine wpList_puts rfl knT (.tmp 98) (.tmp 103) 31 rfl (v := .slice Ao ts.length co) rfl HA1.out.row hs1 (.slice (some ⟨wm.heap.size, 0, none⟩) 1 1) [x] 1 rfl rfl (hlit1.out.srcN knT rfl) (by omega) ?_; intro A1 c1 w1 m1 g1 o1; have H1 : Hid (HdS wa w1 (.slice A1 (ts.length + 1) c1) (ts ++ [x])) := Lib.hid ⟨HA1.out.below.grown g1 hs1 (fun k hk => (HA1.out.row.lt k hk).1), m1⟩; clear m1 g1 o1)
                refine ⟨⟨c + 1, ts ++ [x], A1, c1, by rw [List.length_append]; rfl, by go_num, by omega, by rw [List.length_append]; simp only [List.length_cons, List.length_nil]; omega, H1, HT2⟩, ?_⟩
                simp [intOf]; omega
            · have q3 : decide ((c : Int) < (us.length : Int)) = false := decide_eq_false (by omega)
              have HTW : Hid (usersL l = ts) := Lib.hid (by
                have h1 : ts = us.filter (fun x => !decide (x = user)) := by rw [HT.out, List.take_of_length_le (by omega)]
                rw [HUL.out, h1]
                rfl)
              clear HT
              skip
              have HKW : Hid (KpS C w w2 wm gd l [] [] [(.slice Ao ts.length co, ts)]) := Lib.hid (((HKE.out.later HO.out.below).less (bs' := []) (es' := []) (ts' := []) (fun q hq => (List.not_mem_nil hq).elim) (fun x hx => hx) (fun q hq => (List.not_mem_nil hq).elim)).withTx HO.out.row.slice (fun k _ hk e => by
                have h1 := (HKE.out.grow HO.out.below).2.2 k e
                have h2 := (HO.out.row.lt k hk).1
                omega))
              have HQ := Lib.hid (memJoined_any C CA user HKW.out.bd.code hll hus)
              rw [HJN.out] at HQ
              go_wp2_with fail
              go_at_call 13
              refine HQ.out.mono ?_
              rintro e wb ⟨rfl, hcb, htb⟩
              have HKX := Lib.hid (HKW.out.step hcb htb)
              clear hcb htb HQ
              have HQ := Lib.hid (memUsers_any C CA HKX.out.bd.code hll)
              rw [HTW.out] at HQ
              go_wp2_with fail
              go_at_call 17
              refine HQ.out.mono ?_
              rintro e wc2 ⟨vu, rfl, mu, tu, hcu2, htu⟩
              obtain ⟨Au, cu, rfl, -⟩ := id mu.shape
              have HKY := Lib.hid ((HKX.out.step hcu2 htu).withTx mu.slice (fun k _ hk => tu k hk))
              clear hcu2 htu HQ mu tu
              have HQ := Lib.hid (sameTexts_any _ _ _ _ wc2 (HKY.out.tx _ List.mem_cons_self).1 (HKY.out.tx _ (List.mem_cons_of_mem _ List.mem_cons_self)).1)
              simp only [decide_true] at HQ
              go_wp2_with fail
              go_at_call 16
              refine HQ.out.mono ?_
              rintro e wd2 ⟨rfl, dd, rfl⟩
              have HKV : Hid (KpS C w w2 (wc2.drewN dd) gd l [] [] []) := Lib.hid ((HKY.out.later (⟨rfl, rfl, rfl, Nat.le_refl _, fun _ _ => rfl⟩ : Below wc2.heap.size wc2 (wc2.drewN dd))).less (fun q hq => hq) (fun x hx => hx) (fun q hq => (List.not_mem_nil hq).elim))
              clear HQ
              have HQ := Lib.hid (lives9_any C CA (wc2.drewN dd))
              go_wp2_with fail
              go_at_call 19
              refine HQ.out.mono ?_
              rintro e we ⟨rfl, be⟩
              have HB9 := Lib.hid (HKV.out.later be).bd.below
              go_wp2_with fail
              go_ret
              exact ⟨rfl, HB9.out⟩
  case true =>
    have y5 : w5.cell? ⟨B11, 5, none⟩ = some (.int .i64 2) := cell_at (HK5.out.box _ List.mem_cons_self).1 5
    have z5 : w5.frozen? ⟨B11, 5, none⟩ = false := free_at (HK5.out.box _ List.mem_cons_self).1 5
    replace HK5 := Lib.hid (HK5.out.set 5 (.int .i64 1) hw2 HB11 (fun q hq => by rw [List.mem_singleton.1 hq]; exact HN4) (fun x hx => by cases hx) (fun p hp => by rw [List.mem_singleton.1 hp]; exact HF3.out))
    simp only [List.setIfInBounds_toArray, List.set_cons_succ, List.set_cons_zero] at HK5
    go_upto_region 9 with (fail)
    clear y5 z5
    generalize w5.setCell _ _ = w6 at HK5 ⊢
    have HXD := Lib.hid (HK5.out.box _ (List.mem_cons_of_mem _ List.mem_cons_self)).1
    have d0 := cell_at HXD.out 0
    have d1 := cell_at HXD.out 1
    simp only [List.getElem?_toArray, List.getElem?_cons_succ, List.getElem?_cons_zero] at d0 d1
    have hb11 := smem_lt (HK5.out.box _ List.mem_cons_self).1
    have HQ := Lib.hid (HHD.out _ _ _ _ HK5.out)
    go_wp2_with fail
    go_at_call 29
    refine HQ.out.mono ?_
    rintro e w7 ⟨A7, c7, rfl, m7, hk7⟩
    have HF7 : Hid (∀ k, 0 < (headsL (evs xs)).length → (Value.slice A7 (headsL (evs xs)).length c7).ownBlock = some k → k ≠ B11) := Lib.hid (fun k _ hk => by
      have := (m7.lt k hk).1
      omega)
    have HK7 := Lib.hid hk7
    have hc7' : c7 ≤ 9223372036854775807 := by
      obtain ⟨_, _, he7, hc7, hm7, -⟩ := id m7.slice
      injection he7 with _ _ he7
      unfold maxLen at hm7
      omega
    clear hk7 m7 HQ HXD d0 d1 HK5 hb11
    have HCO : Hid (ChainOk roomR user (headsL (evs xs)) (evs xs)) := Lib.hid ⟨HVL.out, roomR_room, HUU.out, by rw [← headsTo_all]; exact Nat.le_trans (headsTo_len _ _ _) (by rw [allL_len, evs_len]; exact hxl), HIDS.out, heads_mem HVL.out⟩
    have HHH : Hid (headsL (evs xs) = headsL (evs xs)) := Lib.hid rfl
    have hln : (headsL (evs xs)).length ≤ 9 := HCO.out.len
    have HUE : Hid (usersL (evs xs) = usersL (evs xs)) := Lib.hid rfl
    have hul : (usersL (evs xs)).length ≤ 9 := Nat.le_trans (usersL_len _) (by rw [evs_len]; exact hxl)
    generalize hh : headsL (evs xs) = h at HF7 HK7 HCO hln ⊢
    clear HHH
    have HHH : Hid (h = headsL (evs xs)) := Lib.hid hh.symm
    generalize hu : usersL (evs xs) = us at HF3 HK7 hul ⊢
    clear HUE
    have HUE : Hid (us = usersL (evs xs)) := Lib.hid hu.symm
    clear hh hu
    have HAD : Hid (∀ W bs ts a A c, KpS C w w2 W gd (chain roomR user h (evs xs) a) bs [] ((.slice A (yPar h a).length c, yPar h a) :: ts) ∧ a < h.length → EvV.at ⟨yEv roomR user h a, A, c⟩ W → Calls Tryz.prog 28 #[.pointer (some ⟨gd, 0, none⟩), (⟨yEv roomR user h a, A, c⟩ : EvV).val] W fun e w' => e = .returned (.int .i64 0) ∧ KpS C w w2 w' gd (chain roomR user h (evs xs) (a + 1)) bs [] ((.slice A (yPar h a).length c, yPar h a) :: ts)) := Lib.hid (fun W bs ts a A c ⟨hk, ha⟩ hx => by
      refine (C.add _ hk.bd.code (by rw [chain_len, evs_len]; omega) hx).mono ?_
      have h0 : errA roomR (chain roomR user h (evs xs) a) (yEv roomR user h a) = 0 := HCO.out.err ha
      rintro e w' ⟨rfl, hc, ht⟩
      refine ⟨by rw [h0], hk.step ?_ ht⟩
      have h1 : addA roomR (chain roomR user h (evs xs) a) (yEv roomR user h a) = chain roomR user h (evs xs) (a + 1) := by unfold addA; rw [if_pos h0, chain_succ]
      rw [← h1]
      exact hc)
    have HK8 : Hid (KpS C w w2 w7 gd (chain roomR user h (evs xs) 0) [(B11, .cells #[.string ⟨#[36, 122]⟩, .string roomR, .slice none 0 0, .string ⟨#[]⟩, .string user, .int .i64 1] 33 (0, 0)), (B4, .cells #[.string roomR, .slice Av xs.length cv] 26 (0, 0))] [] [(.slice A7 h.length c7, h), (.slice A3 us.length c3, us)]) := Lib.hid (by rw [chain_zero]; exact HK7.out)
    clear HK7 HUS HHD HEW
    go_wp2_with fail
    go_loopw [13, 14] (fun s i wr => ∃ a : Nat, s = .string (lastK a) ∧ i = .int .i64 (a : Int) ∧ a ≤ h.length ∧ Hid (KpS C w w2 wr gd (chain roomR user h (evs xs) a) [(B11, .cells #[.string ⟨#[36, 122]⟩, .string roomR, .slice none 0 0, .string ⟨#[]⟩, .string user, .int .i64 1] 33 (0, 0)), (B4, .cells #[.string roomR, .slice Av xs.length cv] 26 (0, 0))] [] [(.slice A7 h.length c7, h), (.slice A3 us.length c3, us)])) (fun _ i _ => h.length - (intOf i).toNat)
    case atStart => exact ⟨0, rfl, rfl, Nat.zero_le _, HK8⟩
    case round =>
      clear HK8
      obtain ⟨a, rfl, rfl, ha, HK⟩ := hrel
      by_cases hax : a < h.length
      · have q1 : decide ((a : Int) < (h.length : Int)) = true := decide_eq_true (by omega)
        obtain ⟨hx, -⟩ := head_get hax
        have HPA := Lib.hid (HCO.out.par hax)
        have HYO : Hid ((yEv roomR user h a).ok) := Lib.hid (y_ok HCO.out hax hus)
        have HDC := Lib.hid (fun W => decimal_any a W (by omega))
        have hd := add_any ⟨#[36, 121]⟩ (strOf [UInt8.ofNat (48 + a)]) (by decide) (strOf1_size _)
        rw [yK_add ⟨a, by omega⟩] at hd
        simp only at hd
        generalize strOf [UInt8.ofNat (48 + a)] = sd at HDC hd
        have HPG : Hid (h.getD a ⟨#[]⟩ = h.getD a ⟨#[]⟩) := Lib.hid rfl
        generalize hp : h.getD a ⟨#[]⟩ = p at hx HPA
        clear HPG
        have HPP := Lib.hid hp
        clear hp
        have HXD := Lib.hid (HK.out.box _ (List.mem_cons_of_mem _ List.mem_cons_self)).1
        obtain ⟨bo, oo, rfl, hbo, hco⟩ := text_at (HK.out.tx _ List.mem_cons_self).1 hx
        have hix := index_any (P := Tryz.prog) knT (by decide) (b := bo) (off := oo) (cap := c7) hax
        simp only [LT] at hix
        rw [Nat.mul_one] at hix
        have hco2 := hco
        have HCO2 := Lib.hid hco2
        have HX := Lib.hid hx
        clear hx hco2
        go_upto_region 14 with (fail)
        go_cut [15] from 43 to 54 (fun s15 wx => ∃ B15 Ba, s15 = .pointer (some ⟨B15, 0, none⟩) ∧ Hid (Below wr.heap.size wr wx ∧ wr.heap.size ≤ B15 ∧ wx.heap[B15]? = some (.cells #[.string (yK a), .string roomR, .slice (some ⟨Ba, 0, none⟩) 1 1, .string ⟨#[]⟩, .string user, .int .i64 0] 33 (0, 0)) ∧ LT.Mine wx wr.heap.size (.slice (some ⟨Ba, 0, none⟩) 1 1) [p] ∧ B15 ≠ Ba))
        case first =>
          refine wp_region_held_drew (S := fun w' => Below wr.heap.size wr w') (by kernel_rfl) (Below.refl _ _).drew (fun hHeld => ?_)
          have HXW : Hid (∀ W, Below wr.heap.size wr W → W.cell? ⟨B4, 0, none⟩ = some (.string roomR) ∧ W.cell? ⟨bo, oo + a, none⟩ = some (.string p)) := Lib.hid (fun W hW => ⟨cell_at ((hW.block B4 (smem_lt HXD.out)).trans HXD.out) 0, (hW.cell (p := ⟨bo, oo + a, none⟩) hbo).trans hco⟩)
          clear hco
          generalize wr.drew = wd at hHeld ⊢
          refine wpAnyH_take (i := 0) (oi := ⟨some 43, _, _, _, _, _⟩) (v := ?vq10) rfl (by kernel_rfl) (by kernel_rfl) (by kernel_rfl) (fun _ _ _ h => h) (Or.inl ⟨by rfl, ?yq10⟩) hHeld ?rq10
          case yq10 =>
            intro wx hSx
            go_simp
            try with_reducible rfl
          try simp only [Act.put, List.setIfInBounds_toArray, List.set_cons_zero, List.set_cons_succ]
          refine wpAnyH_take (i := 3) (oi := ⟨some 46, _, _, _, _, _⟩) (v := ?vq13) rfl (by kernel_rfl) (by kernel_rfl) (by kernel_rfl) (fun _ _ _ h => h) (Or.inl ⟨by rfl, ?yq13⟩) hHeld ?rq13
          case yq13 =>
            intro wx hSx
            go_simp
            try with_reducible rfl
          try simp only [Act.put, List.setIfInBounds_toArray, List.set_cons_zero, List.set_cons_succ]
          refine wpAnyH_take (i := 4) (oi := ⟨some 47, _, _, _, _, _⟩) (v := ?vq14) rfl (by kernel_rfl) (by kernel_rfl) (by kernel_rfl) (fun _ _ _ h => h) (Or.inl ⟨by rfl, ?yq14⟩) hHeld ?rq14
          case yq14 =>
            intro wx hSx
            have p0 := (HXW.out _ hSx).1
            go_simp
            try with_reducible rfl
          try simp only [Act.put, List.setIfInBounds_toArray, List.set_cons_zero, List.set_cons_succ]
          refine wpAnyH_take (i := 5) (oi := ⟨some 48, _, _, _, _, _⟩) (v := ?vq15) rfl (by kernel_rfl) (by kernel_rfl) (by kernel_rfl) (fun _ _ _ h => h) (Or.inl ⟨by rfl, ?yq15⟩) hHeld ?rq15
          case yq15 =>
            intro wx hSx
            go_simp
            try with_reducible rfl
          try simp only [Act.put, List.setIfInBounds_toArray, List.set_cons_zero, List.set_cons_succ]
          refine wpAnyH_take (i := 6) (oi := ⟨some 49, _, _, _, _, _⟩) (v := ?vq16) rfl (by kernel_rfl) (by kernel_rfl) (by kernel_rfl) (fun _ _ _ h => h) (Or.inl ⟨by rfl, ?yq16⟩) hHeld ?rq16
          case yq16 =>
            intro wx hSx
            go_simp
            try with_reducible rfl
          try simp only [Act.put, List.setIfInBounds_toArray, List.set_cons_zero, List.set_cons_succ]
          refine wpAnyH_take (i := 7) (oi := ⟨some 50, _, _, _, _, _⟩) (v := ?vq17) rfl (by kernel_rfl) (by kernel_rfl) (by kernel_rfl) (fun _ _ _ h => h) (Or.inl ⟨by rfl, ?yq17⟩) hHeld ?rq17
          case yq17 =>
            intro wx hSx
            go_simp
            try with_reducible rfl
          try simp only [Act.put, List.setIfInBounds_toArray, List.set_cons_zero, List.set_cons_succ]
          refine wpAnyH_take (i := 8) (oi := ⟨some 51, _, _, _, _, _⟩) (v := ?vq18) rfl (by kernel_rfl) (by kernel_rfl) (by kernel_rfl) (fun _ _ _ h => h) (Or.inl ⟨by rfl, ?yq18⟩) hHeld ?rq18
          case yq18 =>
            intro wx hSx
            go_simp
            try with_reducible rfl
          try simp only [Act.put, List.setIfInBounds_toArray, List.set_cons_zero, List.set_cons_succ]
          refine wpAnyH_take (i := 9) (oi := ⟨some 52, _, _, _, _, _⟩) (v := ?vq19) rfl (by kernel_rfl) (by kernel_rfl) (by kernel_rfl) (fun _ _ _ h => h) (Or.inl ⟨by rfl, ?yq19⟩) hHeld ?rq19
          case yq19 =>
            intro wx hSx
            have p0 := (HXW.out _ hSx).2
            go_simp
            try with_reducible rfl
          try simp only [Act.put, List.setIfInBounds_toArray, List.set_cons_zero, List.set_cons_succ]
          refine wpAnyH_ready (rs := [1, 10, 12]) (by kernel_rfl) (by simp) ?_
          refine AllReadyH.cons (o := ⟨some 44, _, _, _, _, _⟩) rfl (fun K hK => ?n1_1D) (AllReadyH.cons (o := ⟨some 53, _, _, _, _, _⟩) rfl (fun K hK => ?n1_1S) (AllReadyH.cons (o := ⟨some 15, _, _, _, _, _⟩) rfl (fun K hK => ?n1_1A) AllReadyH.nil))
          case n1_1D =>
            go_simp
            refine (HDC.out _).mono ?_
            rintro e wn ⟨rfl, hbn⟩
            refine hK.out _ _ (hHeld.trans (hbn.mono hHeld.size)) (fun hHeld => ?_)
            clear hK K hbn
            try simp only [Act.put, List.setIfInBounds_toArray, List.set_cons_zero, List.set_cons_succ]
            generalize wn = wd at hHeld  ⊢
            refine wpAnyH_take (i := 2) (oi := ⟨some 45, _, _, _, _, _⟩) (v := .string (yK a)) rfl (by kernel_rfl) (by kernel_rfl) (by kernel_rfl) (fun _ _ _ h => h) (Or.inl ⟨by rfl, ?yn1_1d2⟩) hHeld ?rn1_1d2
            case yn1_1d2 =>
              intro wx hSx
              skip
              go_simp
              try with_reducible rfl
            try simp only [Act.put, List.setIfInBounds_toArray, List.set_cons_zero, List.set_cons_succ]
            refine wpAnyH_ready (rs := [10, 12]) (by kernel_rfl) (by simp) ?_
            refine AllReadyH.cons (o := ⟨some 53, _, _, _, _, _⟩) rfl (fun K hK => ?n1_2S) (AllReadyH.cons (o := ⟨some 15, _, _, _, _, _⟩) rfl (fun K hK => ?n1_2A) AllReadyH.nil)
            case n1_2S =>
              have hbn := below_new wd (.cells #[.string p] 9)
              have hna := heap_alloc_new wd (.cells #[.string p] 9)
              have hla := hHeld.size
              go_simp
              refine hK.out _ _ (hHeld.trans (hbn.mono hHeld.size)) (fun hHeld => ?_)
              clear hK K hbn
              try simp only [Act.put, List.setIfInBounds_toArray, List.set_cons_zero, List.set_cons_succ]
              generalize wd.alloc _ = we at hHeld hna ⊢
              generalize wd.heap.size = Ba at hna hla  ⊢
              generalize we = wd at hHeld hna ⊢
              refine wpAnyH_take (i := 11) (oi := ⟨some 54, _, _, _, _, _⟩) (v := ?vn1_2Sb11) rfl (by kernel_rfl) (by kernel_rfl) (by kernel_rfl) (fun _ _ _ h => h) (Or.inl ⟨by rfl, ?yn1_2Sb11⟩) hHeld ?rn1_2Sb11
              case yn1_2Sb11 =>
                intro wx hSx
                go_simp
                try with_reducible rfl
              try simp only [Act.put, List.setIfInBounds_toArray, List.set_cons_zero, List.set_cons_succ]
              refine wpAnyH_ready (rs := [12]) (by kernel_rfl) (by simp) ?_
              refine AllReadyH.cons (o := ⟨some 15, _, _, _, _, _⟩) rfl (fun K hK => ?n1_3A) AllReadyH.nil
              case n1_3A =>
                have hbn := below_new wd (.cells #[.string ⟨#[]⟩, .string ⟨#[]⟩, .slice none 0 0, .string ⟨#[]⟩, .string ⟨#[]⟩, .int .i64 0] 33)
                have hnw := heap_alloc_new wd (.cells #[.string ⟨#[]⟩, .string ⟨#[]⟩, .slice none 0 0, .string ⟨#[]⟩, .string ⟨#[]⟩, .int .i64 0] 33)
                have hlo := hHeld.size
                have hne : Ba ≠ wd.heap.size := by have := smem_lt hna; omega
                replace hna := (hbn.block Ba (smem_lt hna)).trans hna
                replace hne := hne.symm
                go_simp
                refine hK.out _ _ (hHeld.trans (hbn.mono hHeld.size)) (fun hHeld => ?_)
                clear hK K hbn
                try simp only [Act.put, List.setIfInBounds_toArray, List.set_cons_zero, List.set_cons_succ]
                generalize wd.alloc _ = we at hHeld hna hnw ⊢
                generalize wd.heap.size = B15 at hnw hlo hne ⊢
                generalize we = wd at hHeld hna hnw ⊢
                refine wpAnyH_ready (rs := [13]) (by kernel_rfl) (by simp) ?_
                refine AllReadyH.cons (o := ⟨none, _, _, _, _, _⟩) rfl (fun K hK => ?_) AllReadyH.nil
                have y0 : wd.cell? ⟨B15, 0, none⟩ = some (.string ⟨#[]⟩) := cell_at hnw 0
                have z0 : wd.frozen? ⟨B15, 0, none⟩ = false := free_at hnw 0
                have y1 : wd.cell? ⟨B15, 1, none⟩ = some (.string ⟨#[]⟩) := cell_at hnw 1
                have z1 : wd.frozen? ⟨B15, 1, none⟩ = false := free_at hnw 1
                have y2 : wd.cell? ⟨B15, 2, none⟩ = some (.slice none 0 0) := cell_at hnw 2
                have z2 : wd.frozen? ⟨B15, 2, none⟩ = false := free_at hnw 2
                have y3 : wd.cell? ⟨B15, 3, none⟩ = some (.string ⟨#[]⟩) := cell_at hnw 3
                have z3 : wd.frozen? ⟨B15, 3, none⟩ = false := free_at hnw 3
                have y4 : wd.cell? ⟨B15, 4, none⟩ = some (.string ⟨#[]⟩) := cell_at hnw 4
                have z4 : wd.frozen? ⟨B15, 4, none⟩ = false := free_at hnw 4
                have y5 : wd.cell? ⟨B15, 5, none⟩ = some (.int .i64 0) := cell_at hnw 5
                have z5 : wd.frozen? ⟨B15, 5, none⟩ = false := free_at hnw 5
                have HAN := y_stored hHeld hlo hnw hla hna hne (yK a) roomR user _ rfl
                simp only [World.setCells] at HAN
                go_simp
                generalize World.setCell _ _ _ = w9 at HAN ⊢
                refine hK.out _ _ HAN.1 (fun hHeld => ?_)
                clear hK K
                try simp only [Act.put, List.setIfInBounds_toArray, List.set_cons_zero, List.set_cons_succ]
                refine wpAnyH_done (by kernel_rfl) ?_ _
                go_wp2_with fail
                go_meet
                exact ⟨B15, Ba, rfl, Lib.hid HAN⟩
            case n1_2A =>
              have hbn := below_new wd (.cells #[.string ⟨#[]⟩, .string ⟨#[]⟩, .slice none 0 0, .string ⟨#[]⟩, .string ⟨#[]⟩, .int .i64 0] 33)
              have hnw := heap_alloc_new wd (.cells #[.string ⟨#[]⟩, .string ⟨#[]⟩, .slice none 0 0, .string ⟨#[]⟩, .string ⟨#[]⟩, .int .i64 0] 33)
              have hlo := hHeld.size
              go_simp
              refine hK.out _ _ (hHeld.trans (hbn.mono hHeld.size)) (fun hHeld => ?_)
              clear hK K hbn
              try simp only [Act.put, List.setIfInBounds_toArray, List.set_cons_zero, List.set_cons_succ]
              generalize wd.alloc _ = we at hHeld hnw ⊢
              generalize wd.heap.size = B15 at hnw hlo  ⊢
              generalize we = wd at hHeld hnw ⊢
              refine wpAnyH_ready (rs := [10]) (by kernel_rfl) (by simp) ?_
              refine AllReadyH.cons (o := ⟨some 53, _, _, _, _, _⟩) rfl (fun K hK => ?n1_5S) AllReadyH.nil
              case n1_5S =>
                have hbn := below_new wd (.cells #[.string p] 9)
                have hna := heap_alloc_new wd (.cells #[.string p] 9)
                have hla := hHeld.size
                have hne : B15 ≠ wd.heap.size := by have := smem_lt hnw; omega
                replace hnw := (hbn.block B15 (smem_lt hnw)).trans hnw
                go_simp
                refine hK.out _ _ (hHeld.trans (hbn.mono hHeld.size)) (fun hHeld => ?_)
                clear hK K hbn
                try simp only [Act.put, List.setIfInBounds_toArray, List.set_cons_zero, List.set_cons_succ]
                generalize wd.alloc _ = we at hHeld hnw hna ⊢
                generalize wd.heap.size = Ba at hna hla hne ⊢
                generalize we = wd at hHeld hnw hna ⊢
                refine wpAnyH_take (i := 11) (oi := ⟨some 54, _, _, _, _, _⟩) (v := ?vn1_5Sb11) rfl (by kernel_rfl) (by kernel_rfl) (by kernel_rfl) (fun _ _ _ h => h) (Or.inl ⟨by rfl, ?yn1_5Sb11⟩) hHeld ?rn1_5Sb11
                case yn1_5Sb11 =>
                  intro wx hSx
                  go_simp
                  try with_reducible rfl
                try simp only [Act.put, List.setIfInBounds_toArray, List.set_cons_zero, List.set_cons_succ]
                refine wpAnyH_ready (rs := [13]) (by kernel_rfl) (by simp) ?_
                refine AllReadyH.cons (o := ⟨none, _, _, _, _, _⟩) rfl (fun K hK => ?_) AllReadyH.nil
                have y0 : wd.cell? ⟨B15, 0, none⟩ = some (.string ⟨#[]⟩) := cell_at hnw 0
                have z0 : wd.frozen? ⟨B15, 0, none⟩ = false := free_at hnw 0
                have y1 : wd.cell? ⟨B15, 1, none⟩ = some (.string ⟨#[]⟩) := cell_at hnw 1
                have z1 : wd.frozen? ⟨B15, 1, none⟩ = false := free_at hnw 1
                have y2 : wd.cell? ⟨B15, 2, none⟩ = some (.slice none 0 0) := cell_at hnw 2
                have z2 : wd.frozen? ⟨B15, 2, none⟩ = false := free_at hnw 2
                have y3 : wd.cell? ⟨B15, 3, none⟩ = some (.string ⟨#[]⟩) := cell_at hnw 3
                have z3 : wd.frozen? ⟨B15, 3, none⟩ = false := free_at hnw 3
                have y4 : wd.cell? ⟨B15, 4, none⟩ = some (.string ⟨#[]⟩) := cell_at hnw 4
                have z4 : wd.frozen? ⟨B15, 4, none⟩ = false := free_at hnw 4
                have y5 : wd.cell? ⟨B15, 5, none⟩ = some (.int .i64 0) := cell_at hnw 5
                have z5 : wd.frozen? ⟨B15, 5, none⟩ = false := free_at hnw 5
                have HAN := y_stored hHeld hlo hnw hla hna hne (yK a) roomR user _ rfl
                simp only [World.setCells] at HAN
                go_simp
                generalize World.setCell _ _ _ = w9 at HAN ⊢
                refine hK.out _ _ HAN.1 (fun hHeld => ?_)
                clear hK K
                try simp only [Act.put, List.setIfInBounds_toArray, List.set_cons_zero, List.set_cons_succ]
                refine wpAnyH_done (by kernel_rfl) ?_ _
                go_wp2_with fail
                go_meet
                exact ⟨B15, Ba, rfl, Lib.hid HAN⟩
          case n1_1S =>
            have hbn := below_new wd (.cells #[.string p] 9)
            have hna := heap_alloc_new wd (.cells #[.string p] 9)
            have hla := hHeld.size
            go_simp
            refine hK.out _ _ (hHeld.trans (hbn.mono hHeld.size)) (fun hHeld => ?_)
            clear hK K hbn
            try simp only [Act.put, List.setIfInBounds_toArray, List.set_cons_zero, List.set_cons_succ]
            generalize wd.alloc _ = we at hHeld hna ⊢
            generalize wd.heap.size = Ba at hna hla  ⊢
            generalize we = wd at hHeld hna ⊢
            refine wpAnyH_ready (rs := [1, 12]) (by kernel_rfl) (by simp) ?_
            refine AllReadyH.cons (o := ⟨some 44, _, _, _, _, _⟩) rfl (fun K hK => ?n1_7D) (AllReadyH.cons (o := ⟨some 15, _, _, _, _, _⟩) rfl (fun K hK => ?n1_7A) AllReadyH.nil)
            case n1_7D =>
              go_simp
              refine (HDC.out _).mono ?_
              rintro e wn ⟨rfl, hbn⟩
              replace hna := (hbn.block Ba (smem_lt hna)).trans hna
              refine hK.out _ _ (hHeld.trans (hbn.mono hHeld.size)) (fun hHeld => ?_)
              clear hK K hbn
              try simp only [Act.put, List.setIfInBounds_toArray, List.set_cons_zero, List.set_cons_succ]
              generalize wn = wd at hHeld hna ⊢
              refine wpAnyH_take (i := 2) (oi := ⟨some 45, _, _, _, _, _⟩) (v := .string (yK a)) rfl (by kernel_rfl) (by kernel_rfl) (by kernel_rfl) (fun _ _ _ h => h) (Or.inl ⟨by rfl, ?yn1_7d2⟩) hHeld ?rn1_7d2
              case yn1_7d2 =>
                intro wx hSx
                skip
                go_simp
                try with_reducible rfl
              try simp only [Act.put, List.setIfInBounds_toArray, List.set_cons_zero, List.set_cons_succ]
              refine wpAnyH_take (i := 11) (oi := ⟨some 54, _, _, _, _, _⟩) (v := ?vn1_7Db11) rfl (by kernel_rfl) (by kernel_rfl) (by kernel_rfl) (fun _ _ _ h => h) (Or.inl ⟨by rfl, ?yn1_7Db11⟩) hHeld ?rn1_7Db11
              case yn1_7Db11 =>
                intro wx hSx
                go_simp
                try with_reducible rfl
              try simp only [Act.put, List.setIfInBounds_toArray, List.set_cons_zero, List.set_cons_succ]
              refine wpAnyH_ready (rs := [12]) (by kernel_rfl) (by simp) ?_
              refine AllReadyH.cons (o := ⟨some 15, _, _, _, _, _⟩) rfl (fun K hK => ?n1_8A) AllReadyH.nil
              case n1_8A =>
                have hbn := below_new wd (.cells #[.string ⟨#[]⟩, .string ⟨#[]⟩, .slice none 0 0, .string ⟨#[]⟩, .string ⟨#[]⟩, .int .i64 0] 33)
                have hnw := heap_alloc_new wd (.cells #[.string ⟨#[]⟩, .string ⟨#[]⟩, .slice none 0 0, .string ⟨#[]⟩, .string ⟨#[]⟩, .int .i64 0] 33)
                have hlo := hHeld.size
                have hne : Ba ≠ wd.heap.size := by have := smem_lt hna; omega
                replace hna := (hbn.block Ba (smem_lt hna)).trans hna
                replace hne := hne.symm
                go_simp
                refine hK.out _ _ (hHeld.trans (hbn.mono hHeld.size)) (fun hHeld => ?_)
                clear hK K hbn
                try simp only [Act.put, List.setIfInBounds_toArray, List.set_cons_zero, List.set_cons_succ]
                generalize wd.alloc _ = we at hHeld hna hnw ⊢
                generalize wd.heap.size = B15 at hnw hlo hne ⊢
                generalize we = wd at hHeld hna hnw ⊢
                refine wpAnyH_ready (rs := [13]) (by kernel_rfl) (by simp) ?_
                refine AllReadyH.cons (o := ⟨none, _, _, _, _, _⟩) rfl (fun K hK => ?_) AllReadyH.nil
                have y0 : wd.cell? ⟨B15, 0, none⟩ = some (.string ⟨#[]⟩) := cell_at hnw 0
                have z0 : wd.frozen? ⟨B15, 0, none⟩ = false := free_at hnw 0
                have y1 : wd.cell? ⟨B15, 1, none⟩ = some (.string ⟨#[]⟩) := cell_at hnw 1
                have z1 : wd.frozen? ⟨B15, 1, none⟩ = false := free_at hnw 1
                have y2 : wd.cell? ⟨B15, 2, none⟩ = some (.slice none 0 0) := cell_at hnw 2
                have z2 : wd.frozen? ⟨B15, 2, none⟩ = false := free_at hnw 2
                have y3 : wd.cell? ⟨B15, 3, none⟩ = some (.string ⟨#[]⟩) := cell_at hnw 3
                have z3 : wd.frozen? ⟨B15, 3, none⟩ = false := free_at hnw 3
                have y4 : wd.cell? ⟨B15, 4, none⟩ = some (.string ⟨#[]⟩) := cell_at hnw 4
                have z4 : wd.frozen? ⟨B15, 4, none⟩ = false := free_at hnw 4
                have y5 : wd.cell? ⟨B15, 5, none⟩ = some (.int .i64 0) := cell_at hnw 5
                have z5 : wd.frozen? ⟨B15, 5, none⟩ = false := free_at hnw 5
                have HAN := y_stored hHeld hlo hnw hla hna hne (yK a) roomR user _ rfl
                simp only [World.setCells] at HAN
                go_simp
                generalize World.setCell _ _ _ = w9 at HAN ⊢
                refine hK.out _ _ HAN.1 (fun hHeld => ?_)
                clear hK K
                try simp only [Act.put, List.setIfInBounds_toArray, List.set_cons_zero, List.set_cons_succ]
                refine wpAnyH_done (by kernel_rfl) ?_ _
                go_wp2_with fail
                go_meet
                exact ⟨B15, Ba, rfl, Lib.hid HAN⟩
            case n1_7A =>
              have hbn := below_new wd (.cells #[.string ⟨#[]⟩, .string ⟨#[]⟩, .slice none 0 0, .string ⟨#[]⟩, .string ⟨#[]⟩, .int .i64 0] 33)
              have hnw := heap_alloc_new wd (.cells #[.string ⟨#[]⟩, .string ⟨#[]⟩, .slice none 0 0, .string ⟨#[]⟩, .string ⟨#[]⟩, .int .i64 0] 33)
              have hlo := hHeld.size
              have hne : Ba ≠ wd.heap.size := by have := smem_lt hna; omega
              replace hna := (hbn.block Ba (smem_lt hna)).trans hna
              replace hne := hne.symm
              go_simp
              refine hK.out _ _ (hHeld.trans (hbn.mono hHeld.size)) (fun hHeld => ?_)
              clear hK K hbn
              try simp only [Act.put, List.setIfInBounds_toArray, List.set_cons_zero, List.set_cons_succ]
              generalize wd.alloc _ = we at hHeld hna hnw ⊢
              generalize wd.heap.size = B15 at hnw hlo hne ⊢
              generalize we = wd at hHeld hna hnw ⊢
              refine wpAnyH_ready (rs := [1]) (by kernel_rfl) (by simp) ?_
              refine AllReadyH.cons (o := ⟨some 44, _, _, _, _, _⟩) rfl (fun K hK => ?n1_10D) AllReadyH.nil
              case n1_10D =>
                go_simp
                refine (HDC.out _).mono ?_
                rintro e wn ⟨rfl, hbn⟩
                replace hna := (hbn.block Ba (smem_lt hna)).trans hna
                replace hnw := (hbn.block B15 (smem_lt hnw)).trans hnw
                refine hK.out _ _ (hHeld.trans (hbn.mono hHeld.size)) (fun hHeld => ?_)
                clear hK K hbn
                try simp only [Act.put, List.setIfInBounds_toArray, List.set_cons_zero, List.set_cons_succ]
                generalize wn = wd at hHeld hna hnw ⊢
                refine wpAnyH_take (i := 2) (oi := ⟨some 45, _, _, _, _, _⟩) (v := .string (yK a)) rfl (by kernel_rfl) (by kernel_rfl) (by kernel_rfl) (fun _ _ _ h => h) (Or.inl ⟨by rfl, ?yn1_10d2⟩) hHeld ?rn1_10d2
                case yn1_10d2 =>
                  intro wx hSx
                  skip
                  go_simp
                  try with_reducible rfl
                try simp only [Act.put, List.setIfInBounds_toArray, List.set_cons_zero, List.set_cons_succ]
                refine wpAnyH_take (i := 11) (oi := ⟨some 54, _, _, _, _, _⟩) (v := ?vn1_10Db11) rfl (by kernel_rfl) (by kernel_rfl) (by kernel_rfl) (fun _ _ _ h => h) (Or.inl ⟨by rfl, ?yn1_10Db11⟩) hHeld ?rn1_10Db11
                case yn1_10Db11 =>
                  intro wx hSx
                  go_simp
                  try with_reducible rfl
                try simp only [Act.put, List.setIfInBounds_toArray, List.set_cons_zero, List.set_cons_succ]
                refine wpAnyH_ready (rs := [13]) (by kernel_rfl) (by simp) ?_
                refine AllReadyH.cons (o := ⟨none, _, _, _, _, _⟩) rfl (fun K hK => ?_) AllReadyH.nil
                have y0 : wd.cell? ⟨B15, 0, none⟩ = some (.string ⟨#[]⟩) := cell_at hnw 0
                have z0 : wd.frozen? ⟨B15, 0, none⟩ = false := free_at hnw 0
                have y1 : wd.cell? ⟨B15, 1, none⟩ = some (.string ⟨#[]⟩) := cell_at hnw 1
                have z1 : wd.frozen? ⟨B15, 1, none⟩ = false := free_at hnw 1
                have y2 : wd.cell? ⟨B15, 2, none⟩ = some (.slice none 0 0) := cell_at hnw 2
                have z2 : wd.frozen? ⟨B15, 2, none⟩ = false := free_at hnw 2
                have y3 : wd.cell? ⟨B15, 3, none⟩ = some (.string ⟨#[]⟩) := cell_at hnw 3
                have z3 : wd.frozen? ⟨B15, 3, none⟩ = false := free_at hnw 3
                have y4 : wd.cell? ⟨B15, 4, none⟩ = some (.string ⟨#[]⟩) := cell_at hnw 4
                have z4 : wd.frozen? ⟨B15, 4, none⟩ = false := free_at hnw 4
                have y5 : wd.cell? ⟨B15, 5, none⟩ = some (.int .i64 0) := cell_at hnw 5
                have z5 : wd.frozen? ⟨B15, 5, none⟩ = false := free_at hnw 5
                have HAN := y_stored hHeld hlo hnw hla hna hne (yK a) roomR user _ rfl
                simp only [World.setCells] at HAN
                go_simp
                generalize World.setCell _ _ _ = w9 at HAN ⊢
                refine hK.out _ _ HAN.1 (fun hHeld => ?_)
                clear hK K
                try simp only [Act.put, List.setIfInBounds_toArray, List.set_cons_zero, List.set_cons_succ]
                refine wpAnyH_done (by kernel_rfl) ?_ _
                go_wp2_with fail
                go_meet
                exact ⟨B15, Ba, rfl, Lib.hid HAN⟩
          case n1_1A =>
            have hbn := below_new wd (.cells #[.string ⟨#[]⟩, .string ⟨#[]⟩, .slice none 0 0, .string ⟨#[]⟩, .string ⟨#[]⟩, .int .i64 0] 33)
            have hnw := heap_alloc_new wd (.cells #[.string ⟨#[]⟩, .string ⟨#[]⟩, .slice none 0 0, .string ⟨#[]⟩, .string ⟨#[]⟩, .int .i64 0] 33)
            have hlo := hHeld.size
            go_simp
            refine hK.out _ _ (hHeld.trans (hbn.mono hHeld.size)) (fun hHeld => ?_)
            clear hK K hbn
            try simp only [Act.put, List.setIfInBounds_toArray, List.set_cons_zero, List.set_cons_succ]
            generalize wd.alloc _ = we at hHeld hnw ⊢
            generalize wd.heap.size = B15 at hnw hlo  ⊢
            generalize we = wd at hHeld hnw ⊢
            refine wpAnyH_ready (rs := [1, 10]) (by kernel_rfl) (by simp) ?_
            refine AllReadyH.cons (o := ⟨some 44, _, _, _, _, _⟩) rfl (fun K hK => ?n1_12D) (AllReadyH.cons (o := ⟨some 53, _, _, _, _, _⟩) rfl (fun K hK => ?n1_12S) AllReadyH.nil)
            case n1_12D =>
              go_simp
              refine (HDC.out _).mono ?_
              rintro e wn ⟨rfl, hbn⟩
              replace hnw := (hbn.block B15 (smem_lt hnw)).trans hnw
              refine hK.out _ _ (hHeld.trans (hbn.mono hHeld.size)) (fun hHeld => ?_)
              clear hK K hbn
              try simp only [Act.put, List.setIfInBounds_toArray, List.set_cons_zero, List.set_cons_succ]
              generalize wn = wd at hHeld hnw ⊢
              refine wpAnyH_take (i := 2) (oi := ⟨some 45, _, _, _, _, _⟩) (v := .string (yK a)) rfl (by kernel_rfl) (by kernel_rfl) (by kernel_rfl) (fun _ _ _ h => h) (Or.inl ⟨by rfl, ?yn1_12d2⟩) hHeld ?rn1_12d2
              case yn1_12d2 =>
                intro wx hSx
                skip
                go_simp
                try with_reducible rfl
              try simp only [Act.put, List.setIfInBounds_toArray, List.set_cons_zero, List.set_cons_succ]
              refine wpAnyH_ready (rs := [10]) (by kernel_rfl) (by simp) ?_
              refine AllReadyH.cons (o := ⟨some 53, _, _, _, _, _⟩) rfl (fun K hK => ?n1_13S) AllReadyH.nil
              case n1_13S =>
                have hbn := below_new wd (.cells #[.string p] 9)
                have hna := heap_alloc_new wd (.cells #[.string p] 9)
                have hla := hHeld.size
                have hne : B15 ≠ wd.heap.size := by have := smem_lt hnw; omega
                replace hnw := (hbn.block B15 (smem_lt hnw)).trans hnw
                go_simp
                refine hK.out _ _ (hHeld.trans (hbn.mono hHeld.size)) (fun hHeld => ?_)
                clear hK K hbn
                try simp only [Act.put, List.setIfInBounds_toArray, List.set_cons_zero, List.set_cons_succ]
                generalize wd.alloc _ = we at hHeld hnw hna ⊢
                generalize wd.heap.size = Ba at hna hla hne ⊢
                generalize we = wd at hHeld hnw hna ⊢
                refine wpAnyH_take (i := 11) (oi := ⟨some 54, _, _, _, _, _⟩) (v := ?vn1_13Sb11) rfl (by kernel_rfl) (by kernel_rfl) (by kernel_rfl) (fun _ _ _ h => h) (Or.inl ⟨by rfl, ?yn1_13Sb11⟩) hHeld ?rn1_13Sb11
                case yn1_13Sb11 =>
                  intro wx hSx
                  go_simp
                  try with_reducible rfl
                try simp only [Act.put, List.setIfInBounds_toArray, List.set_cons_zero, List.set_cons_succ]
                refine wpAnyH_ready (rs := [13]) (by kernel_rfl) (by simp) ?_
                refine AllReadyH.cons (o := ⟨none, _, _, _, _, _⟩) rfl (fun K hK => ?_) AllReadyH.nil
                have y0 : wd.cell? ⟨B15, 0, none⟩ = some (.string ⟨#[]⟩) := cell_at hnw 0
                have z0 : wd.frozen? ⟨B15, 0, none⟩ = false := free_at hnw 0
                have y1 : wd.cell? ⟨B15, 1, none⟩ = some (.string ⟨#[]⟩) := cell_at hnw 1
                have z1 : wd.frozen? ⟨B15, 1, none⟩ = false := free_at hnw 1
                have y2 : wd.cell? ⟨B15, 2, none⟩ = some (.slice none 0 0) := cell_at hnw 2
                have z2 : wd.frozen? ⟨B15, 2, none⟩ = false := free_at hnw 2
                have y3 : wd.cell? ⟨B15, 3, none⟩ = some (.string ⟨#[]⟩) := cell_at hnw 3
                have z3 : wd.frozen? ⟨B15, 3, none⟩ = false := free_at hnw 3
                have y4 : wd.cell? ⟨B15, 4, none⟩ = some (.string ⟨#[]⟩) := cell_at hnw 4
                have z4 : wd.frozen? ⟨B15, 4, none⟩ = false := free_at hnw 4
                have y5 : wd.cell? ⟨B15, 5, none⟩ = some (.int .i64 0) := cell_at hnw 5
                have z5 : wd.frozen? ⟨B15, 5, none⟩ = false := free_at hnw 5
                have HAN := y_stored hHeld hlo hnw hla hna hne (yK a) roomR user _ rfl
                simp only [World.setCells] at HAN
                go_simp
                generalize World.setCell _ _ _ = w9 at HAN ⊢
                refine hK.out _ _ HAN.1 (fun hHeld => ?_)
                clear hK K
                try simp only [Act.put, List.setIfInBounds_toArray, List.set_cons_zero, List.set_cons_succ]
                refine wpAnyH_done (by kernel_rfl) ?_ _
                go_wp2_with fail
                go_meet
                exact ⟨B15, Ba, rfl, Lib.hid HAN⟩
            case n1_12S =>
              have hbn := below_new wd (.cells #[.string p] 9)
              have hna := heap_alloc_new wd (.cells #[.string p] 9)
              have hla := hHeld.size
              have hne : B15 ≠ wd.heap.size := by have := smem_lt hnw; omega
              replace hnw := (hbn.block B15 (smem_lt hnw)).trans hnw
              go_simp
              refine hK.out _ _ (hHeld.trans (hbn.mono hHeld.size)) (fun hHeld => ?_)
              clear hK K hbn
              try simp only [Act.put, List.setIfInBounds_toArray, List.set_cons_zero, List.set_cons_succ]
              generalize wd.alloc _ = we at hHeld hnw hna ⊢
              generalize wd.heap.size = Ba at hna hla hne ⊢
              generalize we = wd at hHeld hnw hna ⊢
              refine wpAnyH_ready (rs := [1]) (by kernel_rfl) (by simp) ?_
              refine AllReadyH.cons (o := ⟨some 44, _, _, _, _, _⟩) rfl (fun K hK => ?n1_15D) AllReadyH.nil
              case n1_15D =>
                go_simp
                refine (HDC.out _).mono ?_
                rintro e wn ⟨rfl, hbn⟩
                replace hna := (hbn.block Ba (smem_lt hna)).trans hna
                replace hnw := (hbn.block B15 (smem_lt hnw)).trans hnw
                refine hK.out _ _ (hHeld.trans (hbn.mono hHeld.size)) (fun hHeld => ?_)
                clear hK K hbn
                try simp only [Act.put, List.setIfInBounds_toArray, List.set_cons_zero, List.set_cons_succ]
                generalize wn = wd at hHeld hna hnw ⊢
                refine wpAnyH_take (i := 2) (oi := ⟨some 45, _, _, _, _, _⟩) (v := .string (yK a)) rfl (by kernel_rfl) (by kernel_rfl) (by kernel_rfl) (fun _ _ _ h => h) (Or.inl ⟨by rfl, ?yn1_15d2⟩) hHeld ?rn1_15d2
                case yn1_15d2 =>
                  intro wx hSx
                  skip
                  go_simp
                  try with_reducible rfl
                try simp only [Act.put, List.setIfInBounds_toArray, List.set_cons_zero, List.set_cons_succ]
                refine wpAnyH_take (i := 11) (oi := ⟨some 54, _, _, _, _, _⟩) (v := ?vn1_15Db11) rfl (by kernel_rfl) (by kernel_rfl) (by kernel_rfl) (fun _ _ _ h => h) (Or.inl ⟨by rfl, ?yn1_15Db11⟩) hHeld ?rn1_15Db11
                case yn1_15Db11 =>
                  intro wx hSx
                  go_simp
                  try with_reducible rfl
                try simp only [Act.put, List.setIfInBounds_toArray, List.set_cons_zero, List.set_cons_succ]
                refine wpAnyH_ready (rs := [13]) (by kernel_rfl) (by simp) ?_
                refine AllReadyH.cons (o := ⟨none, _, _, _, _, _⟩) rfl (fun K hK => ?_) AllReadyH.nil
                have y0 : wd.cell? ⟨B15, 0, none⟩ = some (.string ⟨#[]⟩) := cell_at hnw 0
                have z0 : wd.frozen? ⟨B15, 0, none⟩ = false := free_at hnw 0
                have y1 : wd.cell? ⟨B15, 1, none⟩ = some (.string ⟨#[]⟩) := cell_at hnw 1
                have z1 : wd.frozen? ⟨B15, 1, none⟩ = false := free_at hnw 1
                have y2 : wd.cell? ⟨B15, 2, none⟩ = some (.slice none 0 0) := cell_at hnw 2
                have z2 : wd.frozen? ⟨B15, 2, none⟩ = false := free_at hnw 2
                have y3 : wd.cell? ⟨B15, 3, none⟩ = some (.string ⟨#[]⟩) := cell_at hnw 3
                have z3 : wd.frozen? ⟨B15, 3, none⟩ = false := free_at hnw 3
                have y4 : wd.cell? ⟨B15, 4, none⟩ = some (.string ⟨#[]⟩) := cell_at hnw 4
                have z4 : wd.frozen? ⟨B15, 4, none⟩ = false := free_at hnw 4
                have y5 : wd.cell? ⟨B15, 5, none⟩ = some (.int .i64 0) := cell_at hnw 5
                have z5 : wd.frozen? ⟨B15, 5, none⟩ = false := free_at hnw 5
                have HAN := y_stored hHeld hlo hnw hla hna hne (yK a) roomR user _ rfl
                simp only [World.setCells] at HAN
                go_simp
                generalize World.setCell _ _ _ = w9 at HAN ⊢
                refine hK.out _ _ HAN.1 (fun hHeld => ?_)
                clear hK K
                try simp only [Act.put, List.setIfInBounds_toArray, List.set_cons_zero, List.set_cons_succ]
                refine wpAnyH_done (by kernel_rfl) ?_ _
                go_wp2_with fail
                go_meet
                exact ⟨B15, Ba, rfl, Lib.hid HAN⟩
        case rest =>
          obtain ⟨B15, Ba, rfl, HY⟩ := hcut
          obtain ⟨w0, hw0⟩ : ∃ w0, w0 = wr := ⟨_, rfl⟩
          subst hw0
          have HKS := HK.out.turn.size
          have hlo15 := HY.out.2.1
          have HFR : Hid (∀ q ∈ ([(.slice (some ⟨bo, oo, none⟩) h.length c7, h), (.slice A3 us.length c3, us)] : List (Value × List ByteArray)), ∀ k, 0 < q.2.length → q.1.ownBlock = some k → k ≠ B15) := Lib.hid (fun q hq k h0 hk => by
            have := (HK.out.tx q hq).1.foot h0 hk
            omega)
          have HFB : Hid (∀ q ∈ ([(B11, .cells #[.string ⟨#[36, 122]⟩, .string roomR, .slice none 0 0, .string ⟨#[]⟩, .string user, .int .i64 1] 33 (0, 0)), (B4, .cells #[.string roomR, .slice Av xs.length cv] 26 (0, 0))] : List (Nat × Obj)), q.1 ≠ B15) := Lib.hid (fun q hq => by
            have := smem_lt (HK.out.box q hq).1
            omega)
          have HKYB := Lib.hid HY.out.1
          have HKY := Lib.hid (HK.out.new HY.out.1 HY.out.2.1 HY.out.2.2.1)
          have HMY := Lib.hid HY.out.2.2.2.1
          have hn15 := HY.out.2.2.2.2
          have hw15 : w2.heap.size ≤ B15 := by omega
          have hown : ∀ k, C.own w0 gd k → k < w0.heap.size := fun k hk => C.old HK.out.bd.code hk
          clear HY HXD
          by_cases h0 : a = 0
          · have q2 : decide ((0 : Int) < (a : Int)) = false := decide_eq_false (by omega)
            have q2' : decide (0 < a) = false := decide_eq_false (by omega)
            have HPL : Hid (yPar h a = [p]) := Lib.hid (by rw [← HPA.out, if_pos h0])
            have HKZ : Hid (KpS C w w2 wc gd (chain roomR user h (evs xs) a) [(B15, .cells #[.string (yK a), .string roomR, .slice (some ⟨Ba, 0, none⟩) 1 1, .string ⟨#[]⟩, .string user, .int .i64 0] 33 (0, 0)), (B11, .cells #[.string ⟨#[36, 122]⟩, .string roomR, .slice none 0 0, .string ⟨#[]⟩, .string user, .int .i64 1] 33 (0, 0)), (B4, .cells #[.string roomR, .slice Av xs.length cv] 26 (0, 0))] [] ((.slice (some ⟨Ba, 0, none⟩) (yPar h a).length 1, yPar h a) :: [(.slice (some ⟨bo, oo, none⟩) h.length c7, h), (.slice A3 us.length c3, us)])) := Lib.hid (by
              have hm := HMY.out
              have h1 := HKY.out.withTx hm.slice (fun k _ hk e => by
                have h2 := (HK.out.grow HKYB.out).2.2 k e
                have h3 := (hm.lt k hk).1
                omega)
              rw [HPL.out]
              exact h1)
            clear HKY HMY HPA h0 hown HFR HFB HK HKYB
            have HXA : Hid (EvV.at ⟨yEv roomR user h a, (some ⟨Ba, 0, none⟩), 1⟩ wc) := Lib.hid ⟨(HKZ.out.tx _ List.mem_cons_self).1, HYO.out⟩
            have HAC := Lib.hid (HAD.out _ _ _ _ _ _ ⟨HKZ.out, hax⟩ HXA.out)
            have HXY := Lib.hid (HKZ.out.box _ List.mem_cons_self).1
            unfold EvV.val EvV.pv at HAC
            simp only [yEv, HPL.out, List.length_cons, List.length_nil, Nat.zero_add] at HAC
            have v0 : wc.cell? ⟨B15, 0, none⟩ = some (.string (yK a)) := cell_at HXY.out 0
            have v1 : wc.cell? ⟨B15, 1, none⟩ = some (.string roomR) := cell_at HXY.out 1
            have v2 : wc.cell? ⟨B15, 2, none⟩ = some (.slice (some ⟨Ba, 0, none⟩) 1 1) := cell_at HXY.out 2
            have v3 : wc.cell? ⟨B15, 3, none⟩ = some (.string ⟨#[]⟩) := cell_at HXY.out 3
            have v4 : wc.cell? ⟨B15, 4, none⟩ = some (.string user) := cell_at HXY.out 4
            have v5 : wc.cell? ⟨B15, 5, none⟩ = some (.int .i64 0) := cell_at HXY.out 5
            go_wp2_with fail
            go_at_call 28
            refine HAC.out.mono ?_
            rintro e wa ⟨rfl, hka⟩
            have HKA := Lib.hid hka
            have u0 : wa.cell? ⟨B15, 0, none⟩ = some (.string (yK a)) := cell_at (hka.box _ List.mem_cons_self).1 0
            clear hka HXA HAC HXY v0 v1 v2 v3 v4 v5
            go_wp2_with fail
            refine ⟨⟨a + 1, by rw [lastK_succ], by go_num, by omega, Lib.hid (HKA.out.less (fun q hq => List.mem_cons_of_mem _ hq) (fun x hx => hx) (fun q hq => List.mem_cons_of_mem _ hq))⟩, ?_⟩
            simp [intOf]; omega
          · have q2 : decide ((0 : Int) < (a : Int)) = true := decide_eq_true (by omega)
            have q2' : decide (0 < a) = true := decide_eq_true (by omega)
            have HPL : Hid (putL (lastK a) (putL p []) = yPar h a) := Lib.hid (by rw [← HPA.out, if_neg h0]; unfold lastK; rw [if_neg h0])
            have HPU := Lib.hid (fun W => refPut_any (.slice none 0 0) [] p W (Lies.Slice.nil W) (by simp))
            have HPU2 : Hid (∀ W v, LT.Slice W v (putL p []) → Calls Tryz.prog 31 #[v, .string (lastK a)] W fun e w' => ∃ v', e = .returned v' ∧ LT.Mine w' W.heap.size v' (yPar h a) ∧ Below W.heap.size W w') := Lib.hid (fun W v hv => by
              have := refPut_any v (putL p []) (lastK a) W hv (Nat.le_trans (putL_len _ _) (by simp))
              rw [HPL.out] at this
              exact this)
            have y2 : wc.cell? ⟨B15, 2, none⟩ = some (.slice (some ⟨Ba, 0, none⟩) 1 1) := cell_at (HKY.out.box _ List.mem_cons_self).1 2
            have z2 : wc.frozen? ⟨B15, 2, none⟩ = false := free_at (HKY.out.box _ List.mem_cons_self).1 2
            have HKN := Lib.hid (HKY.out.set 2 (.slice none 0 0) hw2 hw15 HFB.out (fun x hx => by cases hx) HFR.out)
            simp only [List.setIfInBounds_toArray, List.set_cons_succ, List.set_cons_zero] at HKN
            clear HKY HMY HPA h0 hown HK HKYB
            go_upto_region 17 with (fail)
            clear y2 z2
            generalize wc.setCell _ _ = wd1 at HKN ⊢
            replace HKN := Lib.hid (HKN.out.later (Below.refl _ _).drew)
            have y2 : wd1.cell? ⟨B15, 2, none⟩ = some (.slice none 0 0) := cell_at (HKN.out.box _ List.mem_cons_self).1 2
            have e4 : wd1.cell? ⟨bo, oo + a, none⟩ = some (.string p) := text_cell (HKN.out.tx _ List.mem_cons_self).1 HX.out
            have hb15 := smem_lt (HKN.out.box _ List.mem_cons_self).1
            go_region_with ((go_at_call 31; refine (HPU.out _).mono ?_; rintro e wp ⟨v1, rfl, mp, bp⟩; obtain ⟨Ap, cp, rfl, -⟩ := id mp.shape; have HKP := Lib.hid ((HKN.out.later bp).withTx mp.slice (fun k _ hk e => by have h1 := (HKN.out.grow bp).2.2 k e; have h2 := (mp.lt k hk).1; omega)); have HFP : Hid (∀ k, (Value.slice Ap (putL p []).length cp).ownBlock = some k → k ≠ B15) := Lib.hid (fun k hk => by have h2 := (mp.lt k hk).1; omega); have x2 : wp.cell? ⟨B15, 2, none⟩ = some (.slice none 0 0) := cell_at (HKP.out.box _ List.mem_cons_self).1 2; have o2 : wp.frozen? ⟨B15, 2, none⟩ = false := free_at (HKP.out.box _ List.mem_cons_self).1 2; clear mp bp))
            all_goals
              have HKQ := Lib.hid (HKP.out.set 2 (.slice Ap (putL p []).length cp) hw2 hw15 HFB.out (fun x hx => by cases hx) (fun q hq => by
                rcases List.mem_cons.1 hq with rfl | hq
                · exact fun k _ hk => HFP.out k hk
                · exact HFR.out q hq))
              simp only [List.setIfInBounds_toArray, List.set_cons_succ, List.set_cons_zero] at HKQ
              clear x2 o2 y2 e4 HKP HKN
              generalize wp.setCell _ _ = wq at HKQ ⊢
              have hb16 := smem_lt (HKQ.out.box _ List.mem_cons_self).1
              have y2 : wq.cell? ⟨B15, 2, none⟩ = some (.slice Ap (putL p []).length cp) := cell_at (HKQ.out.box _ List.mem_cons_self).1 2
              go_wp2_with fail
              go_at_call 31
              refine (HPU2.out _ _ (HKQ.out.tx _ List.mem_cons_self).1).mono ?_
              rintro e ws ⟨v2, rfl, mq, bq⟩
              obtain ⟨Aq, cq, rfl, -⟩ := id mq.shape
              have HKR := Lib.hid ((HKQ.out.later bq).withTx mq.slice (fun k _ hk e => by have h1 := (HKQ.out.grow bq).2.2 k e; have h2 := (mq.lt k hk).1; omega))
              have HFQ : Hid (∀ k, (Value.slice Aq (yPar h a).length cq).ownBlock = some k → k ≠ B15) := Lib.hid (fun k hk => by have h2 := (mq.lt k hk).1; omega)
              have x2 : ws.cell? ⟨B15, 2, none⟩ = some (.slice Ap (putL p []).length cp) := cell_at (HKR.out.box _ List.mem_cons_self).1 2
              have o2 : ws.frozen? ⟨B15, 2, none⟩ = false := free_at (HKR.out.box _ List.mem_cons_self).1 2
              clear mq bq y2 HKQ
              go_upto_region 19 with (fail)
              have HKZ := Lib.hid (HKR.out.set 2 (.slice Aq (yPar h a).length cq) hw2 hw15 HFB.out (fun x hx => by cases hx) (fun q hq => by
                rcases List.mem_cons.1 hq with rfl | hq
                · exact fun k _ hk => HFQ.out k hk
                · rcases List.mem_cons.1 hq with rfl | hq
                  · exact fun k _ hk => HFP.out k hk
                  · exact HFR.out q hq))
              simp only [List.setIfInBounds_toArray, List.set_cons_succ, List.set_cons_zero] at HKZ
              clear x2 o2 HKR
              generalize ws.setCell _ _ = wz at HKZ ⊢
              have HXA : Hid (EvV.at ⟨yEv roomR user h a, Aq, cq⟩ wz) := Lib.hid ⟨(HKZ.out.tx _ List.mem_cons_self).1, HYO.out⟩
              have HAC := Lib.hid (HAD.out _ _ _ _ _ _ ⟨HKZ.out, hax⟩ HXA.out)
              have HXY := Lib.hid (HKZ.out.box _ List.mem_cons_self).1
              unfold EvV.val EvV.pv at HAC
              simp only [yEv] at HAC
              have v0 : wz.cell? ⟨B15, 0, none⟩ = some (.string (yK a)) := cell_at HXY.out 0
              have v1 : wz.cell? ⟨B15, 1, none⟩ = some (.string roomR) := cell_at HXY.out 1
              have v2 : wz.cell? ⟨B15, 2, none⟩ = some (.slice Aq (yPar h a).length cq) := cell_at HXY.out 2
              have v3 : wz.cell? ⟨B15, 3, none⟩ = some (.string ⟨#[]⟩) := cell_at HXY.out 3
              have v4 : wz.cell? ⟨B15, 4, none⟩ = some (.string user) := cell_at HXY.out 4
              have v5 : wz.cell? ⟨B15, 5, none⟩ = some (.int .i64 0) := cell_at HXY.out 5
              go_wp2_with fail
              go_at_call 28
              refine HAC.out.mono ?_
              rintro e wa ⟨rfl, hka⟩
              have HKA := Lib.hid hka
              have u0 : wa.cell? ⟨B15, 0, none⟩ = some (.string (yK a)) := cell_at (hka.box _ List.mem_cons_self).1 0
              clear hka HXA HAC HXY v0 v1 v2 v3 v4 v5
              go_wp2_with fail
              refine ⟨⟨a + 1, by rw [lastK_succ], by go_num, by omega, Lib.hid (HKA.out.less (fun q hq => List.mem_cons_of_mem _ hq) (fun x hx => hx) (fun q hq => List.mem_cons_of_mem _ (List.mem_cons_of_mem _ hq)))⟩, ?_⟩
              simp [intOf]; omega
      · have q1 : decide ((a : Int) < (h.length : Int)) = false := decide_eq_false (by omega)
        obtain rfl : a = h.length := by omega
        have HAZ : Hid (∀ W bs ts A c, KpS C w w2 W gd (chain roomR user h (evs xs) h.length) bs [] ts → EvV.at ⟨zEv roomR user h 1, A, c⟩ W → Calls Tryz.prog 28 #[.pointer (some ⟨gd, 0, none⟩), (⟨zEv roomR user h 1, A, c⟩ : EvV).val] W fun e w' => e = .returned (.int .i64 0) ∧ KpS C w w2 w' gd (endL roomR user h (evs xs) 1) bs [] ts) := Lib.hid (fun W bs ts A c hk hx => by
          refine (C.add _ hk.bd.code (by rw [chain_len, evs_len]; omega) hx).mono ?_
          have h0 : errA roomR (chain roomR user h (evs xs) h.length) (zEv roomR user h 1) = 0 := HCO.out.zerr (by omega) (by omega)
          rintro e w' ⟨rfl, hc, ht⟩
          refine ⟨by rw [h0], hk.step ?_ ht⟩
          have h1 : addA roomR (chain roomR user h (evs xs) h.length) (zEv roomR user h 1) = endL roomR user h (evs xs) 1 := by unfold addA; rw [if_pos h0]; rfl
          rw [← h1]
          exact hc)
        clear HAD
        by_cases hz : h.length = 0
        · have hlk : lastK h.length = ⟨#[]⟩ := by unfold lastK; rw [if_pos hz]
          have HZP : Hid (zPar h = []) := Lib.hid (by unfold zPar; rw [if_pos hz])
          rw [hlk]
          clear hlk hz
          have HXA : Hid (EvV.at ⟨zEv roomR user h 1, none, 0⟩ wr) := Lib.hid ⟨(by show LT.Slice wr (.slice none (zPar h).length 0) (zPar h); rw [HZP.out]; exact Lies.Slice.nil _), z_ok HCO.out hus (by omega) (by omega)⟩
          have HAC := Lib.hid (HAZ.out _ _ _ _ _ HK.out HXA.out)
          have HXY := Lib.hid (HK.out.box _ List.mem_cons_self).1
          unfold EvV.val EvV.pv at HAC
          simp only [zEv, HZP.out, List.length_cons, List.length_nil, Nat.zero_add] at HAC
          unfold zK at HAC
          have v0 : wr.cell? ⟨B11, 0, none⟩ = some (.string ⟨#[36, 122]⟩) := cell_at HXY.out 0
          have v1 : wr.cell? ⟨B11, 1, none⟩ = some (.string roomR) := cell_at HXY.out 1
          have v2 : wr.cell? ⟨B11, 2, none⟩ = some (.slice none 0 0) := cell_at HXY.out 2
          have v3 : wr.cell? ⟨B11, 3, none⟩ = some (.string ⟨#[]⟩) := cell_at HXY.out 3
          have v4 : wr.cell? ⟨B11, 4, none⟩ = some (.string user) := cell_at HXY.out 4
          have v5 : wr.cell? ⟨B11, 5, none⟩ = some (.int .i64 1) := cell_at HXY.out 5
          go_wp2_with fail
          go_at_call 28
          refine HAC.out.mono ?_
          rintro e wa ⟨rfl, hka⟩
          have HKE := Lib.hid (hka.less (bs' := []) (es' := []) (ts' := [(.slice A3 us.length c3, us)]) (fun q hq => (List.not_mem_nil hq).elim) (fun x hx => hx) (fun q hq => by rw [List.mem_singleton.1 hq]; exact (List.mem_cons_of_mem _ List.mem_cons_self)))
          clear hka HXA HAC HXY v0 v1 v2 v3 v4 v5
          have HJN : Hid (joinL (endL roomR user h (evs xs) 1) user = true) := Lib.hid (by rw [end_join HHH.out HCO.out (by omega) (by omega)]; rfl)
          have HUL : Hid (usersL (endL roomR user h (evs xs) 1) = wantL user us 1) := Lib.hid (by rw [end_users HHH.out HCO.out (by omega) (by omega), HUE.out])
          have hll : (endL roomR user h (evs xs) 1).length ≤ 100 := by unfold endL; rw [List.length_append, chain_len, evs_len]; simp only [List.length_cons, List.length_nil]; omega
          generalize endL roomR user h (evs xs) 1 = l at HKE HJN HUL hll
          have hc3' : c3 ≤ 9223372036854775807 := by
            obtain ⟨_, _, he3, hc3, hm3, -⟩ := id (HKE.out.tx _ List.mem_cons_self).1
            injection he3 with _ _ he3
            unfold maxLen at hm3
            omega
          go_wp2_with fail
          go_loopw [16, 17] (fun q i wr => ∃ (c : Nat) (ts : List ByteArray) (Ao : Option Addr) (co : Nat), q = .slice Ao ts.length co ∧ i = .int .i64 (c : Int) ∧ c ≤ us.length ∧ ts.length ≤ c ∧ Hid (HdS wa wr q ts) ∧ Hid (ts = (us.take c).filter (fun x => !decide (x = user)))) (fun _ i _ => us.length - (intOf i).toNat)
          case atStart => exact ⟨0, [], none, 0, rfl, rfl, Nat.zero_le _, Nat.le_refl _, Lib.hid ⟨Below.refl _ _, .inl ⟨rfl, rfl⟩⟩, Lib.hid rfl⟩
          case round =>
            obtain ⟨wm, hwm⟩ : ∃ wm, wm = wr := ⟨_, rfl⟩
            subst hwm
            obtain ⟨c, ts, Ao, co, rfl, rfl, hc, htc, HO, HT⟩ := hrel
            by_cases hcu : c < us.length
            · have q3 : decide ((c : Int) < (us.length : Int)) = true := decide_eq_true (by omega)
              have hx : us[c]? = some us[c] := List.getElem?_eq_getElem hcu
              generalize us[c] = x at hx
              have HTK : Hid (us.take (c + 1) = us.take c ++ [x]) := Lib.hid (by rw [List.take_add_one, hx]; rfl)
              obtain ⟨b3, o3, rfl, hb3, hc3c⟩ := text_at (HKE.out.tx _ List.mem_cons_self).1 hx
              have hiy := index_any (P := Tryz.prog) knT (by decide) (b := b3) (off := o3) (cap := c3) hcu
              simp only [LT] at hiy
              rw [Nat.mul_one] at hiy
              have e4 : wm.cell? ⟨b3, o3 + c, none⟩ = some (.string x) := (HO.out.below.cell (p := ⟨b3, o3 + c, none⟩) hb3).trans hc3c
              clear hx hc3c
              by_cases hxu : x = user
              · have s1 : (x.toList == user.toList) = true := by rw [hxu]; exact beq_self_eq_true _
                have s2 : (x.toList != user.toList) = false := by rw [hxu]; exact bne_self_eq_false _
                have HT2 : Hid (ts = (us.take (c + 1)).filter (fun x => !decide (x = user))) := Lib.hid (by rw [HTK.out, List.filter_append, HT.out]; simp [hxu])
                clear hxu
                go_wp2_with fail
                refine ⟨⟨c + 1, ts, Ao, co, rfl, by go_num, by omega, by omega, HO, HT2⟩, ?_⟩
                simp [intOf]; omega
              · have hne : x.toList ≠ user.toList := fun e => hxu (toList_inj9 e)
                have s1 : (x.toList == user.toList) = false := by rw [beq_eq_false_iff_ne]; exact hne
                have s2 : (x.toList != user.toList) = true := by rw [bne_iff_ne]; exact hne
                have HT2 : Hid (ts ++ [x] = (us.take (c + 1)).filter (fun x => !decide (x = user))) := Lib.hid (by rw [HTK.out, List.filter_append, HT.out]; simp [hxu])
                clear hxu hne
                have hlit1 := Lib.hid (lit_text wm x)
                have hb1 := below_new wm (.cells #[.string x] 9)
                have HA1 := Lib.hid (HO.out.on hb1)
                have hs1 : wa.heap.size ≤ (wm.alloc (.cells #[.string x] 9)).heap.size := HA1.out.below.size
                clear hb1
                go_wp2_with (at_builtin; refine wpList_puts rfl knT (.tmp 98) (.tmp 103) 31 rfl (v := .slice Ao ts.length co) rfl HA1.out.row hs1 (.slice (some ⟨wm.heap.size, 0, none⟩) 1 1) [x] 1 rfl rfl (hlit1.out.srcN knT rfl) (by omega) ?_; intro A1 c1 w1 m1 g1 o1; have H1 : Hid (HdS wa w1 (.slice A1 (ts.length + 1) c1) (ts ++ [x])) := Lib.hid ⟨HA1.out.below.grown g1 hs1 (fun k hk => (HA1.out.row.lt k hk).1), m1⟩; clear m1 g1 o1)
                refine ⟨⟨c + 1, ts ++ [x], A1, c1, by rw [List.length_append]; rfl, by go_num, by omega, by rw [List.length_append]; simp only [List.length_cons, List.length_nil]; omega, H1, HT2⟩, ?_⟩
                simp [intOf]; omega
            · have q3 : decide ((c : Int) < (us.length : Int)) = false := decide_eq_false (by omega)
              have HTW : Hid (usersL l = putL user ts) := Lib.hid (by
                have h1 : ts = us.filter (fun x => !decide (x = user)) := by rw [HT.out, List.take_of_length_le (by omega)]
                rw [HUL.out, h1]
                rfl)
              clear HT
              have HPT := Lib.hid (refPut_any _ ts user wm HO.out.row.slice (by omega))
              go_wp2_with fail
              go_at_call 31
              refine HPT.out.mono ?_
              rintro e wp ⟨vp, rfl, mp, bp⟩
              obtain ⟨Ap, cp, rfl, -⟩ := id mp.shape
              have HO2 := Lib.hid (mp.mono HO.out.below.size)
              have HB2 := Lib.hid (HO.out.below.trans (bp.mono HO.out.below.size))
              clear mp bp HPT HO
              have HKW : Hid (KpS C w w2 wp gd l [] [] [(.slice Ap (putL user ts).length cp, putL user ts)]) := Lib.hid (((HKE.out.later HB2.out).less (bs' := []) (es' := []) (ts' := []) (fun q hq => (List.not_mem_nil hq).elim) (fun x hx => hx) (fun q hq => (List.not_mem_nil hq).elim)).withTx HO2.out.slice (fun k _ hk e => by
                have h1 := (HKE.out.grow HB2.out).2.2 k e
                have h2 := (HO2.out.lt k hk).1
                omega))
              have HQ := Lib.hid (memJoined_any C CA user HKW.out.bd.code hll hus)
              rw [HJN.out] at HQ
              go_wp2_with fail
              go_at_call 13
              refine HQ.out.mono ?_
              rintro e wb ⟨rfl, hcb, htb⟩
              have HKX := Lib.hid (HKW.out.step hcb htb)
              clear hcb htb HQ
              have HQ := Lib.hid (memUsers_any C CA HKX.out.bd.code hll)
              rw [HTW.out] at HQ
              go_wp2_with fail
              go_at_call 17
              refine HQ.out.mono ?_
              rintro e wc2 ⟨vu, rfl, mu, tu, hcu2, htu⟩
              obtain ⟨Au, cu, rfl, -⟩ := id mu.shape
              have HKY := Lib.hid ((HKX.out.step hcu2 htu).withTx mu.slice (fun k _ hk => tu k hk))
              clear hcu2 htu HQ mu tu
              have HQ := Lib.hid (sameTexts_any _ _ _ _ wc2 (HKY.out.tx _ List.mem_cons_self).1 (HKY.out.tx _ (List.mem_cons_of_mem _ List.mem_cons_self)).1)
              simp only [decide_true] at HQ
              go_wp2_with fail
              go_at_call 16
              refine HQ.out.mono ?_
              rintro e wd2 ⟨rfl, dd, rfl⟩
              have HKV : Hid (KpS C w w2 (wc2.drewN dd) gd l [] [] []) := Lib.hid ((HKY.out.later (⟨rfl, rfl, rfl, Nat.le_refl _, fun _ _ => rfl⟩ : Below wc2.heap.size wc2 (wc2.drewN dd))).less (fun q hq => hq) (fun x hx => hx) (fun q hq => (List.not_mem_nil hq).elim))
              clear HQ
              have HQ := Lib.hid (lives9_any C CA (wc2.drewN dd))
              go_wp2_with fail
              go_at_call 19
              refine HQ.out.mono ?_
              rintro e we ⟨rfl, be⟩
              have HB9 := Lib.hid (HKV.out.later be).bd.below
              go_wp2_with fail
              go_ret
              exact ⟨rfl, HB9.out⟩
        · have hlk : lastK h.length = yK (h.length - 1) := by unfold lastK; rw [if_neg hz]
          have HZP : Hid (zPar h = [yK (h.length - 1)]) := Lib.hid (by unfold zPar; rw [if_neg hz])
          have hyf := yK_full ⟨h.length - 1, by omega⟩
          simp only at hyf
          rw [hlk]
          clear hlk hz
          generalize yK (h.length - 1) = yl at HZP hyf ⊢
          have hyt : yl.toList ≠ [] := fun e => hyf (toList_inj9 (by rw [e, ByteArray.toList_eq]))
          have s1 : yl.toList.isEmpty = false := by cases hl : yl.toList with | nil => exact absurd hl hyt | cons _ _ => rfl
          have s2 : (yl.toList == []) = false := by rw [beq_eq_false_iff_ne]; exact hyt
          have s3 : (yl.toList != []) = true := by rw [bne_iff_ne]; exact hyt
          have HBX := Lib.hid (HK.out.box _ List.mem_cons_self).1
          have hb11 := smem_lt HBX.out
          have HKM := Lib.hid ((HK.out.later (below_new wr (.cells #[.string yl] 9))).withTx (lit_text wr yl) (fun k _ hk e => by
            have h1 := (HK.out.grow (below_new wr (.cells #[.string yl] 9))).2.2 k e
            have h2 : wr.heap.size = k := by simpa [Value.ownBlock] using hk
            omega))
          have y2 : (wr.alloc (.cells #[.string yl] 9)).cell? ⟨B11, 2, none⟩ = some (.slice none 0 0) := cell_at (HKM.out.box _ List.mem_cons_self).1 2
          have z2 : (wr.alloc (.cells #[.string yl] 9)).frozen? ⟨B11, 2, none⟩ = false := free_at (HKM.out.box _ List.mem_cons_self).1 2
          have HKS := Lib.hid (HKM.out.set 2 (.slice (some ⟨wr.heap.size, 0, none⟩) 1 1) hw2 HB11 (fun q hq => by rw [List.mem_singleton.1 hq]; exact HN4) (fun x hx => by cases hx) (fun q hq => by
            rcases List.mem_cons.1 hq with rfl | hq
            · intro k _ hk
              have h2 : wr.heap.size = k := by simpa [Value.ownBlock] using hk
              omega
            · rcases List.mem_cons.1 hq with rfl | hq
              · exact HF7.out
              · rw [List.mem_singleton.1 hq]; exact HF3.out))
          simp only [List.setIfInBounds_toArray, List.set_cons_succ, List.set_cons_zero] at HKS
          clear HKM HK HBX hb11 hyf hyt
          go_upto_region 24 with (fail)
          clear y2 z2 s1 s2 s3
          generalize World.setCell _ _ _ = wq at HKS ⊢
          generalize wr.heap.size = Bl at HKS ⊢
          have HXA : Hid (EvV.at ⟨zEv roomR user h 1, (some ⟨Bl, 0, none⟩), 1⟩ wq) := Lib.hid ⟨(by show LT.Slice wq (.slice (some ⟨Bl, 0, none⟩) (zPar h).length 1) (zPar h); rw [HZP.out]; exact (HKS.out.tx _ List.mem_cons_self).1), z_ok HCO.out hus (by omega) (by omega)⟩
          have HAC := Lib.hid (HAZ.out _ _ _ _ _ HKS.out HXA.out)
          have HXY := Lib.hid (HKS.out.box _ List.mem_cons_self).1
          unfold EvV.val EvV.pv at HAC
          simp only [zEv, HZP.out, List.length_cons, List.length_nil, Nat.zero_add] at HAC
          unfold zK at HAC
          have v0 : wq.cell? ⟨B11, 0, none⟩ = some (.string ⟨#[36, 122]⟩) := cell_at HXY.out 0
          have v1 : wq.cell? ⟨B11, 1, none⟩ = some (.string roomR) := cell_at HXY.out 1
          have v2 : wq.cell? ⟨B11, 2, none⟩ = some (.slice (some ⟨Bl, 0, none⟩) 1 1) := cell_at HXY.out 2
          have v3 : wq.cell? ⟨B11, 3, none⟩ = some (.string ⟨#[]⟩) := cell_at HXY.out 3
          have v4 : wq.cell? ⟨B11, 4, none⟩ = some (.string user) := cell_at HXY.out 4
          have v5 : wq.cell? ⟨B11, 5, none⟩ = some (.int .i64 1) := cell_at HXY.out 5
          go_wp2_with fail
          go_at_call 28
          refine HAC.out.mono ?_
          rintro e wa ⟨rfl, hka⟩
          have HKE := Lib.hid (hka.less (bs' := []) (es' := []) (ts' := [(.slice A3 us.length c3, us)]) (fun q hq => (List.not_mem_nil hq).elim) (fun x hx => hx) (fun q hq => by rw [List.mem_singleton.1 hq]; exact (List.mem_cons_of_mem _ (List.mem_cons_of_mem _ List.mem_cons_self))))
          clear hka HXA HAC HXY v0 v1 v2 v3 v4 v5
          have HJN : Hid (joinL (endL roomR user h (evs xs) 1) user = true) := Lib.hid (by rw [end_join HHH.out HCO.out (by omega) (by omega)]; rfl)
          have HUL : Hid (usersL (endL roomR user h (evs xs) 1) = wantL user us 1) := Lib.hid (by rw [end_users HHH.out HCO.out (by omega) (by omega), HUE.out])
          have hll : (endL roomR user h (evs xs) 1).length ≤ 100 := by unfold endL; rw [List.length_append, chain_len, evs_len]; simp only [List.length_cons, List.length_nil]; omega
          generalize endL roomR user h (evs xs) 1 = l at HKE HJN HUL hll
          have hc3' : c3 ≤ 9223372036854775807 := by
            obtain ⟨_, _, he3, hc3, hm3, -⟩ := id (HKE.out.tx _ List.mem_cons_self).1
            injection he3 with _ _ he3
            unfold maxLen at hm3
            omega
          go_wp2_with fail
          go_loopw [16, 17] (fun q i wr => ∃ (c : Nat) (ts : List ByteArray) (Ao : Option Addr) (co : Nat), q = .slice Ao ts.length co ∧ i = .int .i64 (c : Int) ∧ c ≤ us.length ∧ ts.length ≤ c ∧ Hid (HdS wa wr q ts) ∧ Hid (ts = (us.take c).filter (fun x => !decide (x = user)))) (fun _ i _ => us.length - (intOf i).toNat)
          case atStart => exact ⟨0, [], none, 0, rfl, rfl, Nat.zero_le _, Nat.le_refl _, Lib.hid ⟨Below.refl _ _, .inl ⟨rfl, rfl⟩⟩, Lib.hid rfl⟩
          case round =>
            obtain ⟨wm, hwm⟩ : ∃ wm, wm = wr := ⟨_, rfl⟩
            subst hwm
            obtain ⟨c, ts, Ao, co, rfl, rfl, hc, htc, HO, HT⟩ := hrel
            by_cases hcu : c < us.length
            · have q3 : decide ((c : Int) < (us.length : Int)) = true := decide_eq_true (by omega)
              have hx : us[c]? = some us[c] := List.getElem?_eq_getElem hcu
              generalize us[c] = x at hx
              have HTK : Hid (us.take (c + 1) = us.take c ++ [x]) := Lib.hid (by rw [List.take_add_one, hx]; rfl)
              obtain ⟨b3, o3, rfl, hb3, hc3c⟩ := text_at (HKE.out.tx _ List.mem_cons_self).1 hx
              have hiy := index_any (P := Tryz.prog) knT (by decide) (b := b3) (off := o3) (cap := c3) hcu
              simp only [LT] at hiy
              rw [Nat.mul_one] at hiy
              have e4 : wm.cell? ⟨b3, o3 + c, none⟩ = some (.string x) := (HO.out.below.cell (p := ⟨b3, o3 + c, none⟩) hb3).trans hc3c
              clear hx hc3c
              by_cases hxu : x = user
              · have s1 : (x.toList == user.toList) = true := by rw [hxu]; exact beq_self_eq_true _
                have s2 : (x.toList != user.toList) = false := by rw [hxu]; exact bne_self_eq_false _
                have HT2 : Hid (ts = (us.take (c + 1)).filter (fun x => !decide (x = user))) := Lib.hid (by rw [HTK.out, List.filter_append, HT.out]; simp [hxu])
                clear hxu
                go_wp2_with fail
                refine ⟨⟨c + 1, ts, Ao, co, rfl, by go_num, by omega, by omega, HO, HT2⟩, ?_⟩
                simp [intOf]; omega
              · have hne : x.toList ≠ user.toList := fun e => hxu (toList_inj9 e)
                have s1 : (x.toList == user.toList) = false := by rw [beq_eq_false_iff_ne]; exact hne
                have s2 : (x.toList != user.toList) = true := by rw [bne_iff_ne]; exact hne
                have HT2 : Hid (ts ++ [x] = (us.take (c + 1)).filter (fun x => !decide (x = user))) := Lib.hid (by rw [HTK.out, List.filter_append, HT.out]; simp [hxu])
                clear hxu hne
                have hlit1 := Lib.hid (lit_text wm x)
                have hb1 := below_new wm (.cells #[.string x] 9)
                have HA1 := Lib.hid (HO.out.on hb1)
                have hs1 : wa.heap.size ≤ (wm.alloc (.cells #[.string x] 9)).heap.size := HA1.out.below.size
                clear hb1
                go_wp2_with (at_builtin; refine wpList_puts rfl knT (.tmp 98) (.tmp 103) 31 rfl (v := .slice Ao ts.length co) rfl HA1.out.row hs1 (.slice (some ⟨wm.heap.size, 0, none⟩) 1 1) [x] 1 rfl rfl (hlit1.out.srcN knT rfl) (by omega) ?_; intro A1 c1 w1 m1 g1 o1; have H1 : Hid (HdS wa w1 (.slice A1 (ts.length + 1) c1) (ts ++ [x])) := Lib.hid ⟨HA1.out.below.grown g1 hs1 (fun k hk => (HA1.out.row.lt k hk).1), m1⟩; clear m1 g1 o1)
                refine ⟨⟨c + 1, ts ++ [x], A1, c1, by rw [List.length_append]; rfl, by go_num, by omega, by rw [List.length_append]; simp only [List.length_cons, List.length_nil]; omega, H1, HT2⟩, ?_⟩
                simp [intOf]; omega
            · have q3 : decide ((c : Int) < (us.length : Int)) = false := decide_eq_false (by omega)
              have HTW : Hid (usersL l = putL user ts) := Lib.hid (by
                have h1 : ts = us.filter (fun x => !decide (x = user)) := by rw [HT.out, List.take_of_length_le (by omega)]
                rw [HUL.out, h1]
                rfl)
              clear HT
              have HPT := Lib.hid (refPut_any _ ts user wm HO.out.row.slice (by omega))
              go_wp2_with fail
              go_at_call 31
              refine HPT.out.mono ?_
              rintro e wp ⟨vp, rfl, mp, bp⟩
              obtain ⟨Ap, cp, rfl, -⟩ := id mp.shape
              have HO2 := Lib.hid (mp.mono HO.out.below.size)
              have HB2 := Lib.hid (HO.out.below.trans (bp.mono HO.out.below.size))
              clear mp bp HPT HO
              have HKW : Hid (KpS C w w2 wp gd l [] [] [(.slice Ap (putL user ts).length cp, putL user ts)]) := Lib.hid (((HKE.out.later HB2.out).less (bs' := []) (es' := []) (ts' := []) (fun q hq => (List.not_mem_nil hq).elim) (fun x hx => hx) (fun q hq => (List.not_mem_nil hq).elim)).withTx HO2.out.slice (fun k _ hk e => by
                have h1 := (HKE.out.grow HB2.out).2.2 k e
                have h2 := (HO2.out.lt k hk).1
                omega))
              have HQ := Lib.hid (memJoined_any C CA user HKW.out.bd.code hll hus)
              rw [HJN.out] at HQ
              go_wp2_with fail
              go_at_call 13
              refine HQ.out.mono ?_
              rintro e wb ⟨rfl, hcb, htb⟩
              have HKX := Lib.hid (HKW.out.step hcb htb)
              clear hcb htb HQ
              have HQ := Lib.hid (memUsers_any C CA HKX.out.bd.code hll)
              rw [HTW.out] at HQ
              go_wp2_with fail
              go_at_call 17
              refine HQ.out.mono ?_
              rintro e wc2 ⟨vu, rfl, mu, tu, hcu2, htu⟩
              obtain ⟨Au, cu, rfl, -⟩ := id mu.shape
              have HKY := Lib.hid ((HKX.out.step hcu2 htu).withTx mu.slice (fun k _ hk => tu k hk))
              clear hcu2 htu HQ mu tu
              have HQ := Lib.hid (sameTexts_any _ _ _ _ wc2 (HKY.out.tx _ List.mem_cons_self).1 (HKY.out.tx _ (List.mem_cons_of_mem _ List.mem_cons_self)).1)
              simp only [decide_true] at HQ
              go_wp2_with fail
              go_at_call 16
              refine HQ.out.mono ?_
              rintro e wd2 ⟨rfl, dd, rfl⟩
              have HKV : Hid (KpS C w w2 (wc2.drewN dd) gd l [] [] []) := Lib.hid ((HKY.out.later (⟨rfl, rfl, rfl, Nat.le_refl _, fun _ _ => rfl⟩ : Below wc2.heap.size wc2 (wc2.drewN dd))).less (fun q hq => hq) (fun x hx => hx) (fun q hq => (List.not_mem_nil hq).elim))
              clear HQ
              have HQ := Lib.hid (lives9_any C CA (wc2.drewN dd))
              go_wp2_with fail
              go_at_call 19
              refine HQ.out.mono ?_
              rintro e we ⟨rfl, be⟩
              have HB9 := Lib.hid (HKV.out.later be).bd.below
              go_wp2_with fail
              go_ret
              exact ⟨rfl, HB9.out⟩
end Go.Proofs.YtfbfdkibdjinaaaGreat
