/-
  A made dag, the example, what a statement of stage 9 keeps.
-/
import Derived.Test.YtfbfdkibdjinaaaGreatM9B
import Derived.Test.YtfbfdkibdjinaaaGreatDgF
import Derived.Test.YtfbfdkibdjinaaaGreatDagMade
import Derived.Deep.CutBlock
import Derived.Test.YtfbfdkibdjinaaaGreatDagSame
namespace Go.Proofs.YtfbfdkibdjinaaaGreat
set_option maxRecDepth 20000
open Go.RowKit
set_option linter.unusedVariables false
set_option linter.unusedSimpArgs false

def roomR : ByteArray := ⟨#[33, 114, 58, 115, 49]⟩
theorem roomR_room : namedB 33 roomR = true := by decide +kernel
theorem roomR_size : roomR.size ≤ maxLen := by decide
theorem add_take8 {room : ByteArray} {l : List Ev} {a : Nat} {e : Ev} (hv : Valid room l) (he : l[a]? = some e) : errA room (l.take a) e = 0 ∧ addA room (l.take a) e = l.take (a + 1) := by
  have h := hv a e he
  refine ⟨h, ?_⟩
  unfold addA
  rw [if_pos h, List.take_add_one, he]
  rfl
/-- While a dag is built: all of it is new since w. -/
structure BdS (C : Dags) (w wr : World) (g : Nat) (room : ByteArray) (l : List Ev) : Prop where
  code : C.CD wr g room l
  below : Below w.heap.size w wr
  fresh : ∀ k, C.own wr g k → w.heap.size ≤ k
theorem BdS.turn {C : Dags} {w wr w2 : World} {g : Nat} {room : ByteArray} {l l' : List Ev} (h : BdS C w wr g room l) (hc : C.CD w2 g room l') (ht : TurnD C.own wr w2 g) : BdS C w w2 g room l' :=
  ⟨hc, h.below.trans (ht.below h.fresh h.below.size), fun k hk => by
    rcases ht.owns k hk with hh | hh
    · exact h.fresh k hh
    · exact Nat.le_trans h.below.size hh⟩
theorem BdS.later {C : Dags} {w wr w2 : World} {g : Nat} {room : ByteArray} {l : List Ev} (h : BdS C w wr g room l) (hb : Below wr.heap.size wr w2) : BdS C w w2 g room l := by
  obtain ⟨hc, ho⟩ := C.keep h.code hb.size (fun k hk => hb.block k (C.old h.code hk))
  exact ⟨hc, h.below.trans (hb.mono h.below.size), fun k hk => h.fresh k (ho k hk)⟩
/-- The list does not lie in the box. -/
theorem evs_apart8 {wr : World} {B : Nat} {v : Value} {xs : List EvV} {r0 v0 : Value} {tt : TypeId} {ff : Nat × Nat} (h : EvsS wr v xs) (hb : wr.heap[B]? = some (.cells #[r0, v0] tt ff)) (far : ∀ z ∈ xs, ∀ k, footV z k → k ≠ B) {k : Nat} (hk : footE v xs k) : k ≠ B := by
  rcases hk with ⟨h0, hk⟩ | ⟨z, hz, hk⟩
  · rintro rfl
    obtain ⟨A, cap, rfl, -, -, -, h4⟩ := h.1
    obtain ⟨b, off, rfl, hl, hr⟩ := h4 h0
    have h5 : b = k := by simpa [Value.ownBlock] using hk
    subst h5
    cases xs with
    | nil => simp at h0
    | cons x t =>
      have h6 := hr 5 (.int .i64 x.ev.does) rfl
      rw [World.cell?, hb] at h6
      simp at h6
  · exact far z hz k hk
/-- What build tells: a dag of the code, the document's list beside it. -/
structure Bt (C : Dags) (w w' : World) (g : Nat) (v : Value) (xs : List EvV) : Prop where
  bd : BdS C w w' g roomR (evs xs)
  evs : EvsS w' v xs
  off : ∀ k, footE v xs k → ¬ C.own w' g k
  len : xs.length ≤ 9
  ids : ∀ e ∈ xs.map EvV.ev, ∃ k : Fin 9, e.id = eventK k.val

set_option maxHeartbeats 1600000 in
theorem build9_any (C : Dags) (v : Value) (gs : List GV) (w : World) (h : GsS w v gs) :
    Calls Tryz.prog 8 #[v] w fun e w' => ∃ g v' xs, e = .returned (.tuple #[.pointer (some ⟨g, 0, none⟩), .agg #[.string roomR, v']]) ∧ Bt C w w' g v' xs := by
  have HB0 := Lib.hid (below_new w (.cells #[.string ⟨#[]⟩, .slice none 0 0] 26))
  have HX0 := Lib.hid (heap_alloc_new w (.cells #[.string ⟨#[]⟩, .slice none 0 0] 26))
  have hsz0 : (w.alloc (.cells #[.string ⟨#[]⟩, .slice none 0 0] 26)).heap.size = w.heap.size + 1 := by simp
  have HMA := Lib.hid (fun W (hb : Below w.heap.size w W) => refMade_any roomR v gs W (h.below hb) roomR_room)
  have HVA := Lib.hid (madeTo_row roomR_room (gps gs) (min gs.length 9) (by omega) (by rw [List.length_map]; omega))
  obtain ⟨A0, c0, rfl, -⟩ := id h.1
  clear h
  unfold roomR at HMA
  go_enter Tryz.func8, Tryz.ntmps8
  go_upto_region 1 with (fail)
  generalize w.alloc _ = w0 at HB0 HX0 hsz0 ⊢
  generalize hB3 : w.heap.size = B3 at HX0 hsz0 ⊢
  go_wp2_with fail
  go_at_call 32
  refine (HMA.out _ HB0.out).mono ?_
  rintro e w1 ⟨v', xs, rfl, hes, hev, b1, hfp⟩
  have hxl : xs.length ≤ 9 := by
    rw [← evs_len, hev]
    have := HVA.out.2
    unfold roomR at this
    rw [this]; omega
  have HVL : Hid (Valid roomR (evs xs)) := Lib.hid (by rw [hev]; exact HVA.out.1.valid)
  have HID : Hid (∀ e ∈ evs xs, ∃ k : Fin 9, e.id = eventK k.val) := Lib.hid (by
    rw [hev]
    intro e he
    obtain ⟨j, hj⟩ := List.getElem?_of_mem he
    have h1 := HVA.out.1.le
    have h2 := (List.getElem?_eq_some_iff.1 hj).1
    exact ⟨⟨j, by unfold roomR at h1; omega⟩, HVA.out.1.ids j e hj⟩)
  obtain ⟨Av, cv, hv, -, hv2, -⟩ := id hes.1
  have hv3 : cv ≤ 9223372036854775807 := by unfold maxLen at hv2; omega
  subst hv
  have HE1 := Lib.hid hes
  have HFP : Hid (∀ z ∈ xs, ∀ k, footV z k → k ≠ B3) := Lib.hid (fun z hz k hk => by have := (hfp z hz k hk.2).1; omega)
  have HB1 := Lib.hid b1
  have HX1 := Lib.hid ((b1.block B3 (smem_lt HX0.out)).trans HX0.out)
  have HB2 := Lib.hid (below_new w1 (.cells #[.string roomR, .slice Av xs.length cv] 26))
  have HW2 := Lib.hid (heap_alloc_new w1 (.cells #[.string roomR, .slice Av xs.length cv] 26))
  clear HMA hes hev b1 hv2 HVA hfp
  unfold roomR at HB2 HW2
  go_upto_region 2 with (fail)
  generalize w1.alloc _ = w2 at HB2 HW2 ⊢
  have HE2 := Lib.hid (HE1.out.below HB2.out)
  have HX2 := Lib.hid ((HB2.out.block B3 (smem_lt HX1.out)).trans HX1.out)
  have HB02 := Lib.hid (HB0.out.trans ((HB1.out.mono HB0.out.size).trans (HB2.out.mono (Nat.le_trans HB0.out.size HB1.out.size))))
  have hn43 : B3 ≠ w1.heap.size := by have := smem_lt HX1.out; omega
  generalize w1.heap.size = B4 at HW2 hn43 ⊢
  have d0 : w2.cell? ⟨B4, 0, none⟩ = some (.string roomR) := cell_at HW2.out 0
  go_wp2_with fail
  go_at_call 27
  refine (C.new w2 roomR roomR_size roomR_room).mono ?_
  rintro e w3 ⟨g, rfl, hc, hb3, hf⟩
  have HS : Hid (BdS C w2 w3 g roomR []) := Lib.hid ⟨hc, hb3, hf⟩
  clear hc hb3 hf d0 HE1 HB1 HX0 HX1
  go_wp2_with fail
  go_loopw [6] (fun i wr => ∃ a : Nat, i = .int .i64 (a : Int) ∧ a ≤ xs.length ∧ Hid (BdS C w2 wr g roomR ((evs xs).take a))) (fun i _ => xs.length - (intOf i).toNat)
  case atStart => exact ⟨0, rfl, Nat.zero_le _, HS⟩
  case round =>
    obtain ⟨a, rfl, ha, HO⟩ := hrel
    clear HS
    have HW4 := Lib.hid ((HO.out.below.block B4 (smem_lt HW2.out)).trans HW2.out)
    have c1 : wr.cell? ⟨B4, 1, none⟩ = some (.slice Av xs.length cv) := cell_at HW4.out 1
    by_cases hax : a < xs.length
    · have q1 : decide ((a : Int) < (xs.length : Int)) = true := decide_eq_true (by omega)
      have hx : xs[a]? = some xs[a] := List.getElem?_eq_getElem hax
      generalize xs[a] = x at hx
      have HA := Lib.hid (add_take8 HVL.out (evs_get hx))
      have HX := Lib.hid ((HE2.out.2 x (List.mem_of_getElem? hx)).below HO.out.below)
      obtain ⟨b, off, rfl, hb, hrg⟩ := ev_at HE2.out hx
      have hix := index_any (P := Tryz.prog) knV (by decide) (b := b) (off := off) (cap := cv) hax
      simp only [LV] at hix
      obtain ⟨e0, e1, e2, e3, e4, e5⟩ := ev_cells (w := wr) (fun j u hu => (HO.out.below.cell (p := ⟨b, off + a * 6 + j, none⟩) hb).trans (hrg j u hu))
      unfold EvV.pv at e2
      have hta : ((evs xs).take a).length ≤ 100 := by rw [List.length_take]; omega
      have HC := Lib.hid (C.add x HO.out.code hta HX.out)
      unfold EvV.val EvV.pv at HC
      rw [HA.out.1, HA.out.2] at HC
      clear hx hrg hta
      go_wp2_with fail
      go_at_call 28
      refine HC.out.mono ?_
      rintro e w3 ⟨rfl, hc3, ht3⟩
      replace HO := Lib.hid (HO.out.turn hc3 ht3)
      clear hc3 ht3 HC c1 e0 e1 e2 e3 e4 e5 HW4
      go_wp2_with fail
      refine ⟨⟨a + 1, by go_num, by omega, HO⟩, ?_⟩
      simp [intOf]; omega
    · have q1 : decide ((a : Int) < (xs.length : Int)) = false := decide_eq_false (by omega)
      have htk : (evs xs).take a = evs xs := List.take_of_length_le (by rw [evs_len]; omega)
      rw [htk] at HO
      have c0' : wr.cell? ⟨B4, 0, none⟩ = some (.string roomR) := cell_at HW4.out 0
      have HX3 := Lib.hid ((HO.out.below.block B3 (smem_lt HX2.out)).trans HX2.out)
      have x0 : wr.cell? ⟨B3, 0, none⟩ = some (.string ⟨#[]⟩) := cell_at HX3.out 0
      have x1 : wr.cell? ⟨B3, 1, none⟩ = some (.slice none 0 0) := cell_at HX3.out 1
      have z0 : wr.frozen? ⟨B3, 0, none⟩ = false := free_at HX3.out 0
      have z1 : wr.frozen? ⟨B3, 1, none⟩ = false := free_at HX3.out 1
      have HFN : Hid (Bt C w (((wr.setCell ⟨B3, 0, none⟩ (.string roomR)).setCell ⟨B3, 1, none⟩ (.slice Av xs.length cv)).drew) g (.slice Av xs.length cv) xs ∧ (((wr.setCell ⟨B3, 0, none⟩ (.string roomR)).setCell ⟨B3, 1, none⟩ (.slice Av xs.length cv)).drew).heap[B3]? = some (.cells #[.string roomR, .slice Av xs.length cv] 26 (0, 0))) := Lib.hid (by
        have hg := sm_grown wr B3 0 [.string roomR, .slice Av xs.length cv]
        obtain ⟨cur, y1, y2, y3⟩ := sm_at B3 26 [.string roomR, .slice Av xs.length cv] 0 wr _ HX3.out (Nat.le_refl 2)
        have y5 : cur = #[.string roomR, .slice Av xs.length cv] := Array.toList_inj.1 y3
        rw [y5] at y1
        have hb3 := smem_lt HX2.out
        have hbl : ∀ k, k < wr.heap.size → k ≠ B3 → (((wr.setCell ⟨B3, 0, none⟩ (.string roomR)).setCell ⟨B3, 1, none⟩ (.slice Av xs.length cv)).drew).heap[k]? = wr.heap[k]? := fun k hk hn => hg.block k hk (fun e => hn (by injection e))
        have hsz : wr.heap.size ≤ (((wr.setCell ⟨B3, 0, none⟩ (.string roomR)).setCell ⟨B3, 1, none⟩ (.slice Av xs.length cv)).drew).heap.size := hg.size
        have hkp := C.keep (w' := ((wr.setCell ⟨B3, 0, none⟩ (.string roomR)).setCell ⟨B3, 1, none⟩ (.slice Av xs.length cv)).drew) HO.out.code hsz (fun k hk => hbl k (C.old HO.out.code hk) (fun e => by have := HO.out.fresh k hk; omega))
        have hes := HE2.out.below HO.out.below
        have hbw := HB02.out.size
        refine ⟨⟨⟨hkp.1, (HB02.out.trans (HO.out.below.mono hbw)).grown hg (Nat.le_trans hbw HO.out.below.size) (fun k hk => by injection hk with hk; omega) |>.drew, fun k hk => Nat.le_trans hbw (HO.out.fresh k (hkp.2 k hk))⟩, hes.stay hsz (fun k hk hf => hbl k hk (evs_apart8 hes HX3.out HFP.out hf)), fun k hk ho => ?_, hxl, HID.out⟩, y1⟩
        · have h5 := HE2.out.foot hk
          have h6 := HO.out.fresh k (hkp.2 k ho)
          omega)
      go_upto_region 10 with (fail)
      go_region
      generalize World.drew _ = w9 at HFN ⊢
      have r0 : w9.cell? ⟨B3, 0, none⟩ = some (.string roomR) := cell_at HFN.out.2 0
      have r1 : w9.cell? ⟨B3, 1, none⟩ = some (.slice Av xs.length cv) := cell_at HFN.out.2 1
      go_wp2_with fail
      refine bodyPost_ret (v := .tuple #[.pointer (some ⟨g, 0, none⟩), .agg #[.string roomR, .slice Av xs.length cv]]) ?_ rfl ?_
      · simp [results, Tryz.results8, go_sem, r0, r1]
      · exact ⟨g, _, xs, rfl, HFN.out.1⟩
end Go.Proofs.YtfbfdkibdjinaaaGreat

namespace Go.Proofs.YtfbfdkibdjinaaaGreat
set_option maxRecDepth 20000
open Go.RowKit
set_option linter.unusedVariables false
set_option linter.unusedSimpArgs false

def rmS : ByteArray := ⟨#[33, 114, 58, 115]⟩
def usS : ByteArray := ⟨#[64, 97, 58, 115]⟩
def idA : ByteArray := ⟨#[36, 97]⟩
def idB : ByteArray := ⟨#[36, 98]⟩
def idC : ByteArray := ⟨#[36, 99]⟩
def srS : ByteArray := ⟨#[115]⟩
def evA : Ev := ⟨idA, rmS, [], ⟨#[]⟩, usS, 1⟩
def evB : Ev := ⟨idB, rmS, [idA], ⟨#[]⟩, usS, 2⟩
def evC : Ev := ⟨idC, rmS, [idB], ⟨#[]⟩, usS, 1⟩
theorem rmS_room : namedB 33 rmS = true := by decide +kernel
theorem ex_errs : errA rmS [] evA = 0 ∧ errA rmS [evA] evB = 0 ∧ errA rmS [evA, evB] evC = 0 := by decide +kernel
theorem ex_joins : joinL [evA, evB] usS = false ∧ joinL [evA, evB, evC] usS = true ∧ hasL (serversL [evA, evB, evC]) srS = true := by decide +kernel
theorem lit_ev {w : World} (e : Ev) (p : ByteArray) (hp : e.parents = [p]) (hk : e.ok) : EvV.at ⟨e, some ⟨w.heap.size, 0, none⟩, 1⟩ (w.alloc (.cells #[.string p] 9)) := by
  refine ⟨?_, hk⟩
  show LT.Slice _ (.slice (some ⟨w.heap.size, 0, none⟩) e.parents.length 1) e.parents
  rw [hp]
  exact lit_slice (L := LT) w p w.heap.size rfl #[.string p] rfl

set_option maxHeartbeats 3200000 in
theorem lives9_any (C : Dags) (CA : DagAlls C) (w : World) : Calls Tryz.prog 19 #[] w fun e w' => e = .returned (.bool true) ∧ Below w.heap.size w w' := by
  go_enter Tryz.func19, Tryz.ntmps19
  go_wp2_with fail
  go_at_call 27
  refine (C.new w rmS (by decide) rmS_room).mono ?_
  rintro e w1 ⟨g, rfl, hc, hb1, hf⟩
  have HS : Hid (BdS C w w1 g rmS []) := Lib.hid ⟨hc, hb1, hf⟩
  clear hc hb1 hf
  have HA := Lib.hid (C.add ⟨evA, none, 0⟩ HS.out.code (by simp) ⟨.nil _, by unfold Ev.ok maxLen; decide⟩)
  have HA1 : Hid (addA rmS [] evA = [evA]) := Lib.hid (by unfold addA; rw [if_pos ex_errs.1]; rfl)
  have HA2 : Hid (addA rmS [evA] evB = [evA, evB]) := Lib.hid (by unfold addA; rw [if_pos ex_errs.2.1]; rfl)
  have HA3 : Hid (addA rmS [evA, evB] evC = [evA, evB, evC]) := Lib.hid (by unfold addA; rw [if_pos ex_errs.2.2]; rfl)
  have HL2 : Hid ([evA].length ≤ 100) := Lib.hid (by simp)
  have HL3 : Hid ([evA, evB].length ≤ 100) := Lib.hid (by simp)
  have HL4 : Hid ([evA, evB, evC].length ≤ 100) := Lib.hid (by simp)
  go_wp2_with fail
  go_at_call 28
  refine HA.out.mono ?_
  rintro e w2 ⟨rfl, hc2, ht2⟩
  rw [HA1.out] at hc2
  have HS2 := Lib.hid (HS.out.turn hc2 ht2)
  clear hc2 ht2 HA HS
  have HS2b := Lib.hid (HS2.out.later (below_new w2 (.cells #[.string idA] 9)))
  have HB := Lib.hid (C.add ⟨evB, some ⟨w2.heap.size, 0, none⟩, 1⟩ HS2b.out.code HL2.out (lit_ev evB idA rfl (by unfold Ev.ok maxLen; decide)))
  go_wp2_with fail
  go_at_call 28
  refine HB.out.mono ?_
  rintro e w3 ⟨rfl, hc3, ht3⟩
  rw [HA2.out] at hc3
  have HS3 := Lib.hid (HS2b.out.turn hc3 ht3)
  clear hc3 ht3 HB HS2 HS2b
  have HJ := Lib.hid (memJoined_any C CA usS HS3.out.code HL3.out (by decide))
  rw [ex_joins.1] at HJ
  go_wp2_with fail
  go_at_call 13
  refine HJ.out.mono ?_
  rintro e w4 ⟨rfl, hc4, ht4⟩
  have HS4 := Lib.hid (HS3.out.turn hc4 ht4)
  clear hc4 ht4 HJ HS3
  have HS4b := Lib.hid (HS4.out.later (below_new w4 (.cells #[.string idB] 9)))
  have HD := Lib.hid (C.add ⟨evC, some ⟨w4.heap.size, 0, none⟩, 1⟩ HS4b.out.code HL3.out (lit_ev evC idB rfl (by unfold Ev.ok maxLen; decide)))
  go_wp2_with fail
  go_at_call 28
  refine HD.out.mono ?_
  rintro e w5 ⟨rfl, hc5, ht5⟩
  rw [HA3.out] at hc5
  have HS5 := Lib.hid (HS4b.out.turn hc5 ht5)
  clear hc5 ht5 HD HS4 HS4b HA1 HA2 HA3
  have HJ := Lib.hid (memJoined_any C CA usS HS5.out.code HL4.out (by decide))
  rw [ex_joins.2.1] at HJ
  go_wp2_with fail
  go_at_call 13
  refine HJ.out.mono ?_
  rintro e w6 ⟨rfl, hc6, ht6⟩
  have HS6 := Lib.hid (HS5.out.turn hc6 ht6)
  clear hc6 ht6 HJ HS5
  have HI := Lib.hid (memIn_any C CA srS HS6.out.code HL4.out)
  rw [ex_joins.2.2] at HI
  go_wp2_with fail
  go_at_call 21
  refine HI.out.mono ?_
  rintro e w7 ⟨rfl, hc7, ht7⟩
  have HS7 := Lib.hid (HS6.out.turn hc7 ht7)
  clear hc7 ht7 HI HS6
  go_wp2_with fail
  go_ret
  exact ⟨rfl, HS7.out.below⟩
end Go.Proofs.YtfbfdkibdjinaaaGreat

namespace Go.Proofs.YtfbfdkibdjinaaaGreat
set_option maxRecDepth 20000
open Go.RowKit
set_option linter.unusedVariables false
set_option linter.unusedSimpArgs false

structure KpS (C : Dags) (w w2 wr : World) (gd : Nat) (l : List Ev) (bs : List (Nat × Obj)) (es : List EvV) (ts : List (Value × List ByteArray)) : Prop where
  bd : BdS C w wr gd roomR l
  turn : TurnD C.own w2 wr gd
  box : ∀ q ∈ bs, wr.heap[q.1]? = some q.2 ∧ ¬ C.own wr gd q.1
  ev : ∀ x ∈ es, x.at wr ∧ ∀ k, footV x k → ¬ C.own wr gd k
  tx : ∀ p ∈ ts, LT.Slice wr p.1 p.2 ∧ ∀ k, 0 < p.2.length → p.1.ownBlock = some k → ¬ C.own wr gd k
section
variable {C : Dags} {w w2 wr w' : World} {gd : Nat} {l l' : List Ev} {bs bs' : List (Nat × Obj)} {es es' : List EvV} {ts ts' : List (Value × List ByteArray)}
theorem TurnD.refl {own : World → Nat → Nat → Prop} (w : World) (g : Nat) : TurnD own w w g := ⟨rfl, rfl, rfl, Nat.le_refl _, fun _ _ _ => rfl, fun _ h => .inl h⟩
theorem KpS.step (h : KpS C w w2 wr gd l bs es ts) (hc : C.CD w' gd roomR l') (ht : TurnD C.own wr w' gd) : KpS C w w2 w' gd l' bs es ts := by
  refine ⟨h.bd.turn hc ht, h.turn.trans ht, fun q hq => ?_, fun x hx => ?_, fun p hp => ?_⟩
  · obtain ⟨h1, h2⟩ := h.box q hq
    have hl := smem_lt h1
    refine ⟨(ht.block q.1 hl h2).trans h1, fun e => ?_⟩
    rcases ht.owns _ e with hh | hh
    · exact h2 hh
    · omega
  · obtain ⟨h1, h2⟩ := h.ev x hx
    refine ⟨h1.stay0 ht.size (fun k hk hf => ht.block k hk (h2 k hf)), fun k hf e => ?_⟩
    have hl := h1.foot hf
    rcases ht.owns _ e with hh | hh
    · exact h2 k hf hh
    · omega
  · obtain ⟨h1, h2⟩ := h.tx p hp
    refine ⟨h1.stay0 ht.size (fun k hk h0 hv => ht.block k hk (h2 k h0 hv)), fun k h0 hv e => ?_⟩
    have hl := h1.foot h0 hv
    rcases ht.owns _ e with hh | hh
    · exact h2 k h0 hv hh
    · omega
theorem KpS.grow (h : KpS C w w2 wr gd l bs es ts) (hb : Below wr.heap.size wr w') : C.CD w' gd roomR l ∧ TurnD C.own wr w' gd ∧ ∀ k, C.own w' gd k → k < wr.heap.size := by
  obtain ⟨h1, h2⟩ := C.keep h.bd.code hb.size (fun k hk => hb.block k (C.old h.bd.code hk))
  exact ⟨h1, ⟨hb.os, hb.tape, hb.output, hb.size, fun k hk _ => hb.block k hk, fun k hk => .inl (h2 k hk)⟩, fun k hk => C.old h.bd.code (h2 k hk)⟩
theorem KpS.later (h : KpS C w w2 wr gd l bs es ts) (hb : Below wr.heap.size wr w') : KpS C w w2 w' gd l bs es ts := h.step (h.grow hb).1 (h.grow hb).2.1
theorem KpS.new (h : KpS C w w2 wr gd l bs es ts) (hb : Below wr.heap.size wr w') {k : Nat} {o : Obj} (hk : wr.heap.size ≤ k) (ho : w'.heap[k]? = some o) : KpS C w w2 w' gd l ((k, o) :: bs) es ts := by
  have h' := h.later hb
  refine ⟨h'.bd, h'.turn, fun q hq => ?_, h'.ev, h'.tx⟩
  rcases List.mem_cons.1 hq with rfl | hq
  · exact ⟨ho, fun e => by have := (h.grow hb).2.2 _ e; simp only at this; omega⟩
  · exact h'.box q hq
theorem KpS.withEv (h : KpS C w w2 wr gd l bs es ts) {x : EvV} (hx : x.at wr) (hf : ∀ k, footV x k → ¬ C.own wr gd k) : KpS C w w2 wr gd l bs (x :: es) ts :=
  ⟨h.bd, h.turn, h.box, fun y hy => by
    rcases List.mem_cons.1 hy with rfl | hy
    · exact ⟨hx, hf⟩
    · exact h.ev y hy, h.tx⟩
theorem KpS.withTx (h : KpS C w w2 wr gd l bs es ts) {v : Value} {us : List ByteArray} (hx : LT.Slice wr v us) (hf : ∀ k, 0 < us.length → v.ownBlock = some k → ¬ C.own wr gd k) : KpS C w w2 wr gd l bs es ((v, us) :: ts) :=
  ⟨h.bd, h.turn, h.box, h.ev, fun p hp => by
    rcases List.mem_cons.1 hp with rfl | hp
    · exact ⟨hx, hf⟩
    · exact h.tx p hp⟩
theorem KpS.less (h : KpS C w w2 wr gd l bs es ts) (h1 : ∀ q ∈ bs', q ∈ bs) (h2 : ∀ x ∈ es', x ∈ es) (h3 : ∀ p ∈ ts', p ∈ ts) : KpS C w w2 wr gd l bs' es' ts' :=
  ⟨h.bd, h.turn, fun q hq => h.box q (h1 q hq), fun x hx => h.ev x (h2 x hx), fun p hp => h.tx p (h3 p hp)⟩
/-- The document's row of events, kept since w2. -/
theorem KpS.evs (h : KpS C w w2 wr gd l bs es ts) {v : Value} {xs : List EvV} (he : EvsS w2 v xs) (hf : ∀ k, footE v xs k → ¬ C.own w2 gd k) : EvsS wr v xs ∧ ∀ x ∈ xs, ∀ k, footV x k → ¬ C.own wr gd k := by
  obtain ⟨h1, h2⟩ := Dags.stays he hf h.turn
  exact ⟨h1, fun x hx k hk => h2 k (he.foot (.inr ⟨x, hx, hk⟩)) (.inr ⟨x, hx, hk⟩)⟩
end
theorem userS_len9 (n : Int) : (userS n).size ≤ 40 := named_size (userS_user n)
end Go.Proofs.YtfbfdkibdjinaaaGreat
