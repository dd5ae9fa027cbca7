/-
  IndexParents: what is ahead of an event is its parents, and what is ahead of these.
-/
import Derived.Test.YtflgpdkdflhhgaaGreatDoorI8D
namespace Go.Proofs.YtflgpdkdflhhgaaGreatDoor
set_option maxRecDepth 20000
open Go.RowKit
set_option linter.unusedVariables false
set_option linter.unusedSimpArgs false

/-- While an index is asked: all below B stays. -/
structure AkS (w3 wr : World) (B gx : Nat) (l : List Ev) : Prop where
  is : ∃ P, CX wr gx l P ∧ ∀ k, P k → B ≤ k
  below : Below B w3 wr
  le : B ≤ w3.heap.size
theorem AkS.ask {w3 wr w' : World} {B gx : Nat} {l : List Ev} {P : Nat → Prop} (h : AkS w3 wr B gx l) (hp : ∀ k, P k → B ≤ k) (ha : AskX wr w' gx l P) : AkS w3 w' B gx l := by
  obtain ⟨P', h1, h2, h3⟩ := ha
  have hs := Nat.le_trans h.le h.below.size
  refine ⟨⟨P', h1, fun k hk => ?_⟩, h.below.trans (h2.below hp hs), h.le⟩
  rcases h3 k hk with hh | hh
  · exact hp k hh
  · exact Nat.le_trans hs hh
theorem AkS.evs {w3 wr : World} {B gx : Nat} {l : List Ev} {v : Value} {xs : List EvV} (h : AkS w3 wr B gx l) (he : EvsS w3 v xs) (hf : ∀ k, footE v xs k → k < B) : EvsS wr v xs := he.stay h.below.size (fun k hk hk2 => h.below.block k (hf k hk2))
noncomputable def byTo (l : List Ev) (id : ByteArray) (ps : List ByteArray) (d : Nat) : Bool := (ps.take d).any (fun p => decide (p = id) || aheadB l id p)
theorem byTo_succ {l : List Ev} {id p : ByteArray} {ps : List ByteArray} {d : Nat} (h : ps[d]? = some p) : byTo l id ps (d + 1) = (byTo l id ps d || (decide (p = id) || aheadB l id p)) := by
  unfold byTo
  rw [List.take_add_one, h, List.any_append]
  simp
theorem byTo_all {room : ByteArray} {l : List Ev} {e : Ev} (hv : Valid room l) (he : e ∈ l) (id : ByteArray) : byTo l id e.parents e.parents.length = aheadB l id e.id := by
  unfold byTo
  rw [List.take_length, Bool.eq_iff_iff, aheadB_iff, ahead_iff hv he, List.any_eq_true]
  constructor
  · rintro ⟨p, hp, h⟩
    rw [Bool.or_eq_true, decide_eq_true_eq, aheadB_iff] at h
    exact ⟨p, hp, h.imp (fun e => e.symm) (fun h => h)⟩
  · rintro ⟨p, hp, h⟩
    refine ⟨p, hp, ?_⟩
    rw [Bool.or_eq_true, decide_eq_true_eq, aheadB_iff]
    exact h.imp (fun e => e.symm) (fun h => h)

set_option maxHeartbeats 6400000 in
theorem indexParents_walk (C : Dags) (CA : DagAlls C) (v : Value) (gs : List GV) (w : World) (h : GsS w v gs) (ht : TabW w) :
    Calls Tryz.prog 7 #[v] w fun e w' => e = .returned (.bool true) ∧ Below w.heap.size w w' := by
  have HTB := Lib.hid ht
  have hw0 := ht.1
  have HBU := Lib.hid (build8_any C v gs w h hw0)
  have HZ := Lib.hid (fun W (hh : TabW W) => lives8_any C CA W hh)
  obtain ⟨A0, c0, rfl, -⟩ := id h.1
  clear h ht
  go_enter Tryz.func7, Tryz.ntmps7
  go_wp2_with fail
  go_at_call 8
  refine HBU.out.mono ?_
  rintro e w1 ⟨gd, v', xs, rfl, hbt⟩
  obtain ⟨Av, cv, rfl, -, hv2, -⟩ := id hbt.evs.1
  have hv3 : cv ≤ 9223372036854775807 := by unfold maxLen at hv2; omega
  have hxl := hbt.len
  have HVL : Hid (Valid roomR (evs xs)) := Lib.hid (C.valid hbt.bd.code)
  have hb2 := below_new w1 (.cells #[.string roomR, .slice Av xs.length cv] 26)
  have HX2 := Lib.hid (heap_alloc_new w1 (.cells #[.string roomR, .slice Av xs.length cv] 26))
  have HD2 := Lib.hid (hbt.bd.later hb2)
  have HE2 := Lib.hid (hbt.evs.below hb2)
  have HOF2 : Hid (∀ k, footE (.slice Av xs.length cv) xs k → ¬ C.own (w1.alloc (.cells #[.string roomR, .slice Av xs.length cv] 26)) gd k) := Lib.hid (fun k hk ho => hbt.off k hk ((C.keep hbt.bd.code hb2.size (fun k hk => hb2.block k (C.old hbt.bd.code hk))).2 k ho))
  have HOB2 : Hid (¬ C.own (w1.alloc (.cells #[.string roomR, .slice Av xs.length cv] 26)) gd w1.heap.size) := Lib.hid (fun ho => by
    have := C.old hbt.bd.code ((C.keep hbt.bd.code hb2.size (fun k hk => hb2.block k (C.old hbt.bd.code hk))).2 _ ho)
    omega)
  clear hbt hb2 HBU hv2
  go_upto_region 2 with (fail)
  generalize w1.alloc _ = w2 at HX2 HD2 HE2 HOF2 HOB2 ⊢
  generalize w1.heap.size = B4 at HX2 HOB2 ⊢
  have HOF := Lib.hid (of_any C CA w2 HD2.out.code (by rw [evs_len]; exact hxl))
  go_wp2_with fail
  go_at_call 9
  refine HOF.out.mono ?_
  rintro e w3 ⟨gx, P, rfl, hx, hp, hc3, ht3⟩
  have HD3 := Lib.hid (HD2.out.turn hc3 ht3)
  have HE3 := Lib.hid (Dags.stays HE2.out HOF2.out ht3).1
  have HX3 := Lib.hid ((ht3.block B4 (smem_lt HX2.out) HOB2.out).trans HX2.out)
  have HFB : Hid (∀ k, footE (.slice Av xs.length cv) xs k → k < w2.heap.size) := Lib.hid (fun k hk => HE2.out.foot hk)
  have hB4 := smem_lt HX2.out
  have hle := ht3.size
  have hws := HD2.out.below.size
  have HA3 : Hid (AkS w3 w3 w2.heap.size gx (evs xs)) := Lib.hid ⟨⟨P, hx, fun k hk => (hp k hk).1⟩, Below.refl _ _, ht3.size⟩
  have HT3 := Lib.hid (HTB.out.below HD3.out.below hw0)
  clear hx hp hc3 ht3 HOF HX2 HD2 HE2 HOF2 HOB2
  generalize w2.heap.size = B2 at HFB hB4 hle hws HA3
  have HEW : Hid (∀ W, AkS w3 W B2 gx (evs xs) → EvsS W (.slice Av xs.length cv) xs) := Lib.hid (fun W h => h.evs HE3.out HFB.out)
  have HXW : Hid (∀ W, AkS w3 W B2 gx (evs xs) → W.heap[B4]? = some (.cells #[.string roomR, .slice Av xs.length cv] 26 (0, 0))) := Lib.hid (fun W h => (h.below.block B4 hB4).trans HX3.out)
  have HAH : Hid (∀ W a b, AkS w3 W B2 gx (evs xs) → a.size ≤ maxLen → b.size ≤ maxLen → Calls Tryz.prog 12 #[.pointer (some ⟨gx, 0, none⟩), .string a, .string b] W fun e w' => e = .returned (.bool (aheadB (evs xs) a b)) ∧ AkS w3 w' B2 gx (evs xs)) := Lib.hid (fun W a b h ha hb => by
    obtain ⟨P, h1, h2⟩ := h.is
    refine (ahead_any W h1 a b ha hb).mono ?_
    rintro e w' ⟨rfl, hk⟩
    exact ⟨rfl, h.ask h2 hk⟩)
  go_wp2_with fail
  go_loopw [6] (fun i wr => ∃ a : Nat, i = .int .i64 (a : Int) ∧ a ≤ xs.length ∧ Hid (AkS w3 wr B2 gx (evs xs))) (fun i _ => xs.length - (intOf i).toNat)
  case atStart => exact ⟨0, rfl, Nat.zero_le _, HA3⟩
  case round =>
    obtain ⟨wi, hwi⟩ : ∃ wi, wi = wr := ⟨_, rfl⟩
    subst hwi
    obtain ⟨a, rfl, ha, HI⟩ := hrel
    have d1 : wi.cell? ⟨B4, 1, none⟩ = some (.slice Av xs.length cv) := cell_at (HXW.out _ HI.out) 1
    by_cases hax : a < xs.length
    · have q1 : decide ((a : Int) < (xs.length : Int)) = true := decide_eq_true (by omega)
      have hxa : xs[a]? = some xs[a] := List.getElem?_eq_getElem hax
      generalize xs[a] = x at hxa
      have HXA := Lib.hid hxa
      go_wp2_with fail
      go_loopw [7] (fun i wr => ∃ c : Nat, i = .int .i64 (c : Int) ∧ c ≤ xs.length ∧ Hid (AkS w3 wr B2 gx (evs xs))) (fun i _ => xs.length - (intOf i).toNat)
      case atStart => exact ⟨0, rfl, Nat.zero_le _, HI⟩
      case round =>
        obtain ⟨wk, hwk⟩ : ∃ wk, wk = wr := ⟨_, rfl⟩
        subst hwk
        clear d1 HI
        obtain ⟨c, rfl, hc, HK⟩ := hrel
        have d1 : wk.cell? ⟨B4, 1, none⟩ = some (.slice Av xs.length cv) := cell_at (HXW.out _ HK.out) 1
        by_cases hcx : c < xs.length
        · have q2 : decide ((c : Int) < (xs.length : Int)) = true := decide_eq_true (by omega)
          have hyc : xs[c]? = some xs[c] := List.getElem?_eq_getElem hcx
          generalize xs[c] = y at hyc
          have HYK := Lib.hid (HEW.out _ HK.out)
          have hyid : y.ev.id.size ≤ maxLen := (HE3.out.2 y (List.mem_of_getElem? hyc)).2.1
          obtain ⟨b, off, rfl, hb, hr⟩ := ev_at HYK.out hyc
          have hix := index_any (P := Tryz.prog) knV (by decide) (b := b) (off := off) (cap := cv) hcx
          have hia := index_any (P := Tryz.prog) knV (by decide) (b := b) (off := off) (cap := cv) hax
          simp only [LV] at hix hia
          obtain ⟨e0, -, -, -, -, -⟩ := ev_cells hr
          have HXT : Hid (∀ W, AkS w3 W B2 gx (evs xs) → W.cell? ⟨b, off + a * 6, none⟩ = some (.string x.ev.id) ∧ W.cell? ⟨b, off + a * 6 + 2, none⟩ = some (.slice x.A x.ev.parents.length x.cap) ∧ x.at W) := Lib.hid (fun W h => by
            obtain ⟨b', off', hA', hb', hr'⟩ := ev_at (HEW.out _ h) HXA.out
            injection hA' with hA'
            injection hA' with h1 h2
            subst h1
            subst h2
            obtain ⟨f0, -, f2, -⟩ := ev_cells hr'
            exact ⟨f0, f2, (HEW.out _ h).2 x (List.mem_of_getElem? HXA.out)⟩)
          clear hyc hr HYK
          have HVX := Lib.hid (byTo_all HVL.out (List.mem_of_getElem? (evs_get HXA.out)) y.ev.id)
          go_wp2_with fail
          go_loopw [9, 10] (fun u i wr => ∃ d : Nat, u = .bool (byTo (evs xs) y.ev.id x.ev.parents d) ∧ i = .int .i64 (d : Int) ∧ d ≤ x.ev.parents.length ∧ Hid (AkS w3 wr B2 gx (evs xs))) (fun _ i _ => x.ev.parents.length - (intOf i).toNat)
          case atStart => exact ⟨0, by simp [byTo], rfl, Nat.zero_le _, HK⟩
          case round =>
            obtain ⟨d, rfl, rfl, hd, HJ⟩ := hrel
            clear d1 e0 HK
            have d1 : wr.cell? ⟨B4, 1, none⟩ = some (.slice (some ⟨b, off, none⟩) xs.length cv) := cell_at (HXW.out _ HJ.out) 1
            obtain ⟨f0, f2, hxat⟩ := HXT.out _ HJ.out
            have hxid : x.ev.id.size ≤ maxLen := hxat.2.1
            have hxcap : x.ev.parents.length ≤ x.cap ∧ x.cap ≤ 9223372036854775807 := by
              obtain ⟨_, _, he, h5, hm, _⟩ := id hxat.1
              injection he with _ he2 he3
              unfold maxLen at hm
              omega
            by_cases hdx : d < x.ev.parents.length
            · have q3 : decide ((d : Int) < (x.ev.parents.length : Int)) = true := decide_eq_true (by omega)
              have hpd : x.ev.parents[d]? = some x.ev.parents[d] := List.getElem?_eq_getElem hdx
              generalize x.ev.parents[d] = p at hpd
              have hps : p.size ≤ maxLen := hxat.2.2.2.2.2.1 p (List.mem_of_getElem? hpd)
              have HBS := Lib.hid (byTo_succ (l := evs xs) (id := y.ev.id) hpd)
              obtain ⟨b3, o3, hA3, hb3, hr3⟩ := (show LT.Slice wr (.slice x.A x.ev.parents.length x.cap) x.ev.parents from hxat.1).at hpd
              have r3 : wr.cell? ⟨b3, o3 + d, none⟩ = some (.string p) := by have := hr3 0 _ rfl; simpa only [LT, Nat.mul_one, Nat.add_zero] using this
              have hi3 := index_any (P := Tryz.prog) knT (by decide) (b := b3) (off := o3) (cap := x.cap) hdx
              simp only [LT] at hi3
              rw [hA3] at f2
              have q4 : (p.toList == y.ev.id.toList) = decide (p = y.ev.id) := keyB p y.ev.id
              have HQ := Lib.hid (HAH.out wr y.ev.id p HJ.out hyid hps)
              generalize byTo (evs xs) y.ev.id x.ev.parents d = bt at HBS ⊢
              generalize hbq : byTo (evs xs) y.ev.id x.ev.parents (d + 1) = bt' at HBS
              have HBQ := Lib.hid hbq
              generalize aheadB (evs xs) y.ev.id p = ab at HBS HQ
              generalize decide (p = y.ev.id) = de at HBS q4
              clear hpd hr3 hxat hbq
              cases bt with
              | true =>
                go_wp2_with fail
                refine ⟨⟨d + 1, by rw [HBQ.out, HBS.out]; rfl, by go_num, by omega, HJ⟩, ?_⟩
                simp [intOf]; omega
              | false =>
                cases de with
                | true =>
                  go_wp2_with fail
                  refine ⟨⟨d + 1, by rw [HBQ.out, HBS.out]; rfl, by go_num, by omega, HJ⟩, ?_⟩
                  simp [intOf]; omega
                | false =>
                  go_wp2_with fail
                  go_at_call 12
                  refine HQ.out.mono ?_
                  rintro e wq ⟨rfl, hak⟩
                  have HAK := Lib.hid hak
                  clear hak
                  go_wp2_with fail
                  refine ⟨⟨d + 1, by rw [HBQ.out, HBS.out]; rfl, by go_num, by omega, HAK⟩, ?_⟩
                  simp [intOf]; omega
            · have q3 : decide ((d : Int) < (x.ev.parents.length : Int)) = false := decide_eq_false (by omega)
              obtain rfl : d = x.ev.parents.length := by omega
              rw [HVX.out]
              have HQ := Lib.hid (HAH.out wr y.ev.id x.ev.id HJ.out hyid hxid)
              generalize aheadB (evs xs) y.ev.id x.ev.id = ab at HQ ⊢
              have q5 : (ab != ab) = false := bne_self_eq_false _
              go_wp2_with fail
              go_at_call 12
              refine HQ.out.mono ?_
              rintro e wq ⟨rfl, hak⟩
              have HAK := Lib.hid hak
              clear hak
              go_wp2_with fail
              refine ⟨⟨c + 1, by go_num, by omega, HAK⟩, ?_⟩
              simp [intOf]; omega
        · have q2 : decide ((c : Int) < (xs.length : Int)) = false := decide_eq_false (by omega)
          go_wp2_with fail
          refine ⟨⟨a + 1, by go_num, by omega, HK⟩, ?_⟩
          simp [intOf]; omega
    · have q1 : decide ((a : Int) < (xs.length : Int)) = false := decide_eq_false (by omega)
      have HTW := Lib.hid (HT3.out.below HI.out.below (by omega))
      go_wp2_with fail
      go_at_call 17
      refine (HZ.out _ HTW.out).mono ?_
      rintro e wl ⟨rfl, hbl⟩
      have HBF := Lib.hid (HD3.out.below.trans ((HI.out.below.mono hws).trans (hbl.mono (Nat.le_trans HD3.out.below.size HI.out.below.size))))
      go_wp2_with fail
      go_ret
      exact ⟨rfl, HBF.out⟩
end Go.Proofs.YtflgpdkdflhhgaaGreatDoor
