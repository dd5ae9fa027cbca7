/-
  A dag of the code, built of the document's events.
-/
import Derived.Test.YtflgpdkdflhhgaaGreatDagC
namespace Go.Proofs.YtflgpdkdflhhgaaGreat
set_option maxRecDepth 20000
open Go.RowKit
set_option linter.unusedVariables false
set_option linter.unusedSimpArgs false

theorem add_take {room : ByteArray} {l : List Ev} {a : Nat} {e : Ev} (hv : Valid room l) (he : l[a]? = some e) : errA room (l.take a) e = 0 ∧ addA room (l.take a) e = l.take (a + 1) := by
  have h := hv a e he
  refine ⟨h, ?_⟩
  unfold addA
  rw [if_pos h, List.take_add_one, he]
  rfl
/-- While a dag is built: all of it is new since w. -/
structure BdS (C : Dags) (w wr : World) (g : Nat) (room : ByteArray) (l : List Ev) : Prop where
  code : C.CD wr g room l
  below : Below w.heap.size w wr
  fresh : ∀ k, C.own wr g k → w.heap.size ≤ k
theorem BdS.turn {C : Dags} {w wr w2 : World} {g : Nat} {room : ByteArray} {l l' : List Ev} (h : BdS C w wr g room l) (hc : C.CD w2 g room l') (ht : TurnD C.own wr w2 g) : BdS C w w2 g room l' :=
  ⟨hc, h.below.trans (ht.below h.fresh h.below.size), fun k hk => by
    rcases ht.owns k hk with hh | hh
    · exact h.fresh k hh
    · exact Nat.le_trans h.below.size hh⟩
theorem BdS.later {C : Dags} {w wr w2 : World} {g : Nat} {room : ByteArray} {l : List Ev} (h : BdS C w wr g room l) (hb : Below wr.heap.size wr w2) : BdS C w w2 g room l := by
  obtain ⟨hc, ho⟩ := C.keep h.code hb.size (fun k hk => hb.block k (C.old h.code hk))
  exact ⟨hc, h.below.trans (hb.mono h.below.size), fun k hk => h.fresh k (ho k hk)⟩
theorem BdS.mono {C : Dags} {w0 w wr : World} {g : Nat} {room : ByteArray} {l : List Ev} (h : BdS C w wr g room l) (hb : Below w0.heap.size w0 w) : BdS C w0 wr g room l :=
  ⟨h.code, hb.trans (h.below.mono hb.size), fun k hk => Nat.le_trans hb.size (h.fresh k hk)⟩

set_option maxHeartbeats 800000 in
theorem build_any (C : Dags) (room : ByteArray) (v : Value) (xs : List EvV) (w : World) (h : EvsS w v xs) (hv : Valid room (evs xs)) (hr : namedB 33 room = true) (hrs : room.size ≤ maxLen) (hl : xs.length ≤ 100) :
    Calls Tryz.prog 7 #[.agg #[.string room, v]] w fun e w' => ∃ g, e = .returned (.pointer (some ⟨g, 0, none⟩)) ∧ BdS C w w' g room (evs xs) := by
  obtain ⟨A, cap, rfl, h1, h2, h3, _⟩ := id h.1
  unfold maxLen at h2
  have HB := Lib.hid (heap_alloc_new w (.cells #[.string room, .slice A xs.length cap] 26))
  have HL := Lib.hid (below_new w (.cells #[.string room, .slice A xs.length cap] 26))
  have HE := Lib.hid h
  have HV := Lib.hid hv
  clear h h3 hv
  go_enter Tryz.func7, Tryz.ntmps7
  go_upto_region 1 with (fail)
  generalize w.alloc _ = w1 at HB HL ⊢
  generalize w.heap.size = B1 at HB ⊢
  have c0 : w1.cell? ⟨B1, 0, none⟩ = some (.string room) := cell_at HB.out 0
  go_wp2_with fail
  go_at_call 13
  refine (C.new w1 room hrs hr).mono ?_
  rintro e w2 ⟨g, rfl, hc, hb2, hf⟩
  have HS : Hid (BdS C w1 w2 g room []) := Lib.hid ⟨hc, hb2, hf⟩
  clear hc hb2 hf c0
  go_wp2_with fail
  go_loopw [4] (fun i wr => ∃ a : Nat, i = .int .i64 (a : Int) ∧ a ≤ xs.length ∧ Hid (BdS C w1 wr g room ((evs xs).take a))) (fun i _ => xs.length - (intOf i).toNat)
  case atStart => exact ⟨0, rfl, Nat.zero_le _, HS⟩
  case round =>
    obtain ⟨a, rfl, ha, HO⟩ := hrel
    clear HS
    have c1 : wr.cell? ⟨B1, 1, none⟩ = some (.slice A xs.length cap) := cell_at ((HO.out.below.block B1 (smem_lt HB.out)).trans HB.out) 1
    by_cases hax : a < xs.length
    · have q1 : decide ((a : Int) < (xs.length : Int)) = true := decide_eq_true (by omega)
      have hx : xs[a]? = some xs[a] := List.getElem?_eq_getElem hax
      generalize xs[a] = x at hx
      have HA := Lib.hid (add_take HV.out (evs_get hx))
      have HX := Lib.hid ((HE.out.2 x (List.mem_of_getElem? hx)).below HL.out |>.below HO.out.below)
      obtain ⟨b, off, rfl, hb, hrg⟩ := ev_at HE.out hx
      have hix := index_any (P := Tryz.prog) knV (by decide) (b := b) (off := off) (cap := cap) hax
      simp only [LV] at hix
      have hbw := HL.out.trans (HO.out.below.mono HL.out.size)
      obtain ⟨e0, e1, e2, e3, e4, e5⟩ := ev_cells (w := wr) (fun j u hu => (hbw.cell (p := ⟨b, off + a * 6 + j, none⟩) hb).trans (hrg j u hu))
      unfold EvV.pv at e2
      have hta : ((evs xs).take a).length ≤ 100 := by rw [List.length_take]; omega
      have HC := Lib.hid (C.add x HO.out.code hta HX.out)
      unfold EvV.val EvV.pv at HC
      rw [HA.out.1, HA.out.2] at HC
      clear hx hrg hbw hta
      go_wp2_with fail
      go_at_call 11
      refine HC.out.mono ?_
      rintro e w3 ⟨rfl, hc3, ht3⟩
      replace HO := Lib.hid (HO.out.turn hc3 ht3)
      clear hc3 ht3 HC c1 e0 e1 e2 e3 e4 e5
      go_wp2_with fail
      refine ⟨⟨a + 1, by go_num, by omega, HO⟩, ?_⟩
      simp [intOf]; omega
    · have q1 : decide ((a : Int) < (xs.length : Int)) = false := decide_eq_false (by omega)
      obtain rfl : a = xs.length := by omega
      go_wp2_with fail
      go_ret
      refine ⟨g, rfl, ?_⟩
      have := HO.out
      rw [← evs_len xs, List.take_length] at this
      exact this.mono HL.out
end Go.Proofs.YtflgpdkdflhhgaaGreat
