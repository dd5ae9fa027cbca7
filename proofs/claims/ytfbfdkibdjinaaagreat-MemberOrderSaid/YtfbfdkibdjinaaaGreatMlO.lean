/-
  MemberOrder: who is joined is the same, in whatever row the events came.
-/
import Derived.Test.YtfbfdkibdjinaaaGreatM9C
namespace Go.Proofs.YtfbfdkibdjinaaaGreat
set_option maxRecDepth 20000
open Go.RowKit
set_option linter.unusedVariables false
set_option linter.unusedSimpArgs false

/-- A dag of some of a list's events. -/
structure PartL (room : ByteArray) (L l : List Ev) : Prop where
  val : Valid room l
  sub : ∀ e ∈ l, e ∈ L
section
variable {room : ByteArray} {L l : List Ev} {e : Ev}
theorem addA_sub (room : ByteArray) (l : List Ev) (e x : Ev) (h : x ∈ l) : x ∈ addA room l e := by
  unfold addA
  split
  · exact List.mem_append.2 (.inl h)
  · exact h
theorem addA_len (room : ByteArray) (l : List Ev) (e : Ev) : (addA room l e).length ≤ l.length + 1 := by
  unfold addA
  split
  · simp
  · omega
theorem PartL.nil (room : ByteArray) (L : List Ev) : PartL room L [] := ⟨valid_nil room, fun e h => by simp at h⟩
theorem PartL.add (h : PartL room L l) (he : e ∈ L) : PartL room L (addA room l e) := by
  refine ⟨valid_add h.val, fun x hx => ?_⟩
  unfold addA at hx
  split at hx
  · rcases List.mem_append.1 hx with hx | hx
    · exact h.sub x hx
    · rw [List.mem_singleton.1 hx]; exact he
  · exact h.sub x hx
theorem err_part (hm : mayE e = true) (hr : e.room = room) : errA room l e = if hasE l e.id then 9 else if e.parents.all (hasE l) = false then 4 else if e.thread = ⟨#[]⟩ then 0 else match idx l e.thread with
    | none => 4
    | some k => match l[k]? with
      | none => 4
      | some t => if t.thread = ⟨#[]⟩ ∧ t.does = 0 then 0 else 7 := by
  unfold errA
  rw [if_neg (by simp [hm, hr])]
  rfl
theorem PartL.err (hL : Valid room L) (h : PartL room L l) (he : e ∈ L) : errA room l e = 0 ∨ errA room l e = 4 ∨ errA room l e = 9 := by
  obtain ⟨i, hi⟩ := List.getElem?_of_mem he
  obtain ⟨hm, hr, hh, hp, ht⟩ := err_zero (hL i e hi)
  rw [err_part hm hr]
  split
  · exact .inr (.inr rfl)
  split
  · exact .inr (.inl rfl)
  split
  · exact .inl rfl
  next ht0 =>
  rcases ht with ht | ⟨t, htm, hti, ht1, ht2⟩
  · exact absurd ht ht0
  cases hx : idx l e.thread with
  | none => exact .inr (.inl rfl)
  | some k =>
    obtain ⟨x, hxk, hxi, -⟩ := idx_some hx
    have hxt : x = t := valid_ids hL (h.sub x (List.mem_of_getElem? hxk)) (List.mem_of_mem_take htm) (hxi.trans hti.symm)
    simp only [hxk]
    rw [hxt, if_pos ⟨ht1, ht2⟩]
    exact .inl rfl
theorem PartL.turn (hL : Valid room L) (h : PartL room L l) {r : Nat} (he : L[r]? = some e) (hp : ∀ x ∈ L.take r, x ∈ l) : e ∈ addA room l e := by
  have hem : e ∈ L := List.mem_of_getElem? he
  obtain ⟨hm, hr, hh, hpar, ht⟩ := err_zero (hL r e he)
  by_cases hhas : hasE l e.id = true
  · obtain ⟨x, hx, hxi⟩ := has_iff.1 hhas
    have hxe : x = e := valid_ids hL (h.sub x hx) hem hxi
    exact addA_sub room l e e (hxe ▸ hx)
  have h0 : errA room l e = 0 := by
    rw [err_part hm hr, if_neg (by simpa using hhas), if_neg (by
      have ha : e.parents.all (hasE l) = true := List.all_eq_true.2 (fun p hpp => by
        obtain ⟨x, hx, hxi⟩ := has_iff.1 (hpar p hpp)
        exact has_iff.2 ⟨x, hp x hx, hxi⟩)
      simp [ha])]
    split
    · rfl
    next ht0 =>
    rcases ht with ht | ⟨t, htm, hti, ht1, ht2⟩
    · exact absurd ht ht0
    obtain ⟨j, hj⟩ := List.getElem?_of_mem (hp t htm)
    have hx := valid_idx h.val hj
    rw [hti] at hx
    simp only [hx, hj]
    rw [if_pos ⟨ht1, ht2⟩]
  unfold addA
  rw [if_pos h0]
  exact List.mem_append.2 (.inr (List.mem_singleton.2 rfl))
end
/-- While events come: all of the dag is new since w, and it has some of the list's events. -/
structure OrS (C : Dags) (w wr : World) (g : Nat) (L l : List Ev) : Prop where
  bd : BdS C w wr g roomR l
  part : PartL roomR L l
section
variable {C : Dags} {w wr w2 : World} {g : Nat} {L l : List Ev} {e : Ev}
theorem OrS.add (h : OrS C w wr g L l) (he : e ∈ L) (hc : C.CD w2 g roomR (addA roomR l e)) (ht : TurnD C.own wr w2 g) : OrS C w w2 g L (addA roomR l e) := ⟨h.bd.turn hc ht, h.part.add he⟩
theorem OrS.later (h : OrS C w wr g L l) (hb : Below wr.heap.size wr w2) : OrS C w w2 g L l := ⟨h.bd.later hb, h.part⟩
end

/-- Two dags of the code, and rows of texts beside them. -/
structure DdS (C : Dags) (w wr : World) (g : Bool → Nat) (l : Bool → List Ev) (ts : List (Value × List ByteArray)) : Prop where
  bd : ∀ b, BdS C w wr (g b) roomR (l b)
  apart : ∀ b c k, b ≠ c → C.own wr (g b) k → ¬ C.own wr (g c) k
  tx : ∀ p ∈ ts, LT.Slice wr p.1 p.2 ∧ ∀ b k, 0 < p.2.length → p.1.ownBlock = some k → ¬ C.own wr (g b) k
section
variable {C : Dags} {w wr w' : World} {g : Bool → Nat} {l : Bool → List Ev} {ts : List (Value × List ByteArray)}
theorem DdS.later (h : DdS C w wr g l ts) (hb : Below wr.heap.size wr w') : DdS C w w' g l ts := by
  have hk := fun b => C.keep (h.bd b).code hb.size (fun k hk => hb.block k (C.old (h.bd b).code hk))
  exact ⟨fun b => (h.bd b).later hb, fun b c k hne h1 h2 => h.apart b c k hne ((hk b).2 k h1) ((hk c).2 k h2), fun p hp => ⟨(h.tx p hp).1.below hb, fun b k h0 hv hh => (h.tx p hp).2 b k h0 hv ((hk b).2 k hh)⟩⟩
theorem DdS.asked (h : DdS C w wr g l ts) (b : Bool) {v : Value} {us : List ByteArray} (hc : C.CD w' (g b) roomR (l b)) (ht : TurnD C.own wr w' (g b)) (hm : LT.Mine w' wr.heap.size v us) (hvt : ToldD C.own w' (g b) v) : DdS C w w' g l ((v, us) :: ts) := by
  have hk : ∀ c, c ≠ b → C.CD w' (g c) roomR (l c) ∧ ∀ k, C.own w' (g c) k → C.own wr (g c) k := fun c hcb => C.keep (h.bd c).code ht.size (fun k hk => ht.block k (C.old (h.bd c).code hk) (h.apart c b k hcb hk))
  refine ⟨fun c => ?_, fun c d k hne h1 h2 => ?_, fun p hp => ?_⟩
  · by_cases hcb : c = b
    · subst hcb
      exact (h.bd c).turn hc ht
    · exact ⟨(hk c hcb).1, (h.bd c).below.trans (ht.below (h.bd b).fresh (h.bd b).below.size), fun k hh => (h.bd c).fresh k ((hk c hcb).2 k hh)⟩
  · by_cases hcb : c = b
    · subst hcb
      have h3 := (hk d (fun e => hne e.symm)).2 k h2
      rcases ht.owns k h1 with hh | hh
      · exact h.apart c d k hne hh h3
      · have := C.old (h.bd d).code h3; omega
    · have h3 := (hk c hcb).2 k h1
      by_cases hdb : d = b
      · subst hdb
        rcases ht.owns k h2 with hh | hh
        · exact h.apart c d k hne h3 hh
        · have := C.old (h.bd c).code h3; omega
      · exact h.apart c d k hne h3 ((hk d hdb).2 k h2)
  · rcases List.mem_cons.1 hp with rfl | hp
    · refine ⟨hm.slice, fun c k _ hvk hh => ?_⟩
      by_cases hcb : c = b
      · subst hcb
        exact hvt k hvk hh
      · have h3 := C.old (h.bd c).code ((hk c hcb).2 k hh)
        have h4 := (hm.lt k hvk).1
        omega
    · obtain ⟨h1, h2⟩ := h.tx p hp
      refine ⟨h1.stay0 ht.size (fun k hk h0 hv => ht.block k hk (h2 b k h0 hv)), fun c k h0 hv hh => ?_⟩
      have hl := h1.foot h0 hv
      by_cases hcb : c = b
      · subst hcb
        rcases ht.owns k hh with h5 | h5
        · exact h2 c k h0 hv h5
        · omega
      · exact h2 c k h0 hv ((hk c hcb).2 k hh)
end

set_option maxHeartbeats 6400000 in
theorem memberOrder_walk (C : Dags) (CA : DagAlls C) (v : Value) (gs : List GV) (w : World) (h : GsS w v gs) :
    Calls Tryz.prog 6 #[v] w fun e w' => e = .returned (.bool true) ∧ Below w.heap.size w w' := by
  have HBU := Lib.hid (build9_any C v gs w h)
  obtain ⟨A0, c0, rfl, -⟩ := id h.1
  clear h
  have HZ := Lib.hid (fun W => lives9_any C CA W)
  go_enter Tryz.func6, Tryz.ntmps6
  go_wp2_with fail
  go_at_call 8
  refine HBU.out.mono ?_
  rintro e w1 ⟨gd, v', xs, rfl, hbt⟩
  obtain ⟨Av, cv, rfl, -, hv2, -⟩ := id hbt.evs.1
  have hv3 : cv ≤ 9223372036854775807 := by unfold maxLen at hv2; omega
  have hxl := hbt.len
  have HVL : Hid (Valid roomR (evs xs)) := Lib.hid (C.valid hbt.bd.code)
  have hb2 := below_new w1 (.cells #[.string roomR, .slice Av xs.length cv] 26)
  have HX2 := Lib.hid (heap_alloc_new w1 (.cells #[.string roomR, .slice Av xs.length cv] 26))
  have HD2 := Lib.hid (hbt.bd.later hb2)
  have HE2 := Lib.hid (hbt.evs.below hb2)
  have HOF2 : Hid (∀ k, footE (.slice Av xs.length cv) xs k → ¬ C.own (w1.alloc (.cells #[.string roomR, .slice Av xs.length cv] 26)) gd k) := Lib.hid (fun k hk ho => hbt.off k hk ((C.keep hbt.bd.code hb2.size (fun k hk => hb2.block k (C.old hbt.bd.code hk))).2 k ho))
  have HOB2 : Hid (¬ C.own (w1.alloc (.cells #[.string roomR, .slice Av xs.length cv] 26)) gd w1.heap.size) := Lib.hid (fun ho => by
    have := C.old hbt.bd.code ((C.keep hbt.bd.code hb2.size (fun k hk => hb2.block k (C.old hbt.bd.code hk))).2 _ ho)
    omega)
  clear hbt hb2 HBU hv2
  go_upto_region 2 with (fail)
  generalize w1.alloc _ = w2 at HX2 HD2 HE2 HOF2 HOB2 ⊢
  generalize w1.heap.size = B4 at HX2 HOB2 ⊢
  have hb4lt := smem_lt HX2.out
  have HK2 : Hid (KpS C w w2 w2 gd (evs xs) [(B4, .cells #[.string roomR, .slice Av xs.length cv] 26 (0, 0))] [] []) := Lib.hid ⟨HD2.out, TurnD.refl _ _, fun q hq => by
    rw [List.mem_singleton.1 hq]
    exact ⟨HX2.out, HOB2.out⟩, fun x hx => (by cases hx), fun p hp => (by cases hp)⟩
  have HEW : Hid (∀ W bs es ts, KpS C w w2 W gd (evs xs) bs es ts → EvsS W (.slice Av xs.length cv) xs ∧ ∀ x ∈ xs, ∀ k, footV x k → ¬ C.own W gd k) := Lib.hid (fun W bs es ts hW => hW.evs HE2.out HOF2.out)
  have hl100 : (evs xs).length ≤ 100 := by rw [evs_len]; omega
  have d0 : w2.cell? ⟨B4, 0, none⟩ = some (.string roomR) := cell_at HX2.out 0
  go_wp2_with fail
  go_at_call 27
  refine (C.new w2 roomR roomR_size roomR_room).mono ?_
  rintro e w3 ⟨ge, rfl, hc, hb3, hf⟩
  have HS : Hid (OrS C w2 w3 ge (evs xs) []) := Lib.hid ⟨⟨hc, hb3, hf⟩, PartL.nil _ _⟩
  clear hc hb3 hf d0 HK2 HEW HOF2 HOB2
  go_wp2_with fail
  go_loopw [6] (fun i wr => ∃ r : Nat, i = .int .i64 (r : Int) ∧ r ≤ 9 ∧ Hid (∃ l, OrS C w2 wr ge (evs xs) l ∧ l.length ≤ 9 * r ∧ ∀ x ∈ (evs xs).take r, x ∈ l)) (fun i _ => 9 - (intOf i).toNat)
  case atStart => exact ⟨0, rfl, Nat.zero_le _, Lib.hid ⟨[], HS.out, by simp, fun x hx => by simp at hx⟩⟩
  case round =>
    obtain ⟨r, rfl, hr9, HL⟩ := hrel
    obtain ⟨w0, hw0⟩ : ∃ w0, w0 = wr := ⟨_, rfl⟩
    subst hw0
    obtain ⟨l, hor, hll, hta⟩ := HL.out
    have HR := Lib.hid hor
    have HTA := Lib.hid hta
    clear HL hor hta HS
    have HBW := Lib.hid ((HR.out.bd.below.block B4 (smem_lt HX2.out)).trans HX2.out)
    have d1 : w0.cell? ⟨B4, 1, none⟩ = some (.slice Av xs.length cv) := cell_at HBW.out 1
    by_cases h1 : r < 9
    · have q1 : decide ((r : Int) < 9) = true := decide_eq_true (by omega)
      have q2 : IntKind.i64.wrap ((xs.length : Int) - 1) = (xs.length : Int) - 1 := IntWalk.i64_in _ (by omega)
      go_wp2_with fail
      go_loopw [7] (fun i wr => ∃ (c : Nat) (z : Int), i = .int .i64 z ∧ z = (c : Int) - 1 ∧ c ≤ xs.length ∧ Hid (∃ l, OrS C w2 wr ge (evs xs) l ∧ l.length ≤ 9 * r + (xs.length - c) ∧ (∀ x ∈ (evs xs).take r, x ∈ l) ∧ (c ≤ r → ∀ x ∈ (evs xs).take (r + 1), x ∈ l))) (fun i _ => (intOf i + 1).toNat)
      case atStart =>
        refine ⟨xs.length, _, rfl, rfl, Nat.le_refl _, Lib.hid ⟨l, HR.out, by omega, HTA.out, fun hc x hx => ?_⟩⟩
        rw [List.take_of_length_le (by rw [evs_len]; omega)] at hx
        exact HTA.out x (by rw [List.take_of_length_le (by rw [evs_len]; omega)]; exact hx)
      case round =>
        obtain ⟨c, z, rfl, hz, hcl, HL⟩ := hrel
        clear HR HTA HBW d1 hll
        obtain ⟨l, hor, hll, hta, htb⟩ := HL.out
        have HR := Lib.hid hor
        have HTA := Lib.hid hta
        have HTB := Lib.hid htb
        clear HL hor hta htb
        have HBW := Lib.hid ((HR.out.bd.below.block B4 (smem_lt HX2.out)).trans HX2.out)
        have d1 : wr.cell? ⟨B4, 1, none⟩ = some (.slice Av xs.length cv) := cell_at HBW.out 1
        by_cases h0 : 0 < c
        · obtain ⟨d, rfl⟩ : ∃ d, c = d + 1 := ⟨c - 1, by omega⟩
          obtain rfl : z = (d : Int) := by omega
          clear hz
          have q3 : decide ((0 : Int) ≤ (d : Int)) = true := decide_eq_true (by omega)
          have hdl : d < xs.length := by omega
          have q4 : IntKind.i64.wrap ((d : Int) - 1) = (d : Int) - 1 := IntWalk.i64_in _ (by omega)
          have hx : xs[d]? = some xs[d] := List.getElem?_eq_getElem hdl
          generalize xs[d] = x at hx
          have HX0 := Lib.hid (HE2.out.2 x (List.mem_of_getElem? hx))
          have HXD : Hid ((evs xs)[d]? = some x.ev) := Lib.hid (evs_get hx)
          have HXM : Hid (x.ev ∈ evs xs) := Lib.hid (List.mem_of_getElem? (evs_get hx))
          obtain ⟨b2, f2, rfl, hb2, hr2⟩ := ev_at HE2.out hx
          have hi2 := index_any (P := Tryz.prog) knV (by decide) (b := b2) (off := f2) (cap := cv) hdl
          simp only [LV] at hi2
          obtain ⟨e0, e1, e2, e3, e4, e5⟩ := ev_cells (w := wr) (fun j u hu => (HR.out.bd.below.cell (p := ⟨b2, f2 + d * 6 + j, none⟩) hb2).trans (hr2 j u hu))
          unfold EvV.pv at e2
          have HAD := Lib.hid (C.add x HR.out.bd.code (by omega) (HX0.out.below HR.out.bd.below))
          have HLA := Lib.hid (addA_len roomR l x.ev)
          have HT1 : Hid (∀ u ∈ (evs xs).take r, u ∈ addA roomR l x.ev) := Lib.hid (fun u hu => addA_sub _ _ _ _ (HTA.out u hu))
          have HT2 : Hid (d ≤ r → ∀ u ∈ (evs xs).take (r + 1), u ∈ addA roomR l x.ev) := Lib.hid (fun hd u hu => by
            by_cases hdr : d = r
            · subst hdr
              rw [List.take_add_one, HXD.out] at hu
              rcases List.mem_append.1 hu with hu | hu
              · exact HT1.out u hu
              · rw [show u = x.ev from by simpa using hu]
                exact HR.out.part.turn HVL.out HXD.out HTA.out
            · exact addA_sub _ _ _ _ (HTB.out (by omega) u hu))
          unfold EvV.val EvV.pv at HAD
          clear hx hr2
          go_wp2_with fail
          go_at_call 28
          refine HAD.out.mono ?_
          rintro e wa ⟨rfl, hca, hta⟩
          have HRA := Lib.hid (HR.out.add HXM.out hca hta)
          clear hca hta HR HAD HBW d1 e0 e1 e2 e3 e4 e5
          go_wp2_with fail
          refine ⟨⟨d, _, by first | rfl | go_num, rfl, by omega, Lib.hid ⟨_, HRA.out, by have := HLA.out; omega, HT1.out, HT2.out⟩⟩, ?_⟩
          simp [intOf]
        · obtain rfl : c = 0 := by omega
          have q3 : decide ((0 : Int) ≤ z) = false := decide_eq_false (by omega)
          clear hz
          go_wp2_with fail
          refine ⟨⟨r + 1, by go_num, by omega, Lib.hid ⟨l, HR.out, by omega, HTB.out (Nat.zero_le _)⟩⟩, ?_⟩
          simp [intOf]; omega
    · have q1 : decide ((r : Int) < 9) = false := decide_eq_false (by omega)
      obtain rfl : r = 9 := by omega
      have hmm : ∀ e, e ∈ l ↔ e ∈ evs xs := fun e => ⟨HR.out.part.sub e, fun hx => HTA.out e (by rw [List.take_of_length_le (by rw [evs_len]; omega)]; exact hx)⟩
      have HUE : Hid (usersL l = usersL (evs xs)) := Lib.hid (usersL_same HR.out.part.val HVL.out hmm)
      have HSE : Hid (serversL l = serversL (evs xs)) := Lib.hid (by unfold serversL; rw [HUE.out])
      have HLL : Hid (l.length ≤ 100) := Lib.hid (by omega)
      have hws := HD2.out.below.size
      have HK : Hid (DdS C w w0 (fun b => cond b ge gd) (fun b => cond b l (evs xs)) []) := Lib.hid (by
        have hdl := HD2.out.later HR.out.bd.below
        have hko := (C.keep HD2.out.code HR.out.bd.below.size (fun k hk => HR.out.bd.below.block k (C.old HD2.out.code hk))).2
        refine ⟨fun b => ?_, fun b c k hne h1 h2 => ?_, fun p hp => (List.not_mem_nil hp).elim⟩
        · cases b
          · exact hdl
          · exact ⟨HR.out.bd.code, hdl.below, fun k hk => Nat.le_trans hws (HR.out.bd.fresh k hk)⟩
        · cases b <;> cases c
          · exact hne rfl
          · have h3 := C.old HD2.out.code (hko k h1)
            have h4 := HR.out.bd.fresh k h2
            omega
          · have h3 := C.old HD2.out.code (hko k h2)
            have h4 := HR.out.bd.fresh k h1
            omega
          · exact hne rfl)
      have HUS : Hid (∀ (b : Bool) W ts, DdS C w W (fun b => cond b ge gd) (fun b => cond b l (evs xs)) ts → Calls Tryz.prog 17 #[.pointer (some ⟨cond b ge gd, 0, none⟩)] W fun e w' => ∃ A c, e = .returned (.slice A (usersL (evs xs)).length c) ∧ DdS C w w' (fun b => cond b ge gd) (fun b => cond b l (evs xs)) ((.slice A (usersL (evs xs)).length c, usersL (evs xs)) :: ts)) := Lib.hid (fun b W ts h => by
        have hlb : (cond b l (evs xs)).length ≤ 100 := by cases b; exact hl100; exact HLL.out
        have heq : usersL (cond b l (evs xs)) = usersL (evs xs) := by cases b; rfl; exact HUE.out
        refine (memUsers_any C CA (h.bd b).code hlb).mono ?_
        rintro e w' ⟨v, rfl, m, t, hc, ht⟩
        have h' := h.asked b hc ht m t
        obtain ⟨A, c, rfl, -⟩ := id m.shape
        have heq' := heq
        generalize usersL (cond b l (evs xs)) = us at heq' h'
        subst heq'
        exact ⟨A, c, rfl, h'⟩)
      have HUSx := Lib.hid (fun W ts h => HUS.out false W ts h)
      have HUSy := Lib.hid (fun W ts h => HUS.out true W ts h)
      simp only [cond_true, cond_false] at HUSx HUSy
      have HSV : Hid (∀ (b : Bool) W ts, DdS C w W (fun b => cond b ge gd) (fun b => cond b l (evs xs)) ts → Calls Tryz.prog 24 #[.pointer (some ⟨cond b ge gd, 0, none⟩)] W fun e w' => ∃ A c, e = .returned (.slice A (serversL (evs xs)).length c) ∧ DdS C w w' (fun b => cond b ge gd) (fun b => cond b l (evs xs)) ((.slice A (serversL (evs xs)).length c, serversL (evs xs)) :: ts)) := Lib.hid (fun b W ts h => by
        have hlb : (cond b l (evs xs)).length ≤ 100 := by cases b; exact hl100; exact HLL.out
        have heq : serversL (cond b l (evs xs)) = serversL (evs xs) := by cases b; rfl; exact HSE.out
        refine (memServers_any C CA (h.bd b).code hlb).mono ?_
        rintro e w' ⟨v, rfl, m, t, hc, ht⟩
        have h' := h.asked b hc ht m t
        obtain ⟨A, c, rfl, -⟩ := id m.shape
        have heq' := heq
        generalize serversL (cond b l (evs xs)) = us at heq' h'
        subst heq'
        exact ⟨A, c, rfl, h'⟩)
      have HSVx := Lib.hid (fun W ts h => HSV.out false W ts h)
      have HSVy := Lib.hid (fun W ts h => HSV.out true W ts h)
      simp only [cond_true, cond_false] at HSVx HSVy
      have HST : Hid (∀ W ts v v' us, DdS C w W (fun b => cond b ge gd) (fun b => cond b l (evs xs)) ts → (v, us) ∈ ts → (v', us) ∈ ts → Calls Tryz.prog 16 #[v, v'] W fun e w' => e = .returned (.bool true) ∧ DdS C w w' (fun b => cond b ge gd) (fun b => cond b l (evs xs)) ts) := Lib.hid (fun W ts v v' us h hm hm' => by
        refine (sameTexts_any v v' us us W (h.tx _ hm).1 (h.tx _ hm').1).mono ?_
        rintro e w' ⟨rfl, dd, rfl⟩
        exact ⟨by rw [decide_eq_true rfl], h.later ⟨rfl, rfl, rfl, Nat.le_refl _, fun _ _ => rfl⟩⟩)
      clear HR HBW d1 HD2 HX2 HE2 HTA hmm HUE HSE HUS HSV
      have HQ := Lib.hid (HUSx.out _ _ HK.out)
      go_wp2_with fail
      go_at_call 17
      refine HQ.out.mono ?_
      rintro e wa ⟨A1, c1, rfl, hk⟩
      have HK1 := Lib.hid hk
      clear hk HQ HK
      have HQ := Lib.hid (HUSy.out _ _ HK1.out)
      go_wp2_with fail
      go_at_call 17
      refine HQ.out.mono ?_
      rintro e wb ⟨A2, c2, rfl, hk⟩
      have HK2 := Lib.hid hk
      clear hk HQ HK1
      have HQ := Lib.hid (HST.out _ _ _ _ _ HK2.out (List.mem_cons_of_mem _ List.mem_cons_self) List.mem_cons_self)
      go_wp2_with fail
      go_at_call 16
      refine HQ.out.mono ?_
      rintro e wc ⟨rfl, hk⟩
      have HK3 := Lib.hid hk
      clear hk HQ HK2
      have HQ := Lib.hid (HSVx.out _ _ HK3.out)
      go_wp2_with fail
      go_at_call 24
      refine HQ.out.mono ?_
      rintro e wd ⟨A3, c3, rfl, hk⟩
      have HK4 := Lib.hid hk
      clear hk HQ HK3
      have HQ := Lib.hid (HSVy.out _ _ HK4.out)
      go_wp2_with fail
      go_at_call 24
      refine HQ.out.mono ?_
      rintro e we ⟨A4, c4, rfl, hk⟩
      have HK5 := Lib.hid hk
      clear hk HQ HK4
      have HQ := Lib.hid (HST.out _ _ _ _ _ HK5.out (List.mem_cons_of_mem _ List.mem_cons_self) List.mem_cons_self)
      go_wp2_with fail
      go_at_call 16
      refine HQ.out.mono ?_
      rintro e wf ⟨rfl, hk⟩
      have HK6 := Lib.hid hk
      clear hk HQ HK5
      go_wp2_with fail
      go_at_call 19
      refine (HZ.out _).mono ?_
      rintro e wg ⟨rfl, hbb⟩
      have HDB := Lib.hid ((HK6.out.later hbb).bd true).below
      go_wp2_with fail
      go_ret
      exact ⟨rfl, HDB.out⟩
end Go.Proofs.YtfbfdkibdjinaaaGreat
