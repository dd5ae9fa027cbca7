/-
  Behind: all that an event is ahead of.
-/
import Derived.Test.YtfbfdkibdjinaaaGreatDoorI8D
import Derived.BigQuiet
namespace Go.Proofs.YtfbfdkibdjinaaaGreatDoor
set_option maxRecDepth 20000
open Go.RowKit Go.Maps Go.ChangeMaps
set_option linter.unusedVariables false
set_option linter.unusedSimpArgs false

noncomputable def behindL (l : List Ev) (a : ByteArray) : List ByteArray := ((allL l).filter (fun f => aheadB l a f.id)).map Ev.id
theorem filter_map_id (p : ByteArray → Bool) : ∀ s : List Ev, (s.filter (fun f => p f.id)).map Ev.id = (s.map Ev.id).filter p
  | [] => rfl
  | x :: r => by
    rw [List.map_cons, List.filter_cons, List.filter_cons]
    cases p x.id <;> simp [filter_map_id p r]
theorem behind_none {room : ByteArray} {l : List Ev} (hv : Valid room l) {a : ByteArray} (h : hasE l a = false) : behindL l a = [] := by
  unfold behindL
  rw [List.map_eq_nil_iff, List.filter_eq_nil_iff]
  intro f _ hh
  rw [(aheadB_iff.1 hh).first hv] at h
  cases h
theorem behind_rest {room : ByteArray} {l : List Ev} (hv : Valid room l) {j : Nat} {e : Ev} (he : (allL l)[j]? = some e) : behindL l e.id = (((allL l).map Ev.id).drop (j + 1)).filter (aheadB l e.id) := by
  unfold behindL
  rw [filter_map_id]
  conv => lhs; rw [← List.take_append_drop (j + 1) ((allL l).map Ev.id)]
  rw [List.filter_append]
  have h0 : (((allL l).map Ev.id).take (j + 1)).filter (aheadB l e.id) = [] := by
    rw [List.filter_eq_nil_iff]
    intro b hb hh
    obtain ⟨i, hi⟩ := List.getElem?_of_mem hb
    rw [List.getElem?_take] at hi
    split at hi
    · rename_i hij
      rw [List.getElem?_map] at hi
      cases hf : (allL l)[i]? with
      | none => rw [hf] at hi; cases hi
      | some f =>
        rw [hf] at hi
        injection hi with hi
        subst hi
        have hd := (aheadB_iff.1 hh).less hv
        by_cases hij2 : i = j
        · subst hij2
          rw [he] at hf
          injection hf with hf
          subst hf
          omega
        · have hr := allL_row hv
          obtain ⟨h1, h2⟩ := List.getElem?_eq_some_iff.1 hf
          obtain ⟨h3, h4⟩ := List.getElem?_eq_some_iff.1 he
          have hb2 := List.pairwise_iff_getElem.1 hr.1 i j h1 h3 (by omega)
          rw [h2, h4, pos_iff] at hb2
          simp only [posL] at hb2
          omega
    · cases hi
  rw [h0, List.nil_append]
def filTo (p : ByteArray → Bool) (R : List ByteArray) (n : Nat) : List ByteArray := (R.take n).filter p
theorem filTo_succ {p : ByteArray → Bool} {R : List ByteArray} {n : Nat} {x : ByteArray} (h : R[n]? = some x) : filTo p R (n + 1) = filTo p R n ++ (if p x = true then [x] else []) := by
  unfold filTo
  rw [List.take_add_one, h, List.filter_append]
  cases hp : p x <;> simp [List.filter_cons, hp]
theorem filTo_len (p : ByteArray → Bool) (R : List ByteArray) (n : Nat) : (filTo p R n).length ≤ n := by
  unfold filTo
  have h1 := List.length_filter_le p (R.take n)
  rw [List.length_take] at h1
  omega

set_option maxHeartbeats 3200000 in
theorem behind_any {P : Nat → Prop} {g : Nat} {l : List Ev} (w : World) (h : CX w g l P) (a : ByteArray) (ha : a.size ≤ maxLen) :
    Calls Tryz.prog 21 #[.pointer (some ⟨g, 0, none⟩), .string a] w fun e w' => ∃ v, e = .returned v ∧ LT.Mine w' w.heap.size v (behindL l a) ∧ AskV w w' g l P v := by
  have HK := Lib.hid (known_any w h)
  obtain ⟨room, hv⟩ := h.val
  have hl := h.len
  have HV := Lib.hid hv
  clear h hv
  have hfd := field_past
  go_enter Tryz.func21, Tryz.ntmps21
  go_wp2_with fail
  go_at_call 31
  refine HK.out.mono ?_
  rintro e w1 ⟨P', vr, mb, qs, rfl, hN, hI, hC, hT, hP⟩
  have HN := Lib.hid hN
  have HA : Hid (∀ w2 v, Below w1.heap.size w1 w2 → (∀ k, v.ownBlock = some k → w1.heap.size ≤ k) → AskV w w2 g l P v) := Lib.hid (fun w2 v hb hv => ⟨P', hC.below hb, hT.trans (.of_below hb) hP, hP, fun k hk e => by
    have h1 := hC.old k e
    have h2 := hv k hk
    omega⟩)
  have hsz1 := hT.size
  have hl1 := hN.map.look2 ha
  clear hN hI hC hT hP HK
  cases hh : hasE l a with
  | false =>
    have HR := Lib.hid (behind_none HV.out hh)
    rw [IxN.none_ HV.out hh] at hl1
    rw [Option.getD_none, zeroV_val] at hl1
    simp only [Option.isSome_none] at hl1
    go_wp2_with fail
    go_ret
    exact ⟨_, rfl, by rw [HR.out]; exact Lies.Mine.nil _ _, HA.out _ _ (below_new _ _) (fun k hk => by cases hk)⟩
  | true =>
    obtain ⟨j, e, q, he, hid, hf, hq, hm⟩ := HN.out.some_ HV.out hh
    have HBR := Lib.hid (behind_rest HV.out he)
    rw [hid] at HBR
    have HBT : Hid (∀ b, ((fQ (allL l) qs b).getD zeroV).p.word.testBit j = aheadB l a b) := Lib.hid (fun b => by rw [HN.out.bit HV.out he b, hid])
    have HZA : Hid (∀ b, ((fQ (allL l) qs b).getD zeroV).at w1) := Lib.hid (fun b => HN.out.at_ HV.out hl b)
    have hjl : j < l.length := by
      have := (List.getElem?_eq_some_iff.1 he).1
      rw [allL_len] at this
      exact this
    have HSM := Lib.hid (ids_small HV.out)
    rw [hf] at hl1
    simp only [Option.getD_some, Option.isSome_some] at hl1
    have hqp : q.p.place = j := by rw [hq]; rfl
    unfold PsV.val PsV.sv at hl1
    rw [hqp] at hl1
    generalize q.p.ws.length = nz at hl1
    have HB2 := Lib.hid (below_new w1 (.cells #[.int .i64 (j : Int), .slice q.A nz q.c] 79))
    have HX2 := Lib.hid (heap_alloc_new w1 (.cells #[.int .i64 (j : Int), .slice q.A nz q.c] 79))
    clear hf hq hm hid he hh hqp
    go_upto_region 6 with (fail)
    clear hl1
    generalize w1.alloc _ = w2 at HB2 HX2 ⊢
    have HN2 := Lib.hid (HN.out.below HB2.out)
    have HZ2 : Hid (∀ b, ((fQ (allL l) qs b).getD zeroV).at w2) := Lib.hid (fun b => (HZA.out b).below HB2.out)
    generalize w1.heap.size = B8 at HX2 ⊢
    obtain ⟨Ar, cr, hvr, hr1, hr2, -⟩ := HN2.out.row.slice
    have hlen : ((allL l).map Ev.id).length = l.length := by rw [List.length_map, allL_len]
    have hrow : LT.Mine w2 0 (.slice Ar ((allL l).map Ev.id).length cr) ((allL l).map Ev.id) := by rw [← hvr]; exact HN2.out.row
    have hcr : cr ≤ 9223372036854775807 := by unfold maxLen at hr2; omega
    have M2 := (hrow.sub (j + 1) ((allL l).map Ev.id).length (by omega) (Nat.le_refl _)).slice
    rw [List.take_length] at M2
    have hs2 := slice_low (P := Tryz.prog) knT Ar ((allL l).map Ev.id).length cr (j + 1) (by omega)
    rw [hlen] at hs2 M2 hvr
    have hrl : (((allL l).map Ev.id).drop (j + 1)).length = l.length - (j + 1) := by rw [List.length_drop, hlen]
    have HRL : Hid (((((allL l).map Ev.id).drop (j + 1))).length ≤ 9) := Lib.hid (by rw [List.length_drop, hlen]; omega)
    have HRS : Hid (∀ b ∈ ((allL l).map Ev.id).drop (j + 1), b.size ≤ 281474976710656) := Lib.hid (fun b hb => by
      obtain ⟨e, he, rfl⟩ := List.mem_map.1 (List.mem_of_mem_drop hb)
      exact HSM.out e he)
    generalize ((allL l).map Ev.id).drop (j + 1) = R at M2 hrl HBR HRL HRS
    obtain ⟨A3, c3, hsl, hq1, hq2, -⟩ := id M2
    rw [hsl] at hs2 M2
    have hrn : R.length ≤ 9 := HRL.out
    have hc3 : c3 ≤ 9223372036854775807 := by unfold maxLen at hq2; omega
    rw [show (((j + 1 : Nat) : Int)) = (j : Int) + 1 from by omega] at hs2
    have HM2 := Lib.hid M2
    clear hrow M2 hrl hlen hr1 hr2 hq1 hq2
    have g0 : w2.cell? ⟨g, 0, none⟩ = some vr := cell_at HN2.out.hd 0
    rw [hvr] at g0
    have p0 : w2.cell? ⟨B8, 0, none⟩ = some (.int .i64 (j : Int)) := cell_at HX2.out 0
    go_quiet (fail)
    have hb3 : Below w2.heap.size w2 (w2.drewN nq) := ((Gr.refl _).drewN nq).below
    have HB3 := Lib.hid (HB2.out.trans (hb3.mono HB2.out.size))
    have HX3 := Lib.hid ((hb3.block B8 (smem_lt HX2.out)).trans HX2.out)
    have HN3 := Lib.hid (HN2.out.below hb3)
    have HZ3 : Hid (∀ b, ((fQ (allL l) qs b).getD zeroV).at (w2.drewN nq)) := Lib.hid (fun b => (HZ2.out b).below hb3)
    have HM3 := Lib.hid (HM2.out.below hb3)
    clear hb3 g0 p0 hs2 HB2 HX2 HN2 HZ2 HM2
    generalize World.drewN _ _ = w3 at HB3 HX3 HN3 HZ3 HM3 ⊢
    go_wp2_with fail
    go_loopw [8, 30] (fun u i wr => ∃ (c : Nat) (ts : List ByteArray) (Ao : Option Addr) (co : Nat), u = .slice Ao ts.length co ∧ i = .int .i64 (c : Int) ∧ c ≤ R.length ∧ ts.length ≤ c ∧ Hid (HdS w3 wr u ts) ∧ Hid (ts = filTo (aheadB l a) R c)) (fun _ i _ => R.length - (intOf i).toNat)
    case atStart => exact ⟨0, [], none, 0, rfl, rfl, Nat.zero_le _, Nat.le_refl _, Lib.hid ⟨Below.refl _ _, .inl ⟨rfl, rfl⟩⟩, Lib.hid rfl⟩
    case round =>
      obtain ⟨c, ts, Ao, co, rfl, rfl, hc, htc, HO, HT⟩ := hrel
      by_cases hcx : c < R.length
      · have q1 : decide ((c : Int) < (R.length : Int)) = true := decide_eq_true (by omega)
        have hx : R[c]? = some R[c] := List.getElem?_eq_getElem hcx
        generalize R[c] = x at hx
        have HTS := Lib.hid (filTo_succ (p := aheadB l a) hx)
        have HXS := Lib.hid (HRS.out x (List.mem_of_getElem? hx))
        obtain ⟨bo, oo, rfl, hbo, hco⟩ := text_at HM3.out hx
        have hiy := index_any (P := Tryz.prog) knT (by decide) (b := bo) (off := oo) (cap := c3) hcx
        simp only [LT] at hiy
        rw [Nat.mul_one] at hiy
        have e4 : wr.cell? ⟨bo, oo + c, none⟩ = some (.string x) := (HO.out.below.cell (p := ⟨bo, oo + c, none⟩) hbo).trans hco
        have p0 : wr.cell? ⟨B8, 0, none⟩ = some (.int .i64 (j : Int)) := cell_at ((HO.out.below.block B8 (smem_lt HX3.out)).trans HX3.out) 0
        have hxm : x.size ≤ maxLen := by have := HXS.out; unfold maxLen; omega
        have hl2 := (HN3.out.below HO.out.below).map.look hxm
        have HZW := Lib.hid ((HZ3.out x).below HO.out.below)
        have HBX := HBT.out x
        generalize (fQ (allL l) qs x).getD zeroV = z at hl2 HZW HBX
        unfold PsV.val PsV.sv at hl2
        have HH := Lib.hid (has_any z j wr HZW.out (by omega))
        rw [HBX] at HH
        generalize aheadB l a x = ab at HH HTS
        clear hx hco HBX
        go_wp2_with fail
        go_at_call 32
        refine HH.out.mono ?_
        rintro e wq ⟨rfl, rfl⟩
        cases ab with
        | false =>
          go_wp2_with fail
          refine ⟨⟨c + 1, ts, Ao, co, rfl, by go_num, by omega, by omega, HO, Lib.hid (by rw [HTS.out, ← HT.out]; simp)⟩, ?_⟩
          simp [intOf]; omega
        | true =>
          have HCL := Lib.hid (clone_any x wq HXS.out)
          clear HH hl2 p0
          go_wp2_with fail
          go_at_call 37
          refine HCL.out.mono ?_
          rintro e w4 ⟨rfl, b4⟩
          have HO4 := Lib.hid (HO.out.on b4)
          clear b4 HO HCL e4
          have hlit1 := Lib.hid (show LT.Slice (w4.alloc (.cells #[.string x] 9)) (.slice (some ⟨w4.heap.size, 0, none⟩) 1 1) [x] from lit_slice (L := LT) w4 x w4.heap.size rfl #[.string x] rfl)
          have hb1 := below_new w4 (.cells #[.string x] 9)
          have HA1 := Lib.hid (HO4.out.on hb1)
          have hs1 : w3.heap.size ≤ (w4.alloc (.cells #[.string x] 9)).heap.size := HA1.out.below.size
          clear hb1
          go_wp2_with (at_builtin; refine wpList_puts rfl knT (.tmp 41) (.tmp 44) 39 rfl (v := .slice Ao ts.length co) rfl HA1.out.row hs1 (.slice (some ⟨w4.heap.size, 0, none⟩) 1 1) [x] 1 rfl rfl (hlit1.out.srcN knT rfl) (by omega) ?_; intro A1 c1 w5 m1 g1 o1; have H1 : Hid (HdS w3 w5 (.slice A1 (ts.length + 1) c1) (ts ++ [x])) := Lib.hid ⟨HA1.out.below.grown g1 hs1 (fun k hk => (HA1.out.row.lt k hk).1), m1⟩; clear m1 g1 o1)
          refine ⟨⟨c + 1, ts ++ [x], A1, c1, by rw [List.length_append]; rfl, by go_num, by omega, by rw [List.length_append]; simp only [List.length_cons, List.length_nil]; omega, H1, Lib.hid (by rw [HTS.out, ← HT.out]; simp)⟩, ?_⟩
          simp [intOf]; omega
      · have q1 : decide ((c : Int) < (R.length : Int)) = false := decide_eq_false (by omega)
        obtain rfl : c = R.length := by omega
        have HF : Hid (ts = behindL l a) := Lib.hid (by rw [HT.out, HBR.out, filTo, List.take_length])
        go_wp2_with fail
        go_ret
        exact ⟨_, rfl, by rw [← HF.out]; exact HO.out.row.mono (by have := HB3.out.size; omega), HA.out _ _ (HB3.out.trans (HO.out.below.mono HB3.out.size)) (fun k hk => by have h1 := (HO.out.row.lt k hk).1; have h2 := HB3.out.size; omega)⟩
end Go.Proofs.YtfbfdkibdjinaaaGreatDoor
