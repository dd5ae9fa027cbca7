/-
  Package receipt: Merge.
-/
import Derived.Test.YtmialpaldkpmbaaRcH
namespace Go.Proofs.Ytmialpaldkpmbaa
set_option maxRecDepth 20000
open Go.RowKit Go.Maps Go.ChangeMaps
set_option linter.unusedVariables false
set_option linter.unusedSimpArgs false
theorem TurnP.trans {P : Nat → Prop} {w w' w'' : World} (h : TurnP P w w') (h' : TurnP P w' w'') : TurnP P w w'' :=
  ⟨h'.os.trans h.os, h'.tape.trans h.tape, h'.output.trans h.output, Nat.le_trans h.size h'.size, fun k hk hn => (h'.block k (Nat.lt_of_lt_of_le hk h.size) hn).trans (h.block k hk hn)⟩
theorem TurnP.of {P : Nat → Prop} {w w' : World} (h : Below w.heap.size w w') : TurnP P w w' := ⟨h.os, h.tape, h.output, h.size, fun k hk _ => h.block k hk⟩
/-- While marks are put: the table, those that are to come. -/
structure MeS (w wr : World) (r r' : RI) (v : Value) (us : List Mk) (ms : List Mk) : Prop where
  g : r'.g = r.g
  mb : r'.mb = r.mb
  l : r'.l = foldM r.l ms
  ct : CRs wr r'
  turn : TurnP r.own w wr
  row : LR.Slice wr v us
  new : ∀ k, v.ownBlock = some k → ¬ r.own k
section
variable {w wr w2 : World} {r r' : RI} {v : Value} {us ms : List Mk} {x : Mk}
theorem MeS.on (h : MeS w wr r r' v us ms) (hb : Below wr.heap.size wr w2) : MeS w w2 r r' v us ms :=
  ⟨h.g, h.mb, h.l, h.ct.below hb, h.turn.trans (TurnP.of hb), h.row.below hb, h.new⟩
theorem MeS.put (h : MeS w wr r r' v us ms) (hp : PutP wr w2 r' x) : ∃ r2, MeS w w2 r r2 v us (ms ++ [x]) := by
  obtain ⟨r2, e1, e2, e3, hc, ht⟩ := hp
  have hown : ∀ k, r'.own k ↔ r.own k := fun k => by unfold RI.own; rw [h.g, h.mb]
  have ht' : TurnP r.own wr w2 := ⟨ht.os, ht.tape, ht.output, ht.size, fun k hk hn => ht.block k hk (fun e => hn ((hown k).1 e))⟩
  exact ⟨r2, e1.trans h.g, e2.trans h.mb, by rw [e3, h.l, fold_snocM], hc, h.turn.trans ht', h.row.stay ht.size (fun k hk hv => ht'.block k hk (h.new k hv)), h.new⟩
end
/-- What Merge does. -/
def MergeP (w w' : World) (r : RI) (us : List Mk) : Prop := ∃ r' : RI, r'.g = r.g ∧ r'.mb = r.mb ∧ r'.l = foldM r.l us ∧ CRs w' r' ∧ TurnP r.own w w'

set_option maxHeartbeats 1600000 in
theorem rcMerge_any {w : World} {r u : RI} (h : CRs w r) (hu : CRs w u) (hl : r.l.length ≤ 1000) (hul : u.l.length ≤ 1000) :
    Calls Try.prog 26 #[.pointer (some ⟨r.g, 0, none⟩), .pointer (some ⟨u.g, 0, none⟩)] w fun e w' => e = .returned (.int .i64 (cntM r.l u.l : Int)) ∧ MergeP w w' r u.l := by
  have HQ := Lib.hid (rcAll_any hu hul)
  have HOK := Lib.hid hu.ok
  have HH := Lib.hid h
  have HL := Lib.hid hl
  clear h hu hl
  go_enter Try.func26, Try.ntmps26
  go_wp2_with fail
  go_at_call 11
  refine HQ.out.mono ?_
  rintro e w1 ⟨v, rfl, hm, hb⟩
  have HS : Hid (MeS w w1 r r v u.l (u.l.take 0)) := Lib.hid ⟨rfl, rfl, rfl, HH.out.below hb, TurnP.of hb, hm.slice, fun k hk ho => by have := (hm.lt k hk).1; have := HH.out.old ho; omega⟩
  obtain ⟨A, c, rfl, h1, h2, -⟩ := hm.shape
  unfold maxLen at h2
  clear hm hb HQ
  go_wp2_with fail
  go_loopw [11, 5, 7] (fun i n _ wr => ∃ (a : Nat) (r' : RI), i = .int .i64 (a : Int) ∧ n = .int .i64 (cntM r.l (u.l.take a) : Int) ∧ a ≤ u.l.length ∧ Hid (MeS w wr r r' (.slice A u.l.length c) u.l (u.l.take a))) (fun i _ _ _ => u.l.length - (intOf i).toNat)
  case atStart => exact ⟨0, r, rfl, by rw [List.take_zero]; rfl, Nat.zero_le _, HS⟩
  case round =>
    obtain ⟨a, r', rfl, rfl, ha, HA⟩ := hrel
    clear HS
    have hcn := cnt_leM (u.l.take a) r.l
    rw [List.length_take, Nat.min_eq_left ha] at hcn
    by_cases hax : a < u.l.length
    · have q1 : decide ((a : Int) < (u.l.length : Int)) = true := decide_eq_true (by omega)
      have hx : u.l[a]? = some u.l[a] := List.getElem?_eq_getElem hax
      have HTK : Hid (u.l.take a ++ [u.l[a]] = u.l.take (a + 1)) := Lib.hid (by rw [List.take_add_one, hx]; rfl)
      generalize u.l[a] = x at hx HTK
      have HXO := Lib.hid (HOK.out x (List.mem_of_getElem? hx))
      obtain ⟨bo, oo, rfl, hbo, hco⟩ := HA.out.row.at hx
      have hiy := index_any (P := Try.prog) knR (by decide) (b := bo) (off := oo) (cap := c) hax
      simp only [LR] at hiy hco
      obtain ⟨a0, a1, a2, a3, a4, a5⟩ := range6 hco
      have hnw := Lib.hid (heap_alloc_new wr (.cells #[.string x.k.room, .string x.k.user, .string x.k.thread, .bool x.k.priv, .int .i64 x.po.depth, .string x.po.id] 60))
      have HA1 := Lib.hid (HA.out.on (below_new wr (.cells #[.string x.k.room, .string x.k.user, .string x.k.thread, .bool x.k.priv, .int .i64 x.po.depth, .string x.po.id] 60)))
      have hlen : r'.l.length ≤ 1000000 := by
        have h3 := HA.out.l
        have h4 := fold_leM (u.l.take a) r.l
        rw [← h3, List.length_take, Nat.min_eq_left ha] at h4
        have := HL.out
        omega
      have HL' := Lib.hid hlen
      have HC1 := Lib.hid (cnt_snocM (u.l.take a) r.l x)
      rw [HTK.out] at HC1
      have HON : Hid (onM (foldM r.l (u.l.take a)) x = onM r'.l x) := Lib.hid (by rw [HA.out.l])
      clear hx hco hlen
      go_upto_region 5 with (fail)
      clear a0 a1 a2 a3 a4 a5 hiy
      generalize World.alloc _ _ = w2 at hnw HA1 ⊢
      generalize wr.heap.size = B7 at hnw ⊢
      have a0 : w2.cell? ⟨B7, 0, none⟩ = some (.string x.k.room) := cell_at hnw.out 0
      have a1 : w2.cell? ⟨B7, 1, none⟩ = some (.string x.k.user) := cell_at hnw.out 1
      have a2 : w2.cell? ⟨B7, 2, none⟩ = some (.string x.k.thread) := cell_at hnw.out 2
      have a3 : w2.cell? ⟨B7, 3, none⟩ = some (.bool x.k.priv) := cell_at hnw.out 3
      have a4 : w2.cell? ⟨B7, 4, none⟩ = some (.int .i64 x.po.depth) := cell_at hnw.out 4
      have a5 : w2.cell? ⟨B7, 5, none⟩ = some (.string x.po.id) := cell_at hnw.out 5
      have HPT := Lib.hid (rcPut_any HA1.out.ct HL'.out x.k x.po HXO.out)
      rw [HA.out.g] at HPT
      unfold Rk.val Po.val at HPT
      go_wp2_with fail
      go_at_call 22
      refine HPT.out.mono ?_
      rintro e w3 ⟨rfl, hp3⟩
      obtain ⟨r3, hm3⟩ := HA1.out.put hp3
      rw [show (⟨x.k, x.po⟩ : Mk) = x from rfl, HTK.out] at hm3
      have HM3 := Lib.hid hm3
      rw [HON.out] at HC1
      clear hp3 hm3 HPT HA HA1 a0 a1 a2 a3 a4 a5 hnw HON
      generalize onM r'.l x = on at HC1
      cases on
      · have HC2 : Hid (cntM r.l (u.l.take a) = cntM r.l (u.l.take (a + 1))) := Lib.hid (by rw [HC1.out]; rfl)
        clear HC1
        go_wp2_with fail
        refine ⟨⟨a + 1, r3, by go_num, by rw [HC2.out], by omega, HM3⟩, ?_⟩
        simp [intOf]; omega
      · have HC2 : Hid (cntM r.l (u.l.take a) + 1 = cntM r.l (u.l.take (a + 1))) := Lib.hid (by rw [HC1.out]; rfl)
        clear HC1
        go_wp2_with fail
        refine ⟨⟨a + 1, r3, by go_num, ?_, by omega, HM3⟩, ?_⟩
        · rw [← HC2.out]
          go_num
        · simp [intOf]; omega
    · have q1 : decide ((a : Int) < (u.l.length : Int)) = false := decide_eq_false (by omega)
      obtain rfl : a = u.l.length := by omega
      rw [List.take_length] at *
      go_wp2_with fail
      go_ret
      exact ⟨rfl, r', HA.out.g, HA.out.mb, HA.out.l, HA.out.ct, HA.out.turn⟩
end Go.Proofs.Ytmialpaldkpmbaa
