/-
  The law's fill: a table of marks, of both.
-/
import Derived.Test.YtmialpaldkpmbaaRcN
namespace Go.Proofs.Ytmialpaldkpmbaa
set_option maxRecDepth 20000
open Go.RowKit Go.Maps Go.ChangeMaps
set_option linter.unusedVariables false
set_option linter.unusedSimpArgs false
section
variable {w w' wr : World} {rs : List RI} {ts : List Th} {r : RI} {t : Th}
/-- What a call has made stands beside what is kept. -/
theorem Kt.join (h : Kt w wr rs ts) (h' : Kt wr w' [r] [t]) (hP : ∀ k, t.P k → wr.heap.size ≤ k) : Kt w w' (rs ++ [r]) (t :: ts) := by
  have h0 : [r][0]? = some r := rfl
  have hm := h.made h'.below (h'.ct h0) (h'.tb 0 r h0).2
  refine hm.with (h'.is List.mem_cons_self) (fun k hk j u hu ho => ?_)
  by_cases hj : j < rs.length
  · rw [List.getElem?_append_left hj] at hu
    have h1 := hP k hk
    have h2 := (h.ct hu).old ho
    omega
  · have hl := (List.getElem?_eq_some_iff.1 hu).1
    simp only [List.length_append, List.length_cons, List.length_nil] at hl
    obtain rfl : j = rs.length := by omega
    simp only [List.getElem?_concat_length, Option.some.injEq] at hu
    subst hu
    exact (h'.th t List.mem_cons_self).2 0 r h0 k hk ho
/-- A mark is put into a table that is kept. -/
theorem Kt.putP {x : Mk} (h : Kt w wr rs ts) {i : Nat} (hi : rs[i]? = some r) (hp : PutP wr w' r x) : ∃ r' : RI, r'.g = r.g ∧ r'.mb = r.mb ∧ r'.l = putM r.l x ∧ Kt w w' (rs.set i r') ts := by
  obtain ⟨r', e1, e2, e3, hc, ht⟩ := hp
  exact ⟨r', e1, e2, e3, h.turn hi hc ht ⟨e1, e2⟩⟩
theorem Kt.mergeP {us : List Mk} (h : Kt w wr rs ts) {i : Nat} (hi : rs[i]? = some r) (hp : MergeP wr w' r us) : ∃ r' : RI, r'.g = r.g ∧ r'.mb = r.mb ∧ r'.l = foldM r.l us ∧ Kt w w' (rs.set i r') ts := by
  obtain ⟨r', e1, e2, e3, hc, ht⟩ := hp
  exact ⟨r', e1, e2, e3, h.turn hi hc ht ⟨e1, e2⟩⟩
end
/-- A box of one's own is written. -/
theorem Kt.rebox {w w' wr : World} {rs : List RI} {ts : List Th} {B : Nat} {o o' : Obj} (h : Kt w wr rs (Th.box B o :: ts)) (hb : w'.heap[B]? = some o') (hg : wr.grownBy w' (some B)) (hlo : w.heap.size ≤ B) (hn : ∀ t ∈ ts, ¬ t.P B) : Kt w w' rs (Th.box B o' :: ts) :=
  h.put hg (fun k hk => by
    injection hk with hk
    subst hk
    exact ⟨rfl, hlo, hn⟩) (t' := Th.box B o') hb (fun k hk => .inl hk)
/-- The document's Put, beside what is kept. -/
theorem Kt.putL {w w' wr : World} {rs : List RI} {ts : List Th} {v v' : Value} {l : List Mk} {x : Mk} (h : Kt w wr rs (Th.row LM v l :: ts)) (hb : Below wr.heap.size wr w') (hp : PutL wr w' v v' l x) : Kt w w' rs (Th.row LM v' (putM l x) :: Th.row LM v l :: ts) := by
  rcases hp with ⟨rfl, ho⟩ | hm
  · rw [putM_off ho]
    exact h.add hb (t := Th.row LM v' l) ((h.is List.mem_cons_self : LM.Slice wr v' l).below hb) (fun k hk => .inr ⟨_, List.mem_cons_self, hk⟩)
  · exact h.add hb (t := Th.row LM v' (putM l x)) hm.slice (fun k hk => .inl (hm.lt k hk.2).1)
/-- What a list's slice is, where it has elements: new. -/
def NewV (w : World) (v : Value) (l : List Mk) : Prop := ∀ k, 0 < l.length → v.ownBlock = some k → w.heap.size ≤ k
theorem NewV.put {w wr w' : World} {v v' : Value} {l : List Mk} {x : Mk} (h : NewV w v l) (hs : w.heap.size ≤ wr.heap.size) (hp : PutL wr w' v v' l x) : NewV w v' (putM l x) := by
  rcases hp with ⟨rfl, ho⟩ | hm
  · rw [putM_off ho]
    exact h
  · exact fun k _ hk => Nat.le_trans hs (hm.lt k hk).1
def pickM (good : Bool) (m : Mk) : Mk := bif good then goodM m else fewM m
theorem pickM_ok (good : Bool) (m : Mk) : (pickM good m).ok := by
  cases good
  · exact fewM_ok m
  · exact goodM_ok m
def fillL (good : Bool) (l : List Mk) (a : Nat) : List Mk := foldM [] ((l.take a).map (pickM good))
theorem fillL_row (good : Bool) (l : List Mk) (a : Nat) : RowM (fillL good l a) := row_foldM row_nilM
theorem fillL_len (good : Bool) (l : List Mk) (a : Nat) : (fillL good l a).length ≤ a := by
  have := fold_leM ((l.take a).map (pickM good)) []
  rw [List.length_nil, List.length_map, List.length_take] at this
  unfold fillL
  omega
theorem fillL_ok (good : Bool) (l : List Mk) (a : Nat) : ∀ m ∈ fillL good l a, m.ok := fold_allM (fun m hm => by cases hm) (fun m hm => by
  obtain ⟨x, _, rfl⟩ := List.mem_map.1 hm
  exact pickM_ok good x)
theorem fillL_snoc {good : Bool} {l : List Mk} {a : Nat} {x : Mk} (hx : l[a]? = some x) : fillL good l (a + 1) = putM (fillL good l a) (pickM good x) := by
  unfold fillL
  rw [List.take_add_one, hx, List.map_append]
  exact fold_snocM _ _ _
/-- While a table is filled. -/
structure FiS (w wr : World) (r : RI) (v : Value) (l : List Mk) : Prop where
  kt : Kt w wr [r] [Th.row LM v r.l]
  l : r.l = l
  new : NewV w v r.l

set_option maxHeartbeats 6400000 in
theorem fill_any (good : Bool) (v : Value) (l : List Mk) (most : Nat) (w : World) (h : LM.Slice w v l) (hf : ∀ m ∈ l, m.fit) (hm : most ≤ 100) :
    Calls Try.prog 9 #[v, .int .i64 (most : Int), .bool good] w fun e w' => ∃ (r : RI) (u : Value), e = .returned (.tuple #[.pointer (some ⟨r.g, 0, none⟩), u]) ∧ FiS w w' r u (fillL good l most) := by
  obtain ⟨A, cap, rfl, h1, h2, -⟩ := id h
  unfold maxLen at h2
  have HR := Lib.hid h
  have HF := Lib.hid hf
  clear h hf
  go_enter Try.func9, Try.ntmps9
  go_wp2_with fail
  go_at_call 21
  refine (rcNew_any w).mono ?_
  rintro e w1 ⟨r0, rfl, hl0, hc, hb, ho⟩
  have H0 : Hid (FiS w w1 r0 (.slice none 0 0) (fillL good l 0)) := Lib.hid (by
    have hk := (Kt.start w).made hb hc ho
    refine ⟨hk.with (by rw [hl0]; exact Lies.Slice.nil w1) (fun k hk => by cases hk.2), by rw [hl0]; rfl, fun k h0 hk => by cases hk⟩)
  clear hl0 hc hb ho
  go_wp2_with fail
  obtain ⟨g0, hg0⟩ : ∃ g, r0.g = g := ⟨_, rfl⟩
  rw [hg0]
  go_loopw [9, 10, 11, 12, 13] (fun u i _ _ _ wr => ∃ (a : Nat) (r : RI), i = .int .i64 (a : Int) ∧ a ≤ l.length ∧ a ≤ most ∧ r.g = g0 ∧ Hid (FiS w wr r u (fillL good l a))) (fun _ i _ _ _ _ => l.length - (intOf i).toNat)
  case atStart => exact ⟨0, r0, rfl, Nat.zero_le _, Nat.zero_le _, hg0, H0⟩
  case round =>
    obtain ⟨a, r, rfl, ha, ham, hrg, HA⟩ := hrel
    clear H0
    have hlen := fillL_len good l a
    by_cases hax : a < l.length
    · have q1 : decide ((a : Int) < (l.length : Int)) = true := decide_eq_true (by omega)
      by_cases hat : a < most
      · have q2 : decide ((a : Int) < (most : Int)) = true := decide_eq_true (by omega)
        have hx : l[a]? = some l[a] := List.getElem?_eq_getElem hax
        generalize l[a] = x at hx
        have HSN := Lib.hid (fillL_snoc (good := good) hx)
        have hxf := HF.out x (List.mem_of_getElem? hx)
        have HFW := Lib.hid (fun W => refFewM_any x W hxf)
        have HGD := Lib.hid (fun W => refGoodM_any x W hxf)
        have HXC : Hid (∀ W, Below w.heap.size w W → LM.Slice W (.slice A l.length cap) l) := Lib.hid (fun W hb => HR.out.below hb)
        have HX := Lib.hid hx
        obtain ⟨bo, oo, rfl, hbo, hco⟩ := (HXC.out wr HA.out.kt.below).at hx
        have hiy := index_any (P := Try.prog) knM (by decide) (b := bo) (off := oo) (cap := cap) hax
        simp only [LM] at hiy hco
        obtain ⟨a0, a1, a2, a3, a4, a5⟩ := range6 hco
        unfold Mk.val at HFW HGD
        obtain ⟨m1, hm1⟩ : ∃ m, fewM x = m := ⟨_, rfl⟩
        rw [hm1] at HFW
        clear hx hco hxf
        go_wp2_with fail
        go_at_call 17
        refine (HFW.out _).mono ?_
        rintro e w2 ⟨rfl, b2⟩
        have HK2 := Lib.hid (HA.out.kt.later b2)
        clear b2 a0 a1 a2 a3 a4 a5 HFW
        have HBX := Lib.hid (heap_alloc_new w2 (.cells #[.string m1.k.room, .string m1.k.user, .string m1.k.thread, .bool m1.k.priv, .int .i64 m1.po.depth, .string m1.po.id] 38))
        have HK3 := Lib.hid (HK2.out.add (below_new w2 (.cells #[.string m1.k.room, .string m1.k.user, .string m1.k.thread, .bool m1.k.priv, .int .i64 m1.po.depth, .string m1.po.id] 38)) (t := Th.box w2.heap.size (.cells #[.string m1.k.room, .string m1.k.user, .string m1.k.thread, .bool m1.k.priv, .int .i64 m1.po.depth, .string m1.po.id] 38 (0, 0))) HBX.out (fun k hk => .inl (Nat.le_of_eq hk.symm)))
        have HNB : Hid (∀ k, 0 < r.l.length → u9.ownBlock = some k → k < w2.heap.size) := Lib.hid (fun k h0 hk => (HK2.out.is List.mem_cons_self : LM.Slice w2 u9 r.l).foot h0 hk)
        have HNL : Hid (w.heap.size ≤ w2.heap.size) := Lib.hid HK2.out.below.size
        go_upto_region 9 with (fail)
        generalize World.alloc _ _ = w3 at HK3 HBX ⊢
        generalize w2.heap.size = B11 at HK3 HBX HNB HNL ⊢
        cases good
        · have HPK : Hid (pickM false x = m1) := Lib.hid hm1
          clear hm1 HGD HK2 hiy
          rw [HPK.out] at HSN
          have HMO : Hid m1.ok := Lib.hid (by rw [← HPK.out]; exact pickM_ok false x)
          have d0 : w3.cell? ⟨B11, 0, none⟩ = some (.string m1.k.room) := cell_at HBX.out 0
          have d1 : w3.cell? ⟨B11, 1, none⟩ = some (.string m1.k.user) := cell_at HBX.out 1
          have d2 : w3.cell? ⟨B11, 2, none⟩ = some (.string m1.k.thread) := cell_at HBX.out 2
          have d3 : w3.cell? ⟨B11, 3, none⟩ = some (.bool m1.k.priv) := cell_at HBX.out 3
          have d4 : w3.cell? ⟨B11, 4, none⟩ = some (.int .i64 m1.po.depth) := cell_at HBX.out 4
          have d5 : w3.cell? ⟨B11, 5, none⟩ = some (.string m1.po.id) := cell_at HBX.out 5
          have HLN : Hid (r.l.length ≤ 100) := Lib.hid (by rw [HA.out.l]; omega)
          have HQ := Lib.hid (refPutM_any u9 r.l m1.k m1.po w3 (HK3.out.is (List.mem_cons_of_mem _ List.mem_cons_self)) (by rw [HA.out.l]; exact fillL_row _ _ _) (by have := HLN.out; omega))
          unfold Rk.val Po.val at HQ
          go_wp2_with fail
          go_at_call 25
          refine HQ.out.mono ?_
          rintro e w6 ⟨v6, rfl, hp6, b6⟩
          have HK6 := Lib.hid (Kt.putL HK3.out.swap b6 hp6)
          have HN6 := Lib.hid (NewV.put HA.out.new HK3.out.below.size hp6)
          rw [show (⟨m1.k, m1.po⟩ : Mk) = m1 from rfl] at HK6 HN6
          rw [show (⟨m1.k, m1.po⟩ : Mk) = m1 from rfl]
          have hb6 : w6.heap[B11]? = some (.cells #[.string m1.k.room, .string m1.k.user, .string m1.k.thread, .bool m1.k.priv, .int .i64 m1.po.depth, .string m1.po.id] 38 (0, 0)) := (HK6.out.is (t := Th.box B11 (.cells #[.string m1.k.room, .string m1.k.user, .string m1.k.thread, .bool m1.k.priv, .int .i64 m1.po.depth, .string m1.po.id] 38 (0, 0))) (List.mem_cons_of_mem _ (List.mem_cons_of_mem _ List.mem_cons_self)))
          clear b6 hp6 d0 d1 d2 d3 d4 d5 HQ
          have HL6 := Lib.hid HA.out.l
          clear HA HK3 HBX
          go_upto_region 13 with (fail)
          refine wp_region_held_drew (S := fun W => W.heap[B11]? = some (.cells #[.string m1.k.room, .string m1.k.user, .string m1.k.thread, .bool m1.k.priv, .int .i64 m1.po.depth, .string m1.po.id] 38 (0, 0))) (by kernel_rfl) hb6 (fun hHeld => ?_)
          have HKD := Lib.hid (HK6.out.later (below_drew w6))
          clear HK6 hb6
          generalize w6.drew = wd at HKD hHeld ⊢
          have HOF := Lib.hid (fun W => of_any m1.k W)
          unfold Rk.val at HOF
          refine wpAnyH_take (i := 0) (oi := ⟨some 50, _, _, _, _, _⟩) (v := ?vf0) rfl (by kernel_rfl) (by kernel_rfl) (by kernel_rfl) (fun _ _ _ h => h) (Or.inl ⟨by rfl, ?yf0⟩) hHeld ?rf0
          case yf0 =>
            intro wx hSx
            go_simp
            try with_reducible rfl
          try simp only [Act.put, List.setIfInBounds_toArray, List.set_cons_zero, List.set_cons_succ]
          refine wpAnyH_take (i := 1) (oi := ⟨some 51, _, _, _, _, _⟩) (v := ?vf1) rfl (by kernel_rfl) (by kernel_rfl) (by kernel_rfl) (fun _ _ _ h => h) (Or.inl ⟨by rfl, ?yf1⟩) hHeld ?rf1
          case yf1 =>
            intro wx hSx
            go_simp
            try with_reducible rfl
          try simp only [Act.put, List.setIfInBounds_toArray, List.set_cons_zero, List.set_cons_succ]
          refine wpAnyH_take (i := 4) (oi := ⟨some 54, _, _, _, _, _⟩) (v := ?vf4) rfl (by kernel_rfl) (by kernel_rfl) (by kernel_rfl) (fun _ _ _ h => h) (Or.inl ⟨by rfl, ?yf4⟩) hHeld ?rf4
          case yf4 =>
            intro wx hSx
            go_simp
            try with_reducible rfl
          try simp only [Act.put, List.setIfInBounds_toArray, List.set_cons_zero, List.set_cons_succ]
          refine wpAnyH_take (i := 2) (oi := ⟨some 52, _, _, _, _, _⟩) (v := ?vf2) rfl (by kernel_rfl) (by kernel_rfl) (by kernel_rfl) (fun _ _ _ h => h) (Or.inl ⟨by rfl, ?yf2⟩) hHeld ?rf2
          case yf2 =>
            intro wx hSx
            have z0 := cell_at hSx 0
            have z1 := cell_at hSx 1
            have z2 := cell_at hSx 2
            have z3 := cell_at hSx 3
            simp only [List.getElem?_toArray, List.getElem?_cons_succ, List.getElem?_cons_zero] at z0 z1 z2 z3
            go_simp
            try with_reducible rfl
          try simp only [Act.put, List.setIfInBounds_toArray, List.set_cons_zero, List.set_cons_succ]
          refine wpAnyH_take (i := 5) (oi := ⟨some 55, _, _, _, _, _⟩) (v := ?vf5) rfl (by kernel_rfl) (by kernel_rfl) (by kernel_rfl) (fun _ _ _ h => h) (Or.inl ⟨by rfl, ?yf5⟩) hHeld ?rf5
          case yf5 =>
            intro wx hSx
            have z4 := cell_at hSx 4
            have z5 := cell_at hSx 5
            simp only [List.getElem?_toArray, List.getElem?_cons_succ, List.getElem?_cons_zero] at z4 z5
            go_simp
            try with_reducible rfl
          try simp only [Act.put, List.setIfInBounds_toArray, List.set_cons_zero, List.set_cons_succ]
          refine wpAnyH_take (i := 7) (oi := ⟨some 57, _, _, _, _, _⟩) (v := ?vf7) rfl (by kernel_rfl) (by kernel_rfl) (by kernel_rfl) (fun _ _ _ h => h) (Or.inl ⟨by rfl, ?yf7⟩) hHeld ?rf7
          case yf7 =>
            intro wx hSx
            go_simp
            try with_reducible rfl
          try simp only [Act.put, List.setIfInBounds_toArray, List.set_cons_zero, List.set_cons_succ]
          refine wpAnyH_ready (rs := [3]) (by kernel_rfl) (by simp) ?_
          refine AllReadyH.cons (o := ⟨some 53, _, _, _, _, _⟩) rfl (fun K hK => ?_) AllReadyH.nil
          go_simp
          refine (HOF.out _).mono ?_
          rintro e wo ⟨rfl, hgo⟩
          have HKO := Lib.hid (HKD.out.later hgo.below)
          refine hK.out _ _ ((hgo.below.block B11 (smem_lt hHeld)).trans hHeld) (fun hHeld => ?_)
          clear hK K hgo HKD
          try simp only [Act.put, List.setIfInBounds_toArray, List.set_cons_zero, List.set_cons_succ]
          refine wpAnyH_ready (rs := [6]) (by kernel_rfl) (by simp) ?_
          refine AllReadyH.cons (o := ⟨some 56, _, _, _, _, _⟩) rfl (fun K hK => ?_) AllReadyH.nil
          have HPT := Lib.hid (rcPut_any (HKO.out.ct (i := 0) rfl) (by have := HLN.out; omega) m1.k m1.po HMO.out)
          unfold Rk.val Po.val at HPT
          rw [hrg] at HPT
          go_simp
          refine HPT.out.mono ?_
          rintro e wp ⟨rfl, hpp⟩
          obtain ⟨r7, e1, e2, e3, hk7⟩ := HKO.out.putP (i := 0) rfl hpp
          have HK7 := Lib.hid hk7
          have HE7 := Lib.hid (And.intro e1 e3)
          rw [show (⟨m1.k, m1.po⟩ : Mk) = m1 from rfl] at HE7
          rw [show (⟨m1.k, m1.po⟩ : Mk) = m1 from rfl]
          refine hK.out _ _ (hk7.is (t := Th.box B11 (.cells #[.string m1.k.room, .string m1.k.user, .string m1.k.thread, .bool m1.k.priv, .int .i64 m1.po.depth, .string m1.po.id] 38 (0, 0))) (List.mem_cons_of_mem _ (List.mem_cons_of_mem _ List.mem_cons_self))) (fun hHeld => ?_)
          clear hK K hpp e1 e2 e3 hk7 HPT
          try simp only [Act.put, List.setIfInBounds_toArray, List.set_cons_zero, List.set_cons_succ]
          generalize onM r.l m1 = on
          have hbn : (on != on) = false := bne_self_eq_false on
          refine wpAnyH_take (i := 8) (oi := ⟨some 58, _, _, _, _, _⟩) (v := ?vf8) rfl (by kernel_rfl) (by kernel_rfl) (by kernel_rfl) (fun _ _ _ h => h) (Or.inl ⟨by rfl, ?yf8⟩) hHeld ?rf8
          case yf8 =>
            intro wx hSx
            go_simp
            try with_reducible rfl
          try simp only [Act.put, List.setIfInBounds_toArray, List.set_cons_zero, List.set_cons_succ]
          refine wpAnyH_done (by kernel_rfl) ?_ _
          have HFI : Hid (FiS w wp r7 v6 (fillL false l (a + 1))) := Lib.hid (by
            refine ⟨?_, by rw [HE7.out.2, HSN.out, HL6.out], by rw [HE7.out.2]; exact HN6.out⟩
            rw [HE7.out.2]
            exact HK7.out.less (fun t ht => by rw [List.mem_singleton] at ht; subst ht; exact List.mem_cons_self))
          clear hbn
          go_wp2_with fail
          refine ⟨⟨a + 1, r7, by go_num, by omega, by omega, HE7.out.1.trans hrg, HFI⟩, ?_⟩
          simp [intOf]; omega
        · have HPK : Hid (pickM true x = goodM x) := Lib.hid rfl
          clear hm1
          obtain ⟨m2, hm2⟩ : ∃ m, goodM x = m := ⟨_, rfl⟩
          rw [hm2] at HGD HPK
          have hco := (HXC.out w3 HK3.out.below).cells HX.out
          simp only [LM] at hco
          obtain ⟨a0, a1, a2, a3, a4, a5⟩ := range6 hco
          clear hco hm2
          go_wp2_with fail
          go_at_call 16
          refine (HGD.out _).mono ?_
          rintro e w4 ⟨rfl, b4⟩
          have HK4 := Lib.hid (HK3.out.later b4)
          have HB4 : w4.heap[B11]? = some (.cells #[.string m1.k.room, .string m1.k.user, .string m1.k.thread, .bool m1.k.priv, .int .i64 m1.po.depth, .string m1.po.id] 38 (0, 0)) := HK4.out.is List.mem_cons_self
          have r0 : w4.cell? ⟨B11, 0, none⟩ = some (.string m1.k.room) := cell_at HB4 0
          have z0 : w4.frozen? ⟨B11, 0, none⟩ = false := free_at HB4 0
          have r1 : w4.cell? ⟨B11, 1, none⟩ = some (.string m1.k.user) := cell_at HB4 1
          have z1 : w4.frozen? ⟨B11, 1, none⟩ = false := free_at HB4 1
          have r2 : w4.cell? ⟨B11, 2, none⟩ = some (.string m1.k.thread) := cell_at HB4 2
          have z2 : w4.frozen? ⟨B11, 2, none⟩ = false := free_at HB4 2
          have r3 : w4.cell? ⟨B11, 3, none⟩ = some (.bool m1.k.priv) := cell_at HB4 3
          have z3 : w4.frozen? ⟨B11, 3, none⟩ = false := free_at HB4 3
          have r4 : w4.cell? ⟨B11, 4, none⟩ = some (.int .i64 m1.po.depth) := cell_at HB4 4
          have z4 : w4.frozen? ⟨B11, 4, none⟩ = false := free_at HB4 4
          have r5 : w4.cell? ⟨B11, 5, none⟩ = some (.string m1.po.id) := cell_at HB4 5
          have z5 : w4.frozen? ⟨B11, 5, none⟩ = false := free_at HB4 5
          have HAN := stored HB4 [.string m2.k.room, .string m2.k.user, .string m2.k.thread, .bool m2.k.priv, .int .i64 m2.po.depth, .string m2.po.id] rfl _ rfl
          have HK5 : ∀ W, W.heap[B11]? = some (.cells #[.string m2.k.room, .string m2.k.user, .string m2.k.thread, .bool m2.k.priv, .int .i64 m2.po.depth, .string m2.po.id] 38 (0, 0)) → w4.grownBy W (some B11) → Kt w W [r] [Th.box B11 (.cells #[.string m2.k.room, .string m2.k.user, .string m2.k.thread, .bool m2.k.priv, .int .i64 m2.po.depth, .string m2.po.id] 38 (0, 0)), Th.row LM u9 r.l] := fun W h1 h2 => HK4.out.rebox h1 h2 HNL.out (fun t ht hp => by
            rw [List.mem_singleton] at ht
            subst ht
            exact absurd (HNB.out _ hp.1 hp.2) (Nat.lt_irrefl _))
          simp only [World.setCells] at HAN
          clear b4 a0 a1 a2 a3 a4 a5 HGD HK2 HK3 hiy
          go_upto_region 11 with (fail)
          generalize World.setCell _ _ _ = w5 at HAN ⊢
          replace HK5 := Lib.hid (HK5 w5 HAN.1 HAN.2)
          replace HBX := Lib.hid HAN.1
          clear HAN HB4 HK4 r0 r1 r2 r3 r4 r5 z0 z1 z2 z3 z4 z5
          rw [HPK.out] at HSN
          have HMO : Hid m2.ok := Lib.hid (by rw [← HPK.out]; exact pickM_ok true x)
          have d0 : w5.cell? ⟨B11, 0, none⟩ = some (.string m2.k.room) := cell_at HBX.out 0
          have d1 : w5.cell? ⟨B11, 1, none⟩ = some (.string m2.k.user) := cell_at HBX.out 1
          have d2 : w5.cell? ⟨B11, 2, none⟩ = some (.string m2.k.thread) := cell_at HBX.out 2
          have d3 : w5.cell? ⟨B11, 3, none⟩ = some (.bool m2.k.priv) := cell_at HBX.out 3
          have d4 : w5.cell? ⟨B11, 4, none⟩ = some (.int .i64 m2.po.depth) := cell_at HBX.out 4
          have d5 : w5.cell? ⟨B11, 5, none⟩ = some (.string m2.po.id) := cell_at HBX.out 5
          have HLN : Hid (r.l.length ≤ 100) := Lib.hid (by rw [HA.out.l]; omega)
          have HQ := Lib.hid (refPutM_any u9 r.l m2.k m2.po w5 (HK5.out.is (List.mem_cons_of_mem _ List.mem_cons_self)) (by rw [HA.out.l]; exact fillL_row _ _ _) (by have := HLN.out; omega))
          unfold Rk.val Po.val at HQ
          go_wp2_with fail
          go_at_call 25
          refine HQ.out.mono ?_
          rintro e w6 ⟨v6, rfl, hp6, b6⟩
          have HK6 := Lib.hid (Kt.putL HK5.out.swap b6 hp6)
          have HN6 := Lib.hid (NewV.put HA.out.new HK5.out.below.size hp6)
          rw [show (⟨m2.k, m2.po⟩ : Mk) = m2 from rfl] at HK6 HN6
          rw [show (⟨m2.k, m2.po⟩ : Mk) = m2 from rfl]
          have hb6 : w6.heap[B11]? = some (.cells #[.string m2.k.room, .string m2.k.user, .string m2.k.thread, .bool m2.k.priv, .int .i64 m2.po.depth, .string m2.po.id] 38 (0, 0)) := (HK6.out.is (t := Th.box B11 (.cells #[.string m2.k.room, .string m2.k.user, .string m2.k.thread, .bool m2.k.priv, .int .i64 m2.po.depth, .string m2.po.id] 38 (0, 0))) (List.mem_cons_of_mem _ (List.mem_cons_of_mem _ List.mem_cons_self)))
          clear b6 hp6 d0 d1 d2 d3 d4 d5 HQ
          have HL6 := Lib.hid HA.out.l
          clear HA HK5 HBX
          go_upto_region 13 with (fail)
          refine wp_region_held_drew (S := fun W => W.heap[B11]? = some (.cells #[.string m2.k.room, .string m2.k.user, .string m2.k.thread, .bool m2.k.priv, .int .i64 m2.po.depth, .string m2.po.id] 38 (0, 0))) (by kernel_rfl) hb6 (fun hHeld => ?_)
          have HKD := Lib.hid (HK6.out.later (below_drew w6))
          clear HK6 hb6
          generalize w6.drew = wd at HKD hHeld ⊢
          have HOF := Lib.hid (fun W => of_any m2.k W)
          unfold Rk.val at HOF
          refine wpAnyH_take (i := 0) (oi := ⟨some 50, _, _, _, _, _⟩) (v := ?vt0) rfl (by kernel_rfl) (by kernel_rfl) (by kernel_rfl) (fun _ _ _ h => h) (Or.inl ⟨by rfl, ?yt0⟩) hHeld ?rt0
          case yt0 =>
            intro wx hSx
            go_simp
            try with_reducible rfl
          try simp only [Act.put, List.setIfInBounds_toArray, List.set_cons_zero, List.set_cons_succ]
          refine wpAnyH_take (i := 1) (oi := ⟨some 51, _, _, _, _, _⟩) (v := ?vt1) rfl (by kernel_rfl) (by kernel_rfl) (by kernel_rfl) (fun _ _ _ h => h) (Or.inl ⟨by rfl, ?yt1⟩) hHeld ?rt1
          case yt1 =>
            intro wx hSx
            go_simp
            try with_reducible rfl
          try simp only [Act.put, List.setIfInBounds_toArray, List.set_cons_zero, List.set_cons_succ]
          refine wpAnyH_take (i := 4) (oi := ⟨some 54, _, _, _, _, _⟩) (v := ?vt4) rfl (by kernel_rfl) (by kernel_rfl) (by kernel_rfl) (fun _ _ _ h => h) (Or.inl ⟨by rfl, ?yt4⟩) hHeld ?rt4
          case yt4 =>
            intro wx hSx
            go_simp
            try with_reducible rfl
          try simp only [Act.put, List.setIfInBounds_toArray, List.set_cons_zero, List.set_cons_succ]
          refine wpAnyH_take (i := 2) (oi := ⟨some 52, _, _, _, _, _⟩) (v := ?vt2) rfl (by kernel_rfl) (by kernel_rfl) (by kernel_rfl) (fun _ _ _ h => h) (Or.inl ⟨by rfl, ?yt2⟩) hHeld ?rt2
          case yt2 =>
            intro wx hSx
            have z0 := cell_at hSx 0
            have z1 := cell_at hSx 1
            have z2 := cell_at hSx 2
            have z3 := cell_at hSx 3
            simp only [List.getElem?_toArray, List.getElem?_cons_succ, List.getElem?_cons_zero] at z0 z1 z2 z3
            go_simp
            try with_reducible rfl
          try simp only [Act.put, List.setIfInBounds_toArray, List.set_cons_zero, List.set_cons_succ]
          refine wpAnyH_take (i := 5) (oi := ⟨some 55, _, _, _, _, _⟩) (v := ?vt5) rfl (by kernel_rfl) (by kernel_rfl) (by kernel_rfl) (fun _ _ _ h => h) (Or.inl ⟨by rfl, ?yt5⟩) hHeld ?rt5
          case yt5 =>
            intro wx hSx
            have z4 := cell_at hSx 4
            have z5 := cell_at hSx 5
            simp only [List.getElem?_toArray, List.getElem?_cons_succ, List.getElem?_cons_zero] at z4 z5
            go_simp
            try with_reducible rfl
          try simp only [Act.put, List.setIfInBounds_toArray, List.set_cons_zero, List.set_cons_succ]
          refine wpAnyH_take (i := 7) (oi := ⟨some 57, _, _, _, _, _⟩) (v := ?vt7) rfl (by kernel_rfl) (by kernel_rfl) (by kernel_rfl) (fun _ _ _ h => h) (Or.inl ⟨by rfl, ?yt7⟩) hHeld ?rt7
          case yt7 =>
            intro wx hSx
            go_simp
            try with_reducible rfl
          try simp only [Act.put, List.setIfInBounds_toArray, List.set_cons_zero, List.set_cons_succ]
          refine wpAnyH_ready (rs := [3]) (by kernel_rfl) (by simp) ?_
          refine AllReadyH.cons (o := ⟨some 53, _, _, _, _, _⟩) rfl (fun K hK => ?_) AllReadyH.nil
          go_simp
          refine (HOF.out _).mono ?_
          rintro e wo ⟨rfl, hgo⟩
          have HKO := Lib.hid (HKD.out.later hgo.below)
          refine hK.out _ _ ((hgo.below.block B11 (smem_lt hHeld)).trans hHeld) (fun hHeld => ?_)
          clear hK K hgo HKD
          try simp only [Act.put, List.setIfInBounds_toArray, List.set_cons_zero, List.set_cons_succ]
          refine wpAnyH_ready (rs := [6]) (by kernel_rfl) (by simp) ?_
          refine AllReadyH.cons (o := ⟨some 56, _, _, _, _, _⟩) rfl (fun K hK => ?_) AllReadyH.nil
          have HPT := Lib.hid (rcPut_any (HKO.out.ct (i := 0) rfl) (by have := HLN.out; omega) m2.k m2.po HMO.out)
          unfold Rk.val Po.val at HPT
          rw [hrg] at HPT
          go_simp
          refine HPT.out.mono ?_
          rintro e wp ⟨rfl, hpp⟩
          obtain ⟨r7, e1, e2, e3, hk7⟩ := HKO.out.putP (i := 0) rfl hpp
          have HK7 := Lib.hid hk7
          have HE7 := Lib.hid (And.intro e1 e3)
          rw [show (⟨m2.k, m2.po⟩ : Mk) = m2 from rfl] at HE7
          rw [show (⟨m2.k, m2.po⟩ : Mk) = m2 from rfl]
          refine hK.out _ _ (hk7.is (t := Th.box B11 (.cells #[.string m2.k.room, .string m2.k.user, .string m2.k.thread, .bool m2.k.priv, .int .i64 m2.po.depth, .string m2.po.id] 38 (0, 0))) (List.mem_cons_of_mem _ (List.mem_cons_of_mem _ List.mem_cons_self))) (fun hHeld => ?_)
          clear hK K hpp e1 e2 e3 hk7 HPT
          try simp only [Act.put, List.setIfInBounds_toArray, List.set_cons_zero, List.set_cons_succ]
          generalize onM r.l m2 = on
          have hbn : (on != on) = false := bne_self_eq_false on
          refine wpAnyH_take (i := 8) (oi := ⟨some 58, _, _, _, _, _⟩) (v := ?vt8) rfl (by kernel_rfl) (by kernel_rfl) (by kernel_rfl) (fun _ _ _ h => h) (Or.inl ⟨by rfl, ?yt8⟩) hHeld ?rt8
          case yt8 =>
            intro wx hSx
            go_simp
            try with_reducible rfl
          try simp only [Act.put, List.setIfInBounds_toArray, List.set_cons_zero, List.set_cons_succ]
          refine wpAnyH_done (by kernel_rfl) ?_ _
          have HFI : Hid (FiS w wp r7 v6 (fillL true l (a + 1))) := Lib.hid (by
            refine ⟨?_, by rw [HE7.out.2, HSN.out, HL6.out], by rw [HE7.out.2]; exact HN6.out⟩
            rw [HE7.out.2]
            exact HK7.out.less (fun t ht => by rw [List.mem_singleton] at ht; subst ht; exact List.mem_cons_self))
          clear hbn
          go_wp2_with fail
          refine ⟨⟨a + 1, r7, by go_num, by omega, by omega, HE7.out.1.trans hrg, HFI⟩, ?_⟩
          simp [intOf]; omega
      · have q2 : decide ((a : Int) < (most : Int)) = false := decide_eq_false (by omega)
        obtain rfl : a = most := by omega
        go_wp2_with fail
        refine bodyPost_ret (v := .tuple #[.pointer (some ⟨g0, 0, none⟩), u9]) ?_ rfl ⟨r, u9, by rw [hrg], HA.out⟩
        simp [results, Try.results9, go_sem]
    · have q1 : decide ((a : Int) < (l.length : Int)) = false := decide_eq_false (by omega)
      have HE : Hid (fillL good l a = fillL good l most) := Lib.hid (by
        unfold fillL
        rw [List.take_of_length_le (by omega), List.take_of_length_le (by omega)])
      go_wp2_with fail
      refine bodyPost_ret (v := .tuple #[.pointer (some ⟨g0, 0, none⟩), u9]) ?_ rfl ⟨r, u9, by rw [hrg], by rw [← HE.out]; exact HA.out⟩
      simp [results, Try.results9, go_sem]
end Go.Proofs.Ytmialpaldkpmbaa
