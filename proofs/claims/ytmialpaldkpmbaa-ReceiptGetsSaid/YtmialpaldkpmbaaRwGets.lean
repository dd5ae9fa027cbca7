/-
  A key's mark: the walk of the statement.
-/
import Derived.Test.YtmialpaldkpmbaaRwRow
namespace Go.Proofs.Ytmialpaldkpmbaa
set_option maxRecDepth 20000
open Go.RowKit Go.Maps Go.ChangeMaps
set_option linter.unusedVariables false
set_option linter.unusedSimpArgs false
theorem mine_many {α : Type} {L : Lies α} (w : World) (xs : List α) (n : Nat) (hn : xs.length = n) (hm : n ≤ maxLen) (cs : Array Value) (hc : cs.toList = L.vs xs) : L.Mine (w.alloc (.cells cs L.e)) w.heap.size (.slice (some ⟨w.heap.size, 0, none⟩) n n) xs := by
  subst hn
  have hs : cs.size = xs.length * L.c := by rw [← Array.length_toList, hc, L.vs_len]
  exact .inr ⟨w.heap.size, 0, xs.length, cs, rfl, Nat.le_refl _, heap_alloc_new w _, Nat.le_refl _, hm, by omega, by rw [List.drop_zero, hc, List.take_of_length_le (by rw [L.vs_len]; exact Nat.le_refl _)]⟩

set_option maxHeartbeats 3200000 in
theorem receiptGets_walk (v : Value) (l : List Mk) (m : Mk) (w : World) (h : LM.Slice w v l) (hf : ∀ m ∈ l, m.fit) (hm : m.fit) :
    Calls Try.prog 4 #[v, m.val] w fun e w' => e = .returned (.bool true) ∧ Below w.heap.size w w' := by
  have HR := Lib.hid h
  have HF := Lib.hid hf
  have HLV := Lib.hid (fun W => lives_any W)
  have HQA := Lib.hid (fun W => refGoodM_any m W hm)
  have HFA := Lib.hid (fun W => refFewM_any m W hm)
  have H0 : Hid (Kt w (w.alloc (.cells #[.string m.k.room, .string m.k.user, .string m.k.thread, .bool m.k.priv, .int .i64 m.po.depth, .string m.po.id] 38)) [] [Th.box w.heap.size (.cells #[.string m.k.room, .string m.k.user, .string m.k.thread, .bool m.k.priv, .int .i64 m.po.depth, .string m.po.id] 38 (0, 0))]) := Lib.hid ((Kt.start w).add (below_new w (.cells #[.string m.k.room, .string m.k.user, .string m.k.thread, .bool m.k.priv, .int .i64 m.po.depth, .string m.po.id] 38)) (t := Th.box w.heap.size (.cells #[.string m.k.room, .string m.k.user, .string m.k.thread, .bool m.k.priv, .int .i64 m.po.depth, .string m.po.id] 38 (0, 0))) (heap_alloc_new w _) (fun k hk => .inl (Nat.le_of_eq hk.symm)))
  unfold Mk.val at *
  clear h hf hm
  go_enter Try.func4, Try.ntmps4
  go_upto_region 1 with (fail)
  generalize World.alloc _ _ = w1 at H0 ⊢
  obtain ⟨B3, hB3⟩ : ∃ B, w.heap.size = B := ⟨_, rfl⟩
  rw [hB3] at H0 ⊢
  rw [← hB3]
  have HFL := Lib.hid (fill_any true v l 12 w1 (HR.out.below H0.out.below) HF.out (by decide))
  go_wp2_with fail
  go_at_call 9
  refine HFL.out.mono ?_
  rintro e w2 ⟨r, u, rfl, hfi⟩
  have HK := Lib.hid (H0.out.join hfi.kt (fun k hk => hfi.new k hk.1 hk.2))
  replace HK : Hid (Kt w w2 [r] [Th.row LM u r.l, Th.box B3 (.cells #[.string m.k.room, .string m.k.user, .string m.k.thread, .bool m.k.priv, .int .i64 m.po.depth, .string m.po.id] 38 (0, 0))]) := Lib.hid HK.out
  have hrl : r.l.length ≤ 12 := by rw [hfi.l]; exact fillL_len _ _ _
  have HOK : Hid (∀ m ∈ r.l, m.ok) := Lib.hid (by rw [hfi.l]; exact fillL_ok _ _ _)
  obtain ⟨A, c, rfl, hlc, -⟩ := id (HK.out.is List.mem_cons_self : LM.Slice w2 u r.l)
  clear hfi HFL H0
  go_upto_region 4 with (fail)
  refine wp_region_held_drew (S := fun W => Kt w W [r] [Th.row LM (.slice A r.l.length c) r.l, Th.box B3 (.cells #[.string m.k.room, .string m.k.user, .string m.k.thread, .bool m.k.priv, .int .i64 m.po.depth, .string m.po.id] 38 (0, 0))]) (by kernel_rfl) (HK.out.later (below_drew _)) (fun hHeld => ?_)
  clear HK
  generalize World.drew _ = wd at hHeld ⊢
  refine wpAnyH_take (i := 0) (oi := ⟨some 19, _, _, _, _, _⟩) (v := ?vk0) rfl (by kernel_rfl) (by kernel_rfl) (by kernel_rfl) (fun _ _ _ h => h) (Or.inl ⟨by rfl, ?yk0⟩) hHeld ?rk0
  case yk0 =>
    intro wx hSx
    have hb := hSx.is (t := Th.box B3 (.cells #[.string m.k.room, .string m.k.user, .string m.k.thread, .bool m.k.priv, .int .i64 m.po.depth, .string m.po.id] 38 (0, 0))) (List.mem_cons_of_mem _ List.mem_cons_self)
    have y0 := cell_at hb 0
    have y1 := cell_at hb 1
    have y2 := cell_at hb 2
    have y3 := cell_at hb 3
    have y4 := cell_at hb 4
    have y5 := cell_at hb 5
    simp only [List.getElem?_toArray, List.getElem?_cons_succ, List.getElem?_cons_zero] at y0 y1 y2 y3 y4 y5
    go_simp
    try with_reducible rfl
  try simp only [Act.put, List.setIfInBounds_toArray, List.set_cons_zero, List.set_cons_succ]
  refine wpAnyH_take (i := 3) (oi := ⟨some 22, _, _, _, _, _⟩) (v := ?vk3) rfl (by kernel_rfl) (by kernel_rfl) (by kernel_rfl) (fun _ _ _ h => h) (Or.inl ⟨by rfl, ?yk3⟩) hHeld ?rk3
  case yk3 =>
    intro wx hSx
    have hb := hSx.is (t := Th.box B3 (.cells #[.string m.k.room, .string m.k.user, .string m.k.thread, .bool m.k.priv, .int .i64 m.po.depth, .string m.po.id] 38 (0, 0))) (List.mem_cons_of_mem _ List.mem_cons_self)
    have y0 := cell_at hb 0
    have y1 := cell_at hb 1
    have y2 := cell_at hb 2
    have y3 := cell_at hb 3
    have y4 := cell_at hb 4
    have y5 := cell_at hb 5
    simp only [List.getElem?_toArray, List.getElem?_cons_succ, List.getElem?_cons_zero] at y0 y1 y2 y3 y4 y5
    go_simp
    try with_reducible rfl
  try simp only [Act.put, List.setIfInBounds_toArray, List.set_cons_zero, List.set_cons_succ]
  refine wpAnyH_ready (rs := [1]) (by kernel_rfl) (by simp) ?_
  refine AllReadyH.cons (o := ⟨some 20, _, _, _, _, _⟩) rfl (fun K hK => ?_) AllReadyH.nil
  go_simp
  refine (HQA.out _).mono ?_
  rintro e wg ⟨rfl, hbg⟩
  refine hK.out _ _ (hHeld.later hbg) (fun hHeld => ?_)
  clear hK K hbg
  try simp only [Act.put, List.setIfInBounds_toArray, List.set_cons_zero, List.set_cons_succ]
  refine wpAnyH_take (i := 2) (oi := ⟨some 21, _, _, _, _, _⟩) (v := ?vk2) rfl (by kernel_rfl) (by kernel_rfl) (by kernel_rfl) (fun _ _ _ h => h) (Or.inl ⟨by rfl, ?yk2⟩) hHeld ?rk2
  case yk2 =>
    intro wx hSx
    have z := fieldK (goodM m)
    go_simp
    try with_reducible rfl
  try simp only [Act.put, List.setIfInBounds_toArray, List.set_cons_zero, List.set_cons_succ]
  refine wpAnyH_ready (rs := [4]) (by kernel_rfl) (by simp) ?_
  refine AllReadyH.cons (o := ⟨some 23, _, _, _, _, _⟩) rfl (fun K hK => ?_) AllReadyH.nil
  go_simp
  refine (HFA.out _).mono ?_
  rintro e wf ⟨rfl, hbf⟩
  refine hK.out _ _ (hHeld.later hbf) (fun hHeld => ?_)
  clear hK K hbf
  try simp only [Act.put, List.setIfInBounds_toArray, List.set_cons_zero, List.set_cons_succ]
  refine wpAnyH_take (i := 5) (oi := ⟨some 24, _, _, _, _, _⟩) (v := ?vk5) rfl (by kernel_rfl) (by kernel_rfl) (by kernel_rfl) (fun _ _ _ h => h) (Or.inl ⟨by rfl, ?yk5⟩) hHeld ?rk5
  case yk5 =>
    intro wx hSx
    have z := fieldK (fewM m)
    go_simp
    try with_reducible rfl
  try simp only [Act.put, List.setIfInBounds_toArray, List.set_cons_zero, List.set_cons_succ]
  refine wpAnyH_ready (rs := [6]) (by kernel_rfl) (by simp) ?_
  refine AllReadyH.cons (o := ⟨some 25, _, _, _, _, _⟩) rfl (fun K hK => ?_) AllReadyH.nil
  have hlit := mine_many (L := LK) wf (twoK m) 2 rfl (by decide) #[.string (goodM m).k.room, .string (goodM m).k.user, .string (goodM m).k.thread, .bool (goodM m).k.priv, .string (fewM m).k.room, .string (fewM m).k.user, .string (fewM m).k.thread, .bool (fewM m).k.priv] rfl
  have hnk := hHeld.add (below_new wf (.cells #[.string (goodM m).k.room, .string (goodM m).k.user, .string (goodM m).k.thread, .bool (goodM m).k.priv, .string (fewM m).k.room, .string (fewM m).k.user, .string (fewM m).k.thread, .bool (fewM m).k.priv] 34)) (t := Th.mine LK w.heap.size (.slice (some ⟨wf.heap.size, 0, none⟩) 2 2) (twoK m)) (hlit.mono hHeld.below.size) (fun k hk => .inl (by replace hk : (Value.slice (some ⟨wf.heap.size, 0, none⟩) 2 2).ownBlock = some k := hk; simp only [Value.ownBlock, Option.some.injEq] at hk; exact Nat.le_of_eq hk))
  clear hlit
  have HAP0 : Hid (∀ q, (Value.slice A r.l.length c).ownBlock = some q → 0 < r.l.length → q ≠ wf.heap.size) := Lib.hid (fun q hq h0 e => by have := (hHeld.is List.mem_cons_self : LM.Slice wf (.slice A r.l.length c) r.l).foot h0 hq; omega)
  go_simp
  generalize World.alloc _ _ = wk at hnk ⊢
  generalize wf.heap.size = g7 at hnk HAP0 ⊢
  refine hK.out _ _ (hnk.less (fun t ht => List.mem_cons_of_mem _ ht)) (fun hHeld => ?_)
  clear hK K
  try simp only [Act.put, List.setIfInBounds_toArray, List.set_cons_zero, List.set_cons_succ]
  refine wpAnyH_take (i := 7) (oi := ⟨some 7, _, _, _, _, _⟩) (v := ?vk7) rfl (by kernel_rfl) (by kernel_rfl) (by kernel_rfl) (fun _ _ _ h => h) (Or.inl ⟨by rfl, ?yk7⟩) hHeld ?rk7
  case yk7 =>
    intro wx hSx
    go_simp
    try with_reducible rfl
  try simp only [Act.put, List.setIfInBounds_toArray, List.set_cons_zero, List.set_cons_succ]
  refine wpAnyH_done (by kernel_rfl) ?_ _
  have HK7 := Lib.hid hnk
  clear hnk hHeld HQA HFA
  have HMO : Hid ((goodM m).k.ok ∧ (fewM m).k.ok) := Lib.hid ⟨(goodM_ok m).1, (fewM_ok m).1⟩
  by_cases hl0 : r.l.length = 0
  · have tq0 : decide ((0 : Int) < (r.l.length : Int)) = false := decide_eq_false (by omega)
    have tq00 : decide (0 < r.l.length) = false := decide_eq_false (by omega)
    clear hl0
    obtain ⟨ks, hks⟩ : ∃ ks, twoK m = ks := ⟨_, rfl⟩
    have hkl : ks.length = 2 := by rw [← hks]; rfl
    have HKS : Hid (∀ k ∈ ks, k.ok) := Lib.hid (by
      intro k hk
      rw [← hks] at hk
      simp only [List.mem_cons, List.not_mem_nil, or_false] at hk
      rcases hk with rfl | rfl
      · exact HMO.out.1
      · exact HMO.out.2)
    rw [hks] at HK7
    have HK : Hid (Kt w wk [r] [Th.row LK (.slice (some ⟨g7, 0, none⟩) 2 2) ks, Th.row LM (.slice A r.l.length c) r.l]) := Lib.hid (by
      exact (HK7.out.add (t := Th.row LK (.slice (some ⟨g7, 0, none⟩) 2 2) ks) (Below.refl _ _) (HK7.out.is (t := Th.mine LK w.heap.size (.slice (some ⟨g7, 0, none⟩) 2 2) ks) List.mem_cons_self : LK.Mine wk w.heap.size _ ks).slice (fun k hk => .inr ⟨_, List.mem_cons_self, hk.2⟩)).less (fun t ht => by
        rcases List.mem_cons.1 ht with rfl | ht
        · exact List.mem_cons_self
        · rw [List.mem_singleton] at ht
          subst ht
          exact List.mem_cons_of_mem _ (List.mem_cons_of_mem _ List.mem_cons_self)))
    clear hks HMO HK7 HAP0
    go_wp2_with fail
    go_loopw [8, 9, 10, 11] (fun i _ _ _ wr => ∃ a : Nat, i = .int .i64 (a : Int) ∧ a ≤ 2 ∧ Hid (Kt w wr [r] [Th.row LK (.slice (some ⟨g7, 0, none⟩) 2 2) ks, Th.row LM (.slice A r.l.length c) r.l])) (fun i _ _ _ _ => 2 - (intOf i).toNat)
    case atStart => exact ⟨0, rfl, Nat.zero_le _, HK⟩
    case round =>
      obtain ⟨a, rfl, ha, HA⟩ := hrel
      clear HK
      by_cases hat : a < 2
      · have tq1 : decide ((a : Int) < 2) = true := decide_eq_true (by omega)
        obtain ⟨k, hk⟩ : ∃ k, ks[a]? = some k := ⟨_, List.getElem?_eq_getElem (by omega)⟩
        have HKO := Lib.hid (HKS.out k (List.mem_of_getElem? hk))
        have HCK := Lib.hid (fun W (h : LK.Slice W (.slice (some ⟨g7, 0, none⟩) 2 2) ks) => range4 (h.cells hk))
        have hix := index_any (P := Try.prog) knK (by decide) (b := g7) (off := 0) (cap := 2) hat
        simp only [LK, Nat.zero_add] at hix HCK
        have HOF := Lib.hid (fun W => of_any k W)
        have HGT := Lib.hid (fun W (hc : CRs W r) => rcGet_any hc k HKO.out)
        have HRG := Lib.hid (fun W (h : LM.Slice W (.slice A r.l.length c) r.l) => refGetM_any _ r.l k W h)
        obtain ⟨y0, y1, y2, y3⟩ := HCK.out wr (HA.out.is (t := Th.row LK (.slice (some ⟨g7, 0, none⟩) 2 2) ks) List.mem_cons_self)
        rcases idxM_cases r.l k with ⟨he, hn⟩ | ⟨i2, y, he, hy, hyk, hgy⟩
        · rw [he] at HRG
          have hq0 : gotP r.l k = ⟨0, ⟨#[]⟩⟩ := by unfold gotP; rw [hn]; rfl
          rw [hq0, show (getM r.l k).isSome = false by rw [hn]; rfl] at HGT
          unfold Rk.val Po.val at *
          clear he hn hq0 hk
          go_wp2_with fail
          go_at_call 19
          refine (HOF.out _).mono ?_
          rintro e w4 ⟨rfl, g4⟩
          have HK4 := Lib.hid (HA.out.later g4.below)
          clear g4 y0 y1 y2 y3 HA
          go_wp2_with fail
          go_at_call 18
          refine (HGT.out _ (HK4.out.ct (i := 0) rfl)).mono ?_
          rintro e w5 ⟨rfl, b5⟩
          have HK5 := Lib.hid (HK4.out.later b5)
          clear b5 HK4
          have HK6 := Lib.hid (HK5.out.add (below_new w5 (.cells #[.int .i64 0, .string ⟨#[]⟩] 36)) (t := Th.box w5.heap.size (.cells #[.int .i64 0, .string ⟨#[]⟩] 36 (0, 0))) (heap_alloc_new w5 _) (fun k hk => .inl (Nat.le_of_eq hk.symm)))
          go_upto_region 11 with (fail)
          generalize World.alloc _ _ = w6 at HK6 ⊢
          generalize w5.heap.size = B9 at HK6 ⊢
          clear HK5
          obtain ⟨y0, y1, y2, y3⟩ := HCK.out w6 (HK6.out.is (t := Th.row LK (.slice (some ⟨g7, 0, none⟩) 2 2) ks) (List.mem_cons_of_mem _ List.mem_cons_self))
          go_wp2_with fail
          go_at_call 20
          refine (HRG.out _ (HK6.out.is (t := Th.row LM (.slice A r.l.length c) r.l) (List.mem_cons_of_mem _ (List.mem_cons_of_mem _ List.mem_cons_self)))).mono ?_
          rintro e w7 ⟨rfl, g7⟩
          have HK9 := Lib.hid (HK6.out.later g7.below)
          clear g7 y0 y1 y2 y3 HK6 HGT HRG HOF HCK hix
          go_upto_region 12 with (fail)
          have hzq := eqlP ⟨0, ⟨#[]⟩⟩ ⟨0, ⟨#[]⟩⟩
          rw [decide_eq_true rfl] at hzq
          simp only at hzq
          refine wp_region_held_drew (S := fun W => W.heap[B9]? = some (.cells #[.int .i64 0, .string ⟨#[]⟩] 36 (0, 0))) (by kernel_rfl) (HK9.out.is (t := Th.box B9 (.cells #[.int .i64 0, .string ⟨#[]⟩] 36 (0, 0))) List.mem_cons_self) (fun hHeld => ?_)
          have HKD := Lib.hid (HK9.out.later (below_drew _))
          clear HK9
          generalize World.drew _ = wd at HKD hHeld ⊢
          refine wpAnyH_take (i := 0) (oi := ⟨some 61, _, _, _, _, _⟩) (v := ?vlaa0) rfl (by kernel_rfl) (by kernel_rfl) (by kernel_rfl) (fun _ _ _ h => h) (Or.inl ⟨by rfl, ?ylaa0⟩) hHeld ?rlaa0
          case ylaa0 =>
            intro wx hSx
            go_simp
            try with_reducible rfl
          try simp only [Act.put, List.setIfInBounds_toArray, List.set_cons_zero, List.set_cons_succ]
          refine wpAnyH_take (i := 1) (oi := ⟨some 62, _, _, _, _, _⟩) (v := ?vlaa1) rfl (by kernel_rfl) (by kernel_rfl) (by kernel_rfl) (fun _ _ _ h => h) (Or.inl ⟨by rfl, ?ylaa1⟩) hHeld ?rlaa1
          case ylaa1 =>
            intro wx hSx
            go_simp
            try with_reducible rfl
          try simp only [Act.put, List.setIfInBounds_toArray, List.set_cons_zero, List.set_cons_succ]
          refine wpAnyH_take (i := 2) (oi := ⟨some 63, _, _, _, _, _⟩) (v := ?vlaa2) rfl (by kernel_rfl) (by kernel_rfl) (by kernel_rfl) (fun _ _ _ h => h) (Or.inl ⟨by rfl, ?ylaa2⟩) hHeld ?rlaa2
          case ylaa2 =>
            intro wx hSx
            go_simp
            try with_reducible rfl
          try simp only [Act.put, List.setIfInBounds_toArray, List.set_cons_zero, List.set_cons_succ]
          refine wpAnyH_take (i := 3) (oi := ⟨some 64, _, _, _, _, _⟩) (v := ?vlaa3) rfl (by kernel_rfl) (by kernel_rfl) (by kernel_rfl) (fun _ _ _ h => h) (Or.inl ⟨by rfl, ?ylaa3⟩) hHeld ?rlaa3
          case ylaa3 =>
            intro wx hSx
            go_simp
            try with_reducible rfl
          try simp only [Act.put, List.setIfInBounds_toArray, List.set_cons_zero, List.set_cons_succ]
          refine wpAnyH_take (i := 4) (oi := ⟨some 65, _, _, _, _, _⟩) (v := ?vlaa4) rfl (by kernel_rfl) (by kernel_rfl) (by kernel_rfl) (fun _ _ _ h => h) (Or.inl ⟨by rfl, ?ylaa4⟩) hHeld ?rlaa4
          case ylaa4 =>
            intro wx hSx
            go_simp
            try with_reducible rfl
          try simp only [Act.put, List.setIfInBounds_toArray, List.set_cons_zero, List.set_cons_succ]
          refine wpAnyH_take (i := 5) (oi := ⟨some 66, _, _, _, _, _⟩) (v := ?vlaa5) rfl (by kernel_rfl) (by kernel_rfl) (by kernel_rfl) (fun _ _ _ h => h) (Or.inl ⟨by rfl, ?ylaa5⟩) hHeld ?rlaa5
          case ylaa5 =>
            intro wx hSx
            go_simp
            try with_reducible rfl
          try simp only [Act.put, List.setIfInBounds_toArray, List.set_cons_zero, List.set_cons_succ]
          refine wpAnyH_take (i := 6) (oi := ⟨some 67, _, _, _, _, _⟩) (v := ?vlaa6) rfl (by kernel_rfl) (by kernel_rfl) (by kernel_rfl) (fun _ _ _ h => h) (Or.inl ⟨by rfl, ?ylaa6⟩) hHeld ?rlaa6
          case ylaa6 =>
            intro wx hSx
            go_simp
            try with_reducible rfl
          try simp only [Act.put, List.setIfInBounds_toArray, List.set_cons_zero, List.set_cons_succ]
          refine wpAnyH_take (i := 7) (oi := ⟨some 68, _, _, _, _, _⟩) (v := ?vlaa7) rfl (by kernel_rfl) (by kernel_rfl) (by kernel_rfl) (fun _ _ _ h => h) (Or.inl ⟨by rfl, ?ylaa7⟩) hHeld ?rlaa7
          case ylaa7 =>
            intro wx hSx
            go_simp
            try with_reducible rfl
          try simp only [Act.put, List.setIfInBounds_toArray, List.set_cons_zero, List.set_cons_succ]
          refine wpAnyH_take (i := 8) (oi := ⟨some 69, _, _, _, _, _⟩) (v := undef) rfl (by kernel_rfl) (by kernel_rfl) (by kernel_rfl) (fun _ _ _ h => h) (Or.inr ⟨by rfl, rfl⟩) hHeld ?rlaa8
          try simp only [Act.put, List.setIfInBounds_toArray, List.set_cons_zero, List.set_cons_succ]
          refine wpAnyH_take (i := 9) (oi := ⟨some 70, _, _, _, _, _⟩) (v := undef) rfl (by kernel_rfl) (by kernel_rfl) (by kernel_rfl) (fun _ _ _ h => h) (Or.inr ⟨by rfl, rfl⟩) hHeld ?rlaa9
          try simp only [Act.put, List.setIfInBounds_toArray, List.set_cons_zero, List.set_cons_succ]
          refine wpAnyH_take (i := 10) (oi := ⟨some 71, _, _, _, _, _⟩) (v := undef) rfl (by kernel_rfl) (by kernel_rfl) (by kernel_rfl) (fun _ _ _ h => h) (Or.inr ⟨by rfl, rfl⟩) hHeld ?rlaa10
          try simp only [Act.put, List.setIfInBounds_toArray, List.set_cons_zero, List.set_cons_succ]
          refine wpAnyH_take (i := 11) (oi := ⟨some 72, _, _, _, _, _⟩) (v := undef) rfl (by kernel_rfl) (by kernel_rfl) (by kernel_rfl) (fun _ _ _ h => h) (Or.inr ⟨by rfl, rfl⟩) hHeld ?rlaa11
          try simp only [Act.put, List.setIfInBounds_toArray, List.set_cons_zero, List.set_cons_succ]
          refine wpAnyH_take (i := 12) (oi := ⟨some 73, _, _, _, _, _⟩) (v := undef) rfl (by kernel_rfl) (by kernel_rfl) (by kernel_rfl) (fun _ _ _ h => h) (Or.inr ⟨by rfl, rfl⟩) hHeld ?rlaa12
          try simp only [Act.put, List.setIfInBounds_toArray, List.set_cons_zero, List.set_cons_succ]
          refine wpAnyH_take (i := 13) (oi := ⟨some 74, _, _, _, _, _⟩) (v := undef) rfl (by kernel_rfl) (by kernel_rfl) (by kernel_rfl) (fun _ _ _ h => h) (Or.inr ⟨by rfl, rfl⟩) hHeld ?rlaa13
          try simp only [Act.put, List.setIfInBounds_toArray, List.set_cons_zero, List.set_cons_succ]
          refine wpAnyH_take (i := 14) (oi := ⟨some 75, _, _, _, _, _⟩) (v := undef) rfl (by kernel_rfl) (by kernel_rfl) (by kernel_rfl) (fun _ _ _ h => h) (Or.inr ⟨by rfl, rfl⟩) hHeld ?rlaa14
          try simp only [Act.put, List.setIfInBounds_toArray, List.set_cons_zero, List.set_cons_succ]
          refine wpAnyH_take (i := 15) (oi := ⟨some 76, _, _, _, _, _⟩) (v := undef) rfl (by kernel_rfl) (by kernel_rfl) (by kernel_rfl) (fun _ _ _ h => h) (Or.inr ⟨by rfl, rfl⟩) hHeld ?rlaa15
          try simp only [Act.put, List.setIfInBounds_toArray, List.set_cons_zero, List.set_cons_succ]
          refine wpAnyH_take (i := 16) (oi := ⟨some 77, _, _, _, _, _⟩) (v := ?vlaa16) rfl (by kernel_rfl) (by kernel_rfl) (by kernel_rfl) (fun _ _ _ h => h) (Or.inl ⟨by rfl, ?ylaa16⟩) hHeld ?rlaa16
          case ylaa16 =>
            intro wx hSx
            go_simp
            try with_reducible rfl
          try simp only [Act.put, List.setIfInBounds_toArray, List.set_cons_zero, List.set_cons_succ]
          refine wpAnyH_take (i := 17) (oi := ⟨some 78, _, _, _, _, _⟩) (v := ?vlaa17) rfl (by kernel_rfl) (by kernel_rfl) (by kernel_rfl) (fun _ _ _ h => h) (Or.inl ⟨by rfl, ?ylaa17⟩) hHeld ?rlaa17
          case ylaa17 =>
            intro wx hSx
            go_simp
            try with_reducible rfl
          try simp only [Act.put, List.setIfInBounds_toArray, List.set_cons_zero, List.set_cons_succ]
          refine wpAnyH_take (i := 18) (oi := ⟨some 79, _, _, _, _, _⟩) (v := ?vlaa18) rfl (by kernel_rfl) (by kernel_rfl) (by kernel_rfl) (fun _ _ _ h => h) (Or.inl ⟨by rfl, ?ylaa18⟩) hHeld ?rlaa18
          case ylaa18 =>
            intro wx hSx
            go_simp
            try with_reducible rfl
          try simp only [Act.put, List.setIfInBounds_toArray, List.set_cons_zero, List.set_cons_succ]
          refine wpAnyH_take (i := 19) (oi := ⟨some 80, _, _, _, _, _⟩) (v := ?vlaa19) rfl (by kernel_rfl) (by kernel_rfl) (by kernel_rfl) (fun _ _ _ h => h) (Or.inl ⟨by rfl, ?ylaa19⟩) hHeld ?rlaa19
          case ylaa19 =>
            intro wx hSx
            go_simp
            try with_reducible rfl
          try simp only [Act.put, List.setIfInBounds_toArray, List.set_cons_zero, List.set_cons_succ]
          refine wpAnyH_take (i := 20) (oi := ⟨some 81, _, _, _, _, _⟩) (v := ?vlaa20) rfl (by kernel_rfl) (by kernel_rfl) (by kernel_rfl) (fun _ _ _ h => h) (Or.inl ⟨by rfl, ?ylaa20⟩) hHeld ?rlaa20
          case ylaa20 =>
            intro wx hSx
            go_simp
            try with_reducible rfl
          try simp only [Act.put, List.setIfInBounds_toArray, List.set_cons_zero, List.set_cons_succ]
          refine wpAnyH_take (i := 21) (oi := ⟨some 82, _, _, _, _, _⟩) (v := ?vlaa21) rfl (by kernel_rfl) (by kernel_rfl) (by kernel_rfl) (fun _ _ _ h => h) (Or.inl ⟨by rfl, ?ylaa21⟩) hHeld ?rlaa21
          case ylaa21 =>
            intro wx hSx
            go_simp
            try with_reducible rfl
          try simp only [Act.put, List.setIfInBounds_toArray, List.set_cons_zero, List.set_cons_succ]
          refine wpAnyH_take (i := 22) (oi := ⟨some 83, _, _, _, _, _⟩) (v := ?vlaa22) rfl (by kernel_rfl) (by kernel_rfl) (by kernel_rfl) (fun _ _ _ h => h) (Or.inl ⟨by rfl, ?ylaa22⟩) hHeld ?rlaa22
          case ylaa22 =>
            intro wx hSx
            have z4 := cell_at hSx 0
            have z5 := cell_at hSx 1
            simp only [List.getElem?_toArray, List.getElem?_cons_succ, List.getElem?_cons_zero] at z4 z5
            go_simp
            try with_reducible rfl
          try simp only [Act.put, List.setIfInBounds_toArray, List.set_cons_zero, List.set_cons_succ]
          refine wpAnyH_take (i := 23) (oi := ⟨some 84, _, _, _, _, _⟩) (v := ?vlaa23) rfl (by kernel_rfl) (by kernel_rfl) (by kernel_rfl) (fun _ _ _ h => h) (Or.inl ⟨by rfl, ?ylaa23⟩) hHeld ?rlaa23
          case ylaa23 =>
            intro wx hSx
            go_simp
            try with_reducible rfl
          try simp only [Act.put, List.setIfInBounds_toArray, List.set_cons_zero, List.set_cons_succ]
          refine wpAnyH_take (i := 24) (oi := ⟨some 85, _, _, _, _, _⟩) (v := ?vlaa24) rfl (by kernel_rfl) (by kernel_rfl) (by kernel_rfl) (fun _ _ _ h => h) (Or.inl ⟨by rfl, ?ylaa24⟩) hHeld ?rlaa24
          case ylaa24 =>
            intro wx hSx
            go_simp
            try with_reducible rfl
          try simp only [Act.put, List.setIfInBounds_toArray, List.set_cons_zero, List.set_cons_succ]
          refine wpAnyH_take (i := 25) (oi := ⟨some 86, _, _, _, _, _⟩) (v := ?vlaa25) rfl (by kernel_rfl) (by kernel_rfl) (by kernel_rfl) (fun _ _ _ h => h) (Or.inl ⟨by rfl, ?ylaa25⟩) hHeld ?rlaa25
          case ylaa25 =>
            intro wx hSx
            go_simp
            try with_reducible rfl
          try simp only [Act.put, List.setIfInBounds_toArray, List.set_cons_zero, List.set_cons_succ]
          refine wpAnyH_take (i := 26) (oi := ⟨some 87, _, _, _, _, _⟩) (v := ?vlaa26) rfl (by kernel_rfl) (by kernel_rfl) (by kernel_rfl) (fun _ _ _ h => h) (Or.inl ⟨by rfl, ?ylaa26⟩) hHeld ?rlaa26
          case ylaa26 =>
            intro wx hSx
            go_simp
            try with_reducible rfl
          try simp only [Act.put, List.setIfInBounds_toArray, List.set_cons_zero, List.set_cons_succ]
          refine wpAnyH_done (by kernel_rfl) ?_ _
          clear hHeld hzq
          have HKN := Lib.hid (HKD.out.less (ts' := [Th.row LK (.slice (some ⟨g7, 0, none⟩) 2 2) ks, Th.row LM (.slice A r.l.length c) r.l]) (fun t ht => List.mem_cons_of_mem _ ht))
          go_wp2_with fail
          refine ⟨⟨a + 1, by go_num, by omega, HKN⟩, ?_⟩
          simp [intOf]; omega
        · rw [he] at HRG
          have hq0 : gotP r.l k = y.po := by unfold gotP; rw [hgy]; rfl
          rw [hq0, show (getM r.l k).isSome = true by rw [hgy]; rfl] at HGT
          unfold Rk.val Po.val at *
          have HY2 := Lib.hid hy
          have hi2 := (List.getElem?_eq_some_iff.1 hy).1
          obtain ⟨bu, ou, rfl, -⟩ := (HA.out.is (t := Th.row LM (.slice A r.l.length c) r.l) (List.mem_cons_of_mem _ List.mem_cons_self) : LM.Slice wr _ r.l).at hy
          clear he hgy hq0 hk hy hyk
          go_wp2_with fail
          go_at_call 19
          refine (HOF.out _).mono ?_
          rintro e w4 ⟨rfl, g4⟩
          have HK4 := Lib.hid (HA.out.later g4.below)
          clear g4 y0 y1 y2 y3 HA
          go_wp2_with fail
          go_at_call 18
          refine (HGT.out _ (HK4.out.ct (i := 0) rfl)).mono ?_
          rintro e w5 ⟨rfl, b5⟩
          have HK5 := Lib.hid (HK4.out.later b5)
          clear b5 HK4
          have HK6 := Lib.hid (HK5.out.add (below_new w5 (.cells #[.int .i64 y.po.depth, .string y.po.id] 36)) (t := Th.box w5.heap.size (.cells #[.int .i64 y.po.depth, .string y.po.id] 36 (0, 0))) (heap_alloc_new w5 _) (fun k hk => .inl (Nat.le_of_eq hk.symm)))
          go_upto_region 11 with (fail)
          generalize World.alloc _ _ = w6 at HK6 ⊢
          generalize w5.heap.size = B9 at HK6 ⊢
          clear HK5
          obtain ⟨y0, y1, y2, y3⟩ := HCK.out w6 (HK6.out.is (t := Th.row LK (.slice (some ⟨g7, 0, none⟩) 2 2) ks) (List.mem_cons_of_mem _ List.mem_cons_self))
          go_wp2_with fail
          go_at_call 20
          refine (HRG.out _ (HK6.out.is (t := Th.row LM (.slice (some ⟨bu, ou, none⟩) r.l.length c) r.l) (List.mem_cons_of_mem _ (List.mem_cons_of_mem _ List.mem_cons_self)))).mono ?_
          rintro e w7 ⟨rfl, g7⟩
          have HK9 := Lib.hid (HK6.out.later g7.below)
          clear g7 y0 y1 y2 y3 HK6 HGT HRG HOF HCK hix
          go_upto_region 12 with (fail)
          have hzq := eqlP y.po y.po
          rw [decide_eq_true rfl] at hzq
          have hiy2 := index_any (P := Try.prog) knM (by decide) (b := bu) (off := ou) (cap := c) hi2
          simp only [LM] at hiy2
          have hge : decide ((0 : Int) ≤ (i2 : Int)) = true := decide_eq_true (by omega)
          have hlt : decide ((i2 : Int) < 0) = false := decide_eq_false (by omega)
          have hmx : ¬ ((0 : Int) > (i2 : Int)) := by omega
          refine wp_region_held_drew (S := fun W => W.heap[B9]? = some (.cells #[.int .i64 y.po.depth, .string y.po.id] 36 (0, 0)) ∧ LM.Slice W (.slice (some ⟨bu, ou, none⟩) r.l.length c) r.l) (by kernel_rfl) ⟨HK9.out.is (t := Th.box B9 (.cells #[.int .i64 y.po.depth, .string y.po.id] 36 (0, 0))) List.mem_cons_self, HK9.out.is (t := Th.row LM (.slice (some ⟨bu, ou, none⟩) r.l.length c) r.l) (List.mem_cons_of_mem _ (List.mem_cons_of_mem _ List.mem_cons_self))⟩ (fun hHeld => ?_)
          have HKD := Lib.hid (HK9.out.later (below_drew _))
          clear HK9
          generalize World.drew _ = wd at HKD hHeld ⊢
          refine wpAnyH_take (i := 0) (oi := ⟨some 61, _, _, _, _, _⟩) (v := ?vlab0) rfl (by kernel_rfl) (by kernel_rfl) (by kernel_rfl) (fun _ _ _ h => h) (Or.inl ⟨by rfl, ?ylab0⟩) hHeld ?rlab0
          case ylab0 =>
            intro wx hSx
            go_simp
            try with_reducible rfl
          try simp only [Act.put, List.setIfInBounds_toArray, List.set_cons_zero, List.set_cons_succ]
          refine wpAnyH_take (i := 1) (oi := ⟨some 62, _, _, _, _, _⟩) (v := ?vlab1) rfl (by kernel_rfl) (by kernel_rfl) (by kernel_rfl) (fun _ _ _ h => h) (Or.inl ⟨by rfl, ?ylab1⟩) hHeld ?rlab1
          case ylab1 =>
            intro wx hSx
            go_simp
            try with_reducible rfl
          try simp only [Act.put, List.setIfInBounds_toArray, List.set_cons_zero, List.set_cons_succ]
          refine wpAnyH_take (i := 2) (oi := ⟨some 63, _, _, _, _, _⟩) (v := ?vlab2) rfl (by kernel_rfl) (by kernel_rfl) (by kernel_rfl) (fun _ _ _ h => h) (Or.inl ⟨by rfl, ?ylab2⟩) hHeld ?rlab2
          case ylab2 =>
            intro wx hSx
            go_simp
            try with_reducible rfl
          try simp only [Act.put, List.setIfInBounds_toArray, List.set_cons_zero, List.set_cons_succ]
          refine wpAnyH_take (i := 3) (oi := ⟨some 64, _, _, _, _, _⟩) (v := ?vlab3) rfl (by kernel_rfl) (by kernel_rfl) (by kernel_rfl) (fun _ _ _ h => h) (Or.inl ⟨by rfl, ?ylab3⟩) hHeld ?rlab3
          case ylab3 =>
            intro wx hSx
            go_simp
            try with_reducible rfl
          try simp only [Act.put, List.setIfInBounds_toArray, List.set_cons_zero, List.set_cons_succ]
          refine wpAnyH_take (i := 4) (oi := ⟨some 65, _, _, _, _, _⟩) (v := ?vlab4) rfl (by kernel_rfl) (by kernel_rfl) (by kernel_rfl) (fun _ _ _ h => h) (Or.inl ⟨by rfl, ?ylab4⟩) hHeld ?rlab4
          case ylab4 =>
            intro wx hSx
            go_simp
            try with_reducible rfl
          try simp only [Act.put, List.setIfInBounds_toArray, List.set_cons_zero, List.set_cons_succ]
          refine wpAnyH_take (i := 5) (oi := ⟨some 66, _, _, _, _, _⟩) (v := ?vlab5) rfl (by kernel_rfl) (by kernel_rfl) (by kernel_rfl) (fun _ _ _ h => h) (Or.inl ⟨by rfl, ?ylab5⟩) hHeld ?rlab5
          case ylab5 =>
            intro wx hSx
            go_simp
            try with_reducible rfl
          try simp only [Act.put, List.setIfInBounds_toArray, List.set_cons_zero, List.set_cons_succ]
          refine wpAnyH_take (i := 6) (oi := ⟨some 67, _, _, _, _, _⟩) (v := ?vlab6) rfl (by kernel_rfl) (by kernel_rfl) (by kernel_rfl) (fun _ _ _ h => h) (Or.inl ⟨by rfl, ?ylab6⟩) hHeld ?rlab6
          case ylab6 =>
            intro wx hSx
            go_simp
            try with_reducible rfl
          try simp only [Act.put, List.setIfInBounds_toArray, List.set_cons_zero, List.set_cons_succ]
          refine wpAnyH_take (i := 7) (oi := ⟨some 68, _, _, _, _, _⟩) (v := ?vlab7) rfl (by kernel_rfl) (by kernel_rfl) (by kernel_rfl) (fun _ _ _ h => h) (Or.inl ⟨by rfl, ?ylab7⟩) hHeld ?rlab7
          case ylab7 =>
            intro wx hSx
            go_simp
            try with_reducible rfl
          try simp only [Act.put, List.setIfInBounds_toArray, List.set_cons_zero, List.set_cons_succ]
          refine wpAnyH_take (i := 8) (oi := ⟨some 69, _, _, _, _, _⟩) (v := ?vlab8) rfl (by kernel_rfl) (by kernel_rfl) (by kernel_rfl) (fun _ _ _ h => h) (Or.inl ⟨by rfl, ?ylab8⟩) hHeld ?rlab8
          case ylab8 =>
            intro wx hSx
            have z4 := cell_at hSx.1 0
            have z5 := cell_at hSx.1 1
            simp only [List.getElem?_toArray, List.getElem?_cons_succ, List.getElem?_cons_zero] at z4 z5
            go_simp
            try with_reducible rfl
          try simp only [Act.put, List.setIfInBounds_toArray, List.set_cons_zero, List.set_cons_succ]
          refine wpAnyH_take (i := 9) (oi := ⟨some 70, _, _, _, _, _⟩) (v := ?vlab9) rfl (by kernel_rfl) (by kernel_rfl) (by kernel_rfl) (fun _ _ _ h => h) (Or.inl ⟨by rfl, ?ylab9⟩) hHeld ?rlab9
          case ylab9 =>
            intro wx hSx
            go_simp
            try with_reducible rfl
          try simp only [Act.put, List.setIfInBounds_toArray, List.set_cons_zero, List.set_cons_succ]
          refine wpAnyH_take (i := 10) (oi := ⟨some 71, _, _, _, _, _⟩) (v := ?vlab10) rfl (by kernel_rfl) (by kernel_rfl) (by kernel_rfl) (fun _ _ _ h => h) (Or.inl ⟨by rfl, ?ylab10⟩) hHeld ?rlab10
          case ylab10 =>
            intro wx hSx
            go_simp
            try with_reducible rfl
          try simp only [Act.put, List.setIfInBounds_toArray, List.set_cons_zero, List.set_cons_succ]
          refine wpAnyH_take (i := 11) (oi := ⟨some 72, _, _, _, _, _⟩) (v := ?vlab11) rfl (by kernel_rfl) (by kernel_rfl) (by kernel_rfl) (fun _ _ _ h => h) (Or.inl ⟨by rfl, ?ylab11⟩) hHeld ?rlab11
          case ylab11 =>
            intro wx hSx
            go_simp
            try with_reducible rfl
          try simp only [Act.put, List.setIfInBounds_toArray, List.set_cons_zero, List.set_cons_succ]
          refine wpAnyH_take (i := 12) (oi := ⟨some 73, _, _, _, _, _⟩) (v := ?vlab12) rfl (by kernel_rfl) (by kernel_rfl) (by kernel_rfl) (fun _ _ _ h => h) (Or.inl ⟨by rfl, ?ylab12⟩) hHeld ?rlab12
          case ylab12 =>
            intro wx hSx
            go_simp
            try with_reducible rfl
          try simp only [Act.put, List.setIfInBounds_toArray, List.set_cons_zero, List.set_cons_succ]
          refine wpAnyH_take (i := 13) (oi := ⟨some 74, _, _, _, _, _⟩) (v := ?vlab13) rfl (by kernel_rfl) (by kernel_rfl) (by kernel_rfl) (fun _ _ _ h => h) (Or.inl ⟨by rfl, ?ylab13⟩) hHeld ?rlab13
          case ylab13 =>
            intro wx hSx
            go_simp
            try with_reducible rfl
          try simp only [Act.put, List.setIfInBounds_toArray, List.set_cons_zero, List.set_cons_succ]
          refine wpAnyH_take (i := 14) (oi := ⟨some 75, _, _, _, _, _⟩) (v := ?vlab14) rfl (by kernel_rfl) (by kernel_rfl) (by kernel_rfl) (fun _ _ _ h => h) (Or.inl ⟨by rfl, ?ylab14⟩) hHeld ?rlab14
          case ylab14 =>
            intro wx hSx
            obtain ⟨-, -, -, -, z4, z5⟩ := range6 (hSx.2.cells HY2.out)
            simp only [LM] at z4 z5
            go_simp
            try with_reducible rfl
          try simp only [Act.put, List.setIfInBounds_toArray, List.set_cons_zero, List.set_cons_succ]
          refine wpAnyH_take (i := 15) (oi := ⟨some 76, _, _, _, _, _⟩) (v := ?vlab15) rfl (by kernel_rfl) (by kernel_rfl) (by kernel_rfl) (fun _ _ _ h => h) (Or.inl ⟨by rfl, ?ylab15⟩) hHeld ?rlab15
          case ylab15 =>
            intro wx hSx
            go_simp
            try with_reducible rfl
          try simp only [Act.put, List.setIfInBounds_toArray, List.set_cons_zero, List.set_cons_succ]
          refine wpAnyH_take (i := 16) (oi := ⟨some 77, _, _, _, _, _⟩) (v := ?vlab16) rfl (by kernel_rfl) (by kernel_rfl) (by kernel_rfl) (fun _ _ _ h => h) (Or.inl ⟨by rfl, ?ylab16⟩) hHeld ?rlab16
          case ylab16 =>
            intro wx hSx
            go_simp
            try with_reducible rfl
          try simp only [Act.put, List.setIfInBounds_toArray, List.set_cons_zero, List.set_cons_succ]
          refine wpAnyH_take (i := 17) (oi := ⟨some 78, _, _, _, _, _⟩) (v := ?vlab17) rfl (by kernel_rfl) (by kernel_rfl) (by kernel_rfl) (fun _ _ _ h => h) (Or.inl ⟨by rfl, ?ylab17⟩) hHeld ?rlab17
          case ylab17 =>
            intro wx hSx
            go_simp
            try with_reducible rfl
          try simp only [Act.put, List.setIfInBounds_toArray, List.set_cons_zero, List.set_cons_succ]
          refine wpAnyH_take (i := 18) (oi := ⟨some 79, _, _, _, _, _⟩) (v := ?vlab18) rfl (by kernel_rfl) (by kernel_rfl) (by kernel_rfl) (fun _ _ _ h => h) (Or.inl ⟨by rfl, ?ylab18⟩) hHeld ?rlab18
          case ylab18 =>
            intro wx hSx
            go_simp
            try with_reducible rfl
          try simp only [Act.put, List.setIfInBounds_toArray, List.set_cons_zero, List.set_cons_succ]
          refine wpAnyH_take (i := 19) (oi := ⟨some 80, _, _, _, _, _⟩) (v := ?vlab19) rfl (by kernel_rfl) (by kernel_rfl) (by kernel_rfl) (fun _ _ _ h => h) (Or.inl ⟨by rfl, ?ylab19⟩) hHeld ?rlab19
          case ylab19 =>
            intro wx hSx
            go_simp
            try with_reducible rfl
          try simp only [Act.put, List.setIfInBounds_toArray, List.set_cons_zero, List.set_cons_succ]
          refine wpAnyH_take (i := 20) (oi := ⟨some 81, _, _, _, _, _⟩) (v := ?vlab20) rfl (by kernel_rfl) (by kernel_rfl) (by kernel_rfl) (fun _ _ _ h => h) (Or.inl ⟨by rfl, ?ylab20⟩) hHeld ?rlab20
          case ylab20 =>
            intro wx hSx
            go_simp
            try with_reducible rfl
          try simp only [Act.put, List.setIfInBounds_toArray, List.set_cons_zero, List.set_cons_succ]
          refine wpAnyH_take (i := 21) (oi := ⟨some 82, _, _, _, _, _⟩) (v := ?vlab21) rfl (by kernel_rfl) (by kernel_rfl) (by kernel_rfl) (fun _ _ _ h => h) (Or.inl ⟨by rfl, ?ylab21⟩) hHeld ?rlab21
          case ylab21 =>
            intro wx hSx
            go_simp
            try with_reducible rfl
          try simp only [Act.put, List.setIfInBounds_toArray, List.set_cons_zero, List.set_cons_succ]
          refine wpAnyH_take (i := 22) (oi := ⟨some 83, _, _, _, _, _⟩) (v := undef) rfl (by kernel_rfl) (by kernel_rfl) (by kernel_rfl) (fun _ _ _ h => h) (Or.inr ⟨by rfl, rfl⟩) hHeld ?rlab22
          try simp only [Act.put, List.setIfInBounds_toArray, List.set_cons_zero, List.set_cons_succ]
          refine wpAnyH_take (i := 23) (oi := ⟨some 84, _, _, _, _, _⟩) (v := undef) rfl (by kernel_rfl) (by kernel_rfl) (by kernel_rfl) (fun _ _ _ h => h) (Or.inr ⟨by rfl, rfl⟩) hHeld ?rlab23
          try simp only [Act.put, List.setIfInBounds_toArray, List.set_cons_zero, List.set_cons_succ]
          refine wpAnyH_take (i := 24) (oi := ⟨some 85, _, _, _, _, _⟩) (v := undef) rfl (by kernel_rfl) (by kernel_rfl) (by kernel_rfl) (fun _ _ _ h => h) (Or.inr ⟨by rfl, rfl⟩) hHeld ?rlab24
          try simp only [Act.put, List.setIfInBounds_toArray, List.set_cons_zero, List.set_cons_succ]
          refine wpAnyH_take (i := 25) (oi := ⟨some 86, _, _, _, _, _⟩) (v := ?vlab25) rfl (by kernel_rfl) (by kernel_rfl) (by kernel_rfl) (fun _ _ _ h => h) (Or.inl ⟨by rfl, ?ylab25⟩) hHeld ?rlab25
          case ylab25 =>
            intro wx hSx
            go_simp
            try with_reducible rfl
          try simp only [Act.put, List.setIfInBounds_toArray, List.set_cons_zero, List.set_cons_succ]
          refine wpAnyH_take (i := 26) (oi := ⟨some 87, _, _, _, _, _⟩) (v := ?vlab26) rfl (by kernel_rfl) (by kernel_rfl) (by kernel_rfl) (fun _ _ _ h => h) (Or.inl ⟨by rfl, ?ylab26⟩) hHeld ?rlab26
          case ylab26 =>
            intro wx hSx
            go_simp
            try with_reducible rfl
          try simp only [Act.put, List.setIfInBounds_toArray, List.set_cons_zero, List.set_cons_succ]
          refine wpAnyH_done (by kernel_rfl) ?_ _
          clear hHeld hzq
          have HKN := Lib.hid (HKD.out.less (ts' := [Th.row LK (.slice (some ⟨g7, 0, none⟩) 2 2) ks, Th.row LM (.slice (some ⟨bu, ou, none⟩) r.l.length c) r.l]) (fun t ht => List.mem_cons_of_mem _ ht))
          go_wp2_with fail
          refine ⟨⟨a + 1, by go_num, by omega, HKN⟩, ?_⟩
          simp [intOf]; omega
      · have tq1 : decide ((a : Int) < 2) = false := decide_eq_false (by omega)
        go_wp2_with fail
        go_at_call 15
        refine (HLV.out _).mono ?_
        rintro e wl ⟨rfl, hbl⟩
        have HBL := Lib.hid (HA.out.below.trans (hbl.mono HA.out.below.size))
        clear hbl
        go_wp2_with fail
        go_ret
        exact ⟨rfl, HBL.out⟩
  · have tq0 : decide ((0 : Int) < (r.l.length : Int)) = true := decide_eq_true (by omega)
    have tq00 : decide (0 < r.l.length) = true := decide_eq_true (by omega)
    have hh : r.l.length / 2 < r.l.length := by omega
    have hqd : (r.l.length : Int).tdiv 2 = ((r.l.length / 2 : Nat) : Int) := by
      rw [Int.tdiv_eq_ediv_of_nonneg (by omega)]
      omega
    obtain ⟨x, hx⟩ : ∃ x, r.l[r.l.length / 2]? = some x := ⟨_, List.getElem?_eq_getElem hh⟩
    have HXO := Lib.hid (HOK.out x (List.mem_of_getElem? hx)).1
    obtain ⟨bu, ou, rfl, hbo, hco⟩ := (HK7.out.is (t := Th.row LM (.slice A r.l.length c) r.l) (List.mem_cons_of_mem _ List.mem_cons_self) : LM.Slice wk _ r.l).at hx
    have hiy := index_any (P := Try.prog) knM (by decide) (b := bu) (off := ou) (cap := c) hh
    simp only [LM] at hiy hco
    obtain ⟨y0, y1, y2, y3, -, -⟩ := range6 hco
    generalize r.l.length / 2 = hf at hqd hiy y0 y1 y2 y3 hco hh
    have hhf : hf ≤ 12 := by omega
    have hlit := Lib.hid (lit_slice (L := LK) wk x.k wk.heap.size rfl #[.string x.k.room, .string x.k.user, .string x.k.thread, .bool x.k.priv] rfl)
    replace hlit := Lib.hid (show LK.Slice (wk.alloc (.cells #[.string x.k.room, .string x.k.user, .string x.k.thread, .bool x.k.priv] 34)) (.slice (some ⟨wk.heap.size, 0, none⟩) 1 1) [x.k] from hlit.out)
    have HK8 := Lib.hid (HK7.out.later (below_new wk (.cells #[.string x.k.room, .string x.k.user, .string x.k.thread, .bool x.k.priv] 34)))
    have hm8 : LK.Mine (wk.alloc (.cells #[.string x.k.room, .string x.k.user, .string x.k.thread, .bool x.k.priv] 34)) w.heap.size (.slice (some ⟨g7, 0, none⟩) 2 2) (twoK m) := HK8.out.is (t := Th.mine LK w.heap.size (.slice (some ⟨g7, 0, none⟩) 2 2) (twoK m)) List.mem_cons_self
    have hsz8 := HK8.out.below.size
    obtain ⟨ks, hks⟩ : ∃ ks, twoK m ++ [x.k] = ks := ⟨_, rfl⟩
    have hkl : ks.length = 3 := by rw [← hks]; rfl
    have HKS : Hid (∀ k ∈ ks, k.ok) := Lib.hid (by
      intro k hk
      rw [← hks] at hk
      simp only [List.mem_append, List.mem_cons, List.not_mem_nil, or_false] at hk
      rcases hk with (rfl | rfl) | rfl
      · exact HMO.out.1
      · exact HMO.out.2
      · exact HXO.out)
    clear hx hco HXO HMO hl0 hh
    go_upto_region 7 with (at_builtin; refine wpList_puts rfl knK (.tmp 29) (.tmp 37) 40 rfl (v := .slice (some ⟨g7, 0, none⟩) 2 2) rfl hm8 hsz8 (.slice (some ⟨wk.heap.size, 0, none⟩) 1 1) [x.k] 1 rfl rfl (hlit.out.srcN knK rfl) (show 2 + 1 ≤ 1000000 by decide) ?_; rw [show (twoK m).length + 1 = 3 from rfl, hks]; intro A8 c8 w8 m8 g8 o8)
    have HAP : Hid (∀ q, (Value.slice (some ⟨bu, ou, none⟩) r.l.length c).ownBlock = some q → 0 < r.l.length → q ≠ g7) := Lib.hid HAP0.out
    have hw8 : LM.Slice w8 (.slice (some ⟨bu, ou, none⟩) r.l.length c) r.l := (HK8.out.is (t := Th.row LM (.slice (some ⟨bu, ou, none⟩) r.l.length c) r.l) (List.mem_cons_of_mem _ List.mem_cons_self) : LM.Slice _ _ r.l).stay0 g8.size (fun q hq h0 hv => g8.block q hq (fun e => HAP.out q hv h0 (by injection e)))
    obtain ⟨b8, o8', rfl⟩ : ∃ b o, A8 = some ⟨b, o, none⟩ := by
      rcases m8 with ⟨hv, _⟩ | ⟨b, o, _, _, hv, _⟩
      · injection hv with _ e _
        omega
      · injection hv with e _ _
        exact ⟨b, o, e⟩
    have HK : Hid (Kt w w8 [r] [Th.row LK (.slice (some ⟨b8, o8', none⟩) 3 c8) ks, Th.row LM (.slice (some ⟨bu, ou, none⟩) r.l.length c) r.l]) := Lib.hid (by
      have hk8 := HK8.out.less (ts' := [Th.mine LK w.heap.size (.slice (some ⟨g7, 0, none⟩) 2 2) (twoK m)]) (fun t ht => by rw [List.mem_singleton] at ht; subst ht; exact List.mem_cons_self)
      have hk9 := hk8.put (t' := Th.mine LK w.heap.size (.slice (some ⟨b8, o8', none⟩) 3 c8) ks) g8 (fun k hk => ⟨hk, (hm8.lt k hk).1, fun t ht => by cases ht⟩) m8 (fun k hk => o8 k hk)
      have hk10 := hk9.add (t := Th.row LK (.slice (some ⟨b8, o8', none⟩) 3 c8) ks) (Below.refl _ _) m8.slice (fun k hk => .inr ⟨_, List.mem_cons_self, hk.2⟩)
      have hk11 := hk10.with (t := Th.row LM (.slice (some ⟨bu, ou, none⟩) r.l.length c) r.l) hw8 (fun k hk j u hu => (HK8.out.th (Th.row LM (.slice (some ⟨bu, ou, none⟩) r.l.length c) r.l) (List.mem_cons_of_mem _ List.mem_cons_self)).2 j u hu k hk)
      exact hk11.less (fun t ht => by
        rcases List.mem_cons.1 ht with rfl | ht
        · exact List.mem_cons_of_mem _ List.mem_cons_self
        · rw [List.mem_singleton] at ht
          subst ht
          exact List.mem_cons_self))
    clear HK8 HK7 HAP HAP0 hm8 hw8 m8 g8 o8 hlit hsz8 hiy y0 y1 y2 y3 hqd hhf hks
    have A := 0
    clear A
    go_wp2_with fail
    go_loopw [8, 9, 10, 11] (fun i _ _ _ wr => ∃ a : Nat, i = .int .i64 (a : Int) ∧ a ≤ 3 ∧ Hid (Kt w wr [r] [Th.row LK (.slice (some ⟨b8, o8', none⟩) 3 c8) ks, Th.row LM (.slice (some ⟨bu, ou, none⟩) r.l.length c) r.l])) (fun i _ _ _ _ => 3 - (intOf i).toNat)
    case atStart => exact ⟨0, rfl, Nat.zero_le _, HK⟩
    case round =>
      obtain ⟨a, rfl, ha, HA⟩ := hrel
      clear HK
      by_cases hat : a < 3
      · have tq1 : decide ((a : Int) < 3) = true := decide_eq_true (by omega)
        obtain ⟨k, hk⟩ : ∃ k, ks[a]? = some k := ⟨_, List.getElem?_eq_getElem (by omega)⟩
        have HKO := Lib.hid (HKS.out k (List.mem_of_getElem? hk))
        have HCK := Lib.hid (fun W (h : LK.Slice W (.slice (some ⟨b8, o8', none⟩) 3 c8) ks) => range4 (h.cells hk))
        have hix := index_any (P := Try.prog) knK (by decide) (b := b8) (off := o8') (cap := c8) hat
        simp only [LK] at hix HCK
        have HOF := Lib.hid (fun W => of_any k W)
        have HGT := Lib.hid (fun W (hc : CRs W r) => rcGet_any hc k HKO.out)
        have HRG := Lib.hid (fun W (h : LM.Slice W (.slice (some ⟨bu, ou, none⟩) r.l.length c) r.l) => refGetM_any _ r.l k W h)
        obtain ⟨y0, y1, y2, y3⟩ := HCK.out wr (HA.out.is (t := Th.row LK (.slice (some ⟨b8, o8', none⟩) 3 c8) ks) List.mem_cons_self)
        rcases idxM_cases r.l k with ⟨he, hn⟩ | ⟨i2, y, he, hy, hyk, hgy⟩
        · rw [he] at HRG
          have hq0 : gotP r.l k = ⟨0, ⟨#[]⟩⟩ := by unfold gotP; rw [hn]; rfl
          rw [hq0, show (getM r.l k).isSome = false by rw [hn]; rfl] at HGT
          unfold Rk.val Po.val at *
          clear he hn hq0 hk
          go_wp2_with fail
          go_at_call 19
          refine (HOF.out _).mono ?_
          rintro e w4 ⟨rfl, g4⟩
          have HK4 := Lib.hid (HA.out.later g4.below)
          clear g4 y0 y1 y2 y3 HA
          go_wp2_with fail
          go_at_call 18
          refine (HGT.out _ (HK4.out.ct (i := 0) rfl)).mono ?_
          rintro e w5 ⟨rfl, b5⟩
          have HK5 := Lib.hid (HK4.out.later b5)
          clear b5 HK4
          have HK6 := Lib.hid (HK5.out.add (below_new w5 (.cells #[.int .i64 0, .string ⟨#[]⟩] 36)) (t := Th.box w5.heap.size (.cells #[.int .i64 0, .string ⟨#[]⟩] 36 (0, 0))) (heap_alloc_new w5 _) (fun k hk => .inl (Nat.le_of_eq hk.symm)))
          go_upto_region 11 with (fail)
          generalize World.alloc _ _ = w6 at HK6 ⊢
          generalize w5.heap.size = B9 at HK6 ⊢
          clear HK5
          obtain ⟨y0, y1, y2, y3⟩ := HCK.out w6 (HK6.out.is (t := Th.row LK (.slice (some ⟨b8, o8', none⟩) 3 c8) ks) (List.mem_cons_of_mem _ List.mem_cons_self))
          go_wp2_with fail
          go_at_call 20
          refine (HRG.out _ (HK6.out.is (t := Th.row LM (.slice (some ⟨bu, ou, none⟩) r.l.length c) r.l) (List.mem_cons_of_mem _ (List.mem_cons_of_mem _ List.mem_cons_self)))).mono ?_
          rintro e w7 ⟨rfl, g7⟩
          have HK9 := Lib.hid (HK6.out.later g7.below)
          clear g7 y0 y1 y2 y3 HK6 HGT HRG HOF HCK hix
          go_upto_region 12 with (fail)
          have hzq := eqlP ⟨0, ⟨#[]⟩⟩ ⟨0, ⟨#[]⟩⟩
          rw [decide_eq_true rfl] at hzq
          simp only at hzq
          refine wp_region_held_drew (S := fun W => W.heap[B9]? = some (.cells #[.int .i64 0, .string ⟨#[]⟩] 36 (0, 0))) (by kernel_rfl) (HK9.out.is (t := Th.box B9 (.cells #[.int .i64 0, .string ⟨#[]⟩] 36 (0, 0))) List.mem_cons_self) (fun hHeld => ?_)
          have HKD := Lib.hid (HK9.out.later (below_drew _))
          clear HK9
          generalize World.drew _ = wd at HKD hHeld ⊢
          refine wpAnyH_take (i := 0) (oi := ⟨some 61, _, _, _, _, _⟩) (v := ?vlba0) rfl (by kernel_rfl) (by kernel_rfl) (by kernel_rfl) (fun _ _ _ h => h) (Or.inl ⟨by rfl, ?ylba0⟩) hHeld ?rlba0
          case ylba0 =>
            intro wx hSx
            go_simp
            try with_reducible rfl
          try simp only [Act.put, List.setIfInBounds_toArray, List.set_cons_zero, List.set_cons_succ]
          refine wpAnyH_take (i := 1) (oi := ⟨some 62, _, _, _, _, _⟩) (v := ?vlba1) rfl (by kernel_rfl) (by kernel_rfl) (by kernel_rfl) (fun _ _ _ h => h) (Or.inl ⟨by rfl, ?ylba1⟩) hHeld ?rlba1
          case ylba1 =>
            intro wx hSx
            go_simp
            try with_reducible rfl
          try simp only [Act.put, List.setIfInBounds_toArray, List.set_cons_zero, List.set_cons_succ]
          refine wpAnyH_take (i := 2) (oi := ⟨some 63, _, _, _, _, _⟩) (v := ?vlba2) rfl (by kernel_rfl) (by kernel_rfl) (by kernel_rfl) (fun _ _ _ h => h) (Or.inl ⟨by rfl, ?ylba2⟩) hHeld ?rlba2
          case ylba2 =>
            intro wx hSx
            go_simp
            try with_reducible rfl
          try simp only [Act.put, List.setIfInBounds_toArray, List.set_cons_zero, List.set_cons_succ]
          refine wpAnyH_take (i := 3) (oi := ⟨some 64, _, _, _, _, _⟩) (v := ?vlba3) rfl (by kernel_rfl) (by kernel_rfl) (by kernel_rfl) (fun _ _ _ h => h) (Or.inl ⟨by rfl, ?ylba3⟩) hHeld ?rlba3
          case ylba3 =>
            intro wx hSx
            go_simp
            try with_reducible rfl
          try simp only [Act.put, List.setIfInBounds_toArray, List.set_cons_zero, List.set_cons_succ]
          refine wpAnyH_take (i := 4) (oi := ⟨some 65, _, _, _, _, _⟩) (v := ?vlba4) rfl (by kernel_rfl) (by kernel_rfl) (by kernel_rfl) (fun _ _ _ h => h) (Or.inl ⟨by rfl, ?ylba4⟩) hHeld ?rlba4
          case ylba4 =>
            intro wx hSx
            go_simp
            try with_reducible rfl
          try simp only [Act.put, List.setIfInBounds_toArray, List.set_cons_zero, List.set_cons_succ]
          refine wpAnyH_take (i := 5) (oi := ⟨some 66, _, _, _, _, _⟩) (v := ?vlba5) rfl (by kernel_rfl) (by kernel_rfl) (by kernel_rfl) (fun _ _ _ h => h) (Or.inl ⟨by rfl, ?ylba5⟩) hHeld ?rlba5
          case ylba5 =>
            intro wx hSx
            go_simp
            try with_reducible rfl
          try simp only [Act.put, List.setIfInBounds_toArray, List.set_cons_zero, List.set_cons_succ]
          refine wpAnyH_take (i := 6) (oi := ⟨some 67, _, _, _, _, _⟩) (v := ?vlba6) rfl (by kernel_rfl) (by kernel_rfl) (by kernel_rfl) (fun _ _ _ h => h) (Or.inl ⟨by rfl, ?ylba6⟩) hHeld ?rlba6
          case ylba6 =>
            intro wx hSx
            go_simp
            try with_reducible rfl
          try simp only [Act.put, List.setIfInBounds_toArray, List.set_cons_zero, List.set_cons_succ]
          refine wpAnyH_take (i := 7) (oi := ⟨some 68, _, _, _, _, _⟩) (v := ?vlba7) rfl (by kernel_rfl) (by kernel_rfl) (by kernel_rfl) (fun _ _ _ h => h) (Or.inl ⟨by rfl, ?ylba7⟩) hHeld ?rlba7
          case ylba7 =>
            intro wx hSx
            go_simp
            try with_reducible rfl
          try simp only [Act.put, List.setIfInBounds_toArray, List.set_cons_zero, List.set_cons_succ]
          refine wpAnyH_take (i := 8) (oi := ⟨some 69, _, _, _, _, _⟩) (v := undef) rfl (by kernel_rfl) (by kernel_rfl) (by kernel_rfl) (fun _ _ _ h => h) (Or.inr ⟨by rfl, rfl⟩) hHeld ?rlba8
          try simp only [Act.put, List.setIfInBounds_toArray, List.set_cons_zero, List.set_cons_succ]
          refine wpAnyH_take (i := 9) (oi := ⟨some 70, _, _, _, _, _⟩) (v := undef) rfl (by kernel_rfl) (by kernel_rfl) (by kernel_rfl) (fun _ _ _ h => h) (Or.inr ⟨by rfl, rfl⟩) hHeld ?rlba9
          try simp only [Act.put, List.setIfInBounds_toArray, List.set_cons_zero, List.set_cons_succ]
          refine wpAnyH_take (i := 10) (oi := ⟨some 71, _, _, _, _, _⟩) (v := undef) rfl (by kernel_rfl) (by kernel_rfl) (by kernel_rfl) (fun _ _ _ h => h) (Or.inr ⟨by rfl, rfl⟩) hHeld ?rlba10
          try simp only [Act.put, List.setIfInBounds_toArray, List.set_cons_zero, List.set_cons_succ]
          refine wpAnyH_take (i := 11) (oi := ⟨some 72, _, _, _, _, _⟩) (v := undef) rfl (by kernel_rfl) (by kernel_rfl) (by kernel_rfl) (fun _ _ _ h => h) (Or.inr ⟨by rfl, rfl⟩) hHeld ?rlba11
          try simp only [Act.put, List.setIfInBounds_toArray, List.set_cons_zero, List.set_cons_succ]
          refine wpAnyH_take (i := 12) (oi := ⟨some 73, _, _, _, _, _⟩) (v := undef) rfl (by kernel_rfl) (by kernel_rfl) (by kernel_rfl) (fun _ _ _ h => h) (Or.inr ⟨by rfl, rfl⟩) hHeld ?rlba12
          try simp only [Act.put, List.setIfInBounds_toArray, List.set_cons_zero, List.set_cons_succ]
          refine wpAnyH_take (i := 13) (oi := ⟨some 74, _, _, _, _, _⟩) (v := undef) rfl (by kernel_rfl) (by kernel_rfl) (by kernel_rfl) (fun _ _ _ h => h) (Or.inr ⟨by rfl, rfl⟩) hHeld ?rlba13
          try simp only [Act.put, List.setIfInBounds_toArray, List.set_cons_zero, List.set_cons_succ]
          refine wpAnyH_take (i := 14) (oi := ⟨some 75, _, _, _, _, _⟩) (v := undef) rfl (by kernel_rfl) (by kernel_rfl) (by kernel_rfl) (fun _ _ _ h => h) (Or.inr ⟨by rfl, rfl⟩) hHeld ?rlba14
          try simp only [Act.put, List.setIfInBounds_toArray, List.set_cons_zero, List.set_cons_succ]
          refine wpAnyH_take (i := 15) (oi := ⟨some 76, _, _, _, _, _⟩) (v := undef) rfl (by kernel_rfl) (by kernel_rfl) (by kernel_rfl) (fun _ _ _ h => h) (Or.inr ⟨by rfl, rfl⟩) hHeld ?rlba15
          try simp only [Act.put, List.setIfInBounds_toArray, List.set_cons_zero, List.set_cons_succ]
          refine wpAnyH_take (i := 16) (oi := ⟨some 77, _, _, _, _, _⟩) (v := ?vlba16) rfl (by kernel_rfl) (by kernel_rfl) (by kernel_rfl) (fun _ _ _ h => h) (Or.inl ⟨by rfl, ?ylba16⟩) hHeld ?rlba16
          case ylba16 =>
            intro wx hSx
            go_simp
            try with_reducible rfl
          try simp only [Act.put, List.setIfInBounds_toArray, List.set_cons_zero, List.set_cons_succ]
          refine wpAnyH_take (i := 17) (oi := ⟨some 78, _, _, _, _, _⟩) (v := ?vlba17) rfl (by kernel_rfl) (by kernel_rfl) (by kernel_rfl) (fun _ _ _ h => h) (Or.inl ⟨by rfl, ?ylba17⟩) hHeld ?rlba17
          case ylba17 =>
            intro wx hSx
            go_simp
            try with_reducible rfl
          try simp only [Act.put, List.setIfInBounds_toArray, List.set_cons_zero, List.set_cons_succ]
          refine wpAnyH_take (i := 18) (oi := ⟨some 79, _, _, _, _, _⟩) (v := ?vlba18) rfl (by kernel_rfl) (by kernel_rfl) (by kernel_rfl) (fun _ _ _ h => h) (Or.inl ⟨by rfl, ?ylba18⟩) hHeld ?rlba18
          case ylba18 =>
            intro wx hSx
            go_simp
            try with_reducible rfl
          try simp only [Act.put, List.setIfInBounds_toArray, List.set_cons_zero, List.set_cons_succ]
          refine wpAnyH_take (i := 19) (oi := ⟨some 80, _, _, _, _, _⟩) (v := ?vlba19) rfl (by kernel_rfl) (by kernel_rfl) (by kernel_rfl) (fun _ _ _ h => h) (Or.inl ⟨by rfl, ?ylba19⟩) hHeld ?rlba19
          case ylba19 =>
            intro wx hSx
            go_simp
            try with_reducible rfl
          try simp only [Act.put, List.setIfInBounds_toArray, List.set_cons_zero, List.set_cons_succ]
          refine wpAnyH_take (i := 20) (oi := ⟨some 81, _, _, _, _, _⟩) (v := ?vlba20) rfl (by kernel_rfl) (by kernel_rfl) (by kernel_rfl) (fun _ _ _ h => h) (Or.inl ⟨by rfl, ?ylba20⟩) hHeld ?rlba20
          case ylba20 =>
            intro wx hSx
            go_simp
            try with_reducible rfl
          try simp only [Act.put, List.setIfInBounds_toArray, List.set_cons_zero, List.set_cons_succ]
          refine wpAnyH_take (i := 21) (oi := ⟨some 82, _, _, _, _, _⟩) (v := ?vlba21) rfl (by kernel_rfl) (by kernel_rfl) (by kernel_rfl) (fun _ _ _ h => h) (Or.inl ⟨by rfl, ?ylba21⟩) hHeld ?rlba21
          case ylba21 =>
            intro wx hSx
            go_simp
            try with_reducible rfl
          try simp only [Act.put, List.setIfInBounds_toArray, List.set_cons_zero, List.set_cons_succ]
          refine wpAnyH_take (i := 22) (oi := ⟨some 83, _, _, _, _, _⟩) (v := ?vlba22) rfl (by kernel_rfl) (by kernel_rfl) (by kernel_rfl) (fun _ _ _ h => h) (Or.inl ⟨by rfl, ?ylba22⟩) hHeld ?rlba22
          case ylba22 =>
            intro wx hSx
            have z4 := cell_at hSx 0
            have z5 := cell_at hSx 1
            simp only [List.getElem?_toArray, List.getElem?_cons_succ, List.getElem?_cons_zero] at z4 z5
            go_simp
            try with_reducible rfl
          try simp only [Act.put, List.setIfInBounds_toArray, List.set_cons_zero, List.set_cons_succ]
          refine wpAnyH_take (i := 23) (oi := ⟨some 84, _, _, _, _, _⟩) (v := ?vlba23) rfl (by kernel_rfl) (by kernel_rfl) (by kernel_rfl) (fun _ _ _ h => h) (Or.inl ⟨by rfl, ?ylba23⟩) hHeld ?rlba23
          case ylba23 =>
            intro wx hSx
            go_simp
            try with_reducible rfl
          try simp only [Act.put, List.setIfInBounds_toArray, List.set_cons_zero, List.set_cons_succ]
          refine wpAnyH_take (i := 24) (oi := ⟨some 85, _, _, _, _, _⟩) (v := ?vlba24) rfl (by kernel_rfl) (by kernel_rfl) (by kernel_rfl) (fun _ _ _ h => h) (Or.inl ⟨by rfl, ?ylba24⟩) hHeld ?rlba24
          case ylba24 =>
            intro wx hSx
            go_simp
            try with_reducible rfl
          try simp only [Act.put, List.setIfInBounds_toArray, List.set_cons_zero, List.set_cons_succ]
          refine wpAnyH_take (i := 25) (oi := ⟨some 86, _, _, _, _, _⟩) (v := ?vlba25) rfl (by kernel_rfl) (by kernel_rfl) (by kernel_rfl) (fun _ _ _ h => h) (Or.inl ⟨by rfl, ?ylba25⟩) hHeld ?rlba25
          case ylba25 =>
            intro wx hSx
            go_simp
            try with_reducible rfl
          try simp only [Act.put, List.setIfInBounds_toArray, List.set_cons_zero, List.set_cons_succ]
          refine wpAnyH_take (i := 26) (oi := ⟨some 87, _, _, _, _, _⟩) (v := ?vlba26) rfl (by kernel_rfl) (by kernel_rfl) (by kernel_rfl) (fun _ _ _ h => h) (Or.inl ⟨by rfl, ?ylba26⟩) hHeld ?rlba26
          case ylba26 =>
            intro wx hSx
            go_simp
            try with_reducible rfl
          try simp only [Act.put, List.setIfInBounds_toArray, List.set_cons_zero, List.set_cons_succ]
          refine wpAnyH_done (by kernel_rfl) ?_ _
          clear hHeld hzq
          have HKN := Lib.hid (HKD.out.less (ts' := [Th.row LK (.slice (some ⟨b8, o8', none⟩) 3 c8) ks, Th.row LM (.slice (some ⟨bu, ou, none⟩) r.l.length c) r.l]) (fun t ht => List.mem_cons_of_mem _ ht))
          go_wp2_with fail
          refine ⟨⟨a + 1, by go_num, by omega, HKN⟩, ?_⟩
          simp [intOf]; omega
        · rw [he] at HRG
          have hq0 : gotP r.l k = y.po := by unfold gotP; rw [hgy]; rfl
          rw [hq0, show (getM r.l k).isSome = true by rw [hgy]; rfl] at HGT
          unfold Rk.val Po.val at *
          have HY2 := Lib.hid hy
          have hi2 := (List.getElem?_eq_some_iff.1 hy).1
          clear he hgy hq0 hk hy hyk
          go_wp2_with fail
          go_at_call 19
          refine (HOF.out _).mono ?_
          rintro e w4 ⟨rfl, g4⟩
          have HK4 := Lib.hid (HA.out.later g4.below)
          clear g4 y0 y1 y2 y3 HA
          go_wp2_with fail
          go_at_call 18
          refine (HGT.out _ (HK4.out.ct (i := 0) rfl)).mono ?_
          rintro e w5 ⟨rfl, b5⟩
          have HK5 := Lib.hid (HK4.out.later b5)
          clear b5 HK4
          have HK6 := Lib.hid (HK5.out.add (below_new w5 (.cells #[.int .i64 y.po.depth, .string y.po.id] 36)) (t := Th.box w5.heap.size (.cells #[.int .i64 y.po.depth, .string y.po.id] 36 (0, 0))) (heap_alloc_new w5 _) (fun k hk => .inl (Nat.le_of_eq hk.symm)))
          go_upto_region 11 with (fail)
          generalize World.alloc _ _ = w6 at HK6 ⊢
          generalize w5.heap.size = B9 at HK6 ⊢
          clear HK5
          obtain ⟨y0, y1, y2, y3⟩ := HCK.out w6 (HK6.out.is (t := Th.row LK (.slice (some ⟨b8, o8', none⟩) 3 c8) ks) (List.mem_cons_of_mem _ List.mem_cons_self))
          go_wp2_with fail
          go_at_call 20
          refine (HRG.out _ (HK6.out.is (t := Th.row LM (.slice (some ⟨bu, ou, none⟩) r.l.length c) r.l) (List.mem_cons_of_mem _ (List.mem_cons_of_mem _ List.mem_cons_self)))).mono ?_
          rintro e w7 ⟨rfl, g7⟩
          have HK9 := Lib.hid (HK6.out.later g7.below)
          clear g7 y0 y1 y2 y3 HK6 HGT HRG HOF HCK hix
          go_upto_region 12 with (fail)
          have hzq := eqlP y.po y.po
          rw [decide_eq_true rfl] at hzq
          have hiy2 := index_any (P := Try.prog) knM (by decide) (b := bu) (off := ou) (cap := c) hi2
          simp only [LM] at hiy2
          have hge : decide ((0 : Int) ≤ (i2 : Int)) = true := decide_eq_true (by omega)
          have hlt : decide ((i2 : Int) < 0) = false := decide_eq_false (by omega)
          have hmx : ¬ ((0 : Int) > (i2 : Int)) := by omega
          refine wp_region_held_drew (S := fun W => W.heap[B9]? = some (.cells #[.int .i64 y.po.depth, .string y.po.id] 36 (0, 0)) ∧ LM.Slice W (.slice (some ⟨bu, ou, none⟩) r.l.length c) r.l) (by kernel_rfl) ⟨HK9.out.is (t := Th.box B9 (.cells #[.int .i64 y.po.depth, .string y.po.id] 36 (0, 0))) List.mem_cons_self, HK9.out.is (t := Th.row LM (.slice (some ⟨bu, ou, none⟩) r.l.length c) r.l) (List.mem_cons_of_mem _ (List.mem_cons_of_mem _ List.mem_cons_self))⟩ (fun hHeld => ?_)
          have HKD := Lib.hid (HK9.out.later (below_drew _))
          clear HK9
          generalize World.drew _ = wd at HKD hHeld ⊢
          refine wpAnyH_take (i := 0) (oi := ⟨some 61, _, _, _, _, _⟩) (v := ?vlbb0) rfl (by kernel_rfl) (by kernel_rfl) (by kernel_rfl) (fun _ _ _ h => h) (Or.inl ⟨by rfl, ?ylbb0⟩) hHeld ?rlbb0
          case ylbb0 =>
            intro wx hSx
            go_simp
            try with_reducible rfl
          try simp only [Act.put, List.setIfInBounds_toArray, List.set_cons_zero, List.set_cons_succ]
          refine wpAnyH_take (i := 1) (oi := ⟨some 62, _, _, _, _, _⟩) (v := ?vlbb1) rfl (by kernel_rfl) (by kernel_rfl) (by kernel_rfl) (fun _ _ _ h => h) (Or.inl ⟨by rfl, ?ylbb1⟩) hHeld ?rlbb1
          case ylbb1 =>
            intro wx hSx
            go_simp
            try with_reducible rfl
          try simp only [Act.put, List.setIfInBounds_toArray, List.set_cons_zero, List.set_cons_succ]
          refine wpAnyH_take (i := 2) (oi := ⟨some 63, _, _, _, _, _⟩) (v := ?vlbb2) rfl (by kernel_rfl) (by kernel_rfl) (by kernel_rfl) (fun _ _ _ h => h) (Or.inl ⟨by rfl, ?ylbb2⟩) hHeld ?rlbb2
          case ylbb2 =>
            intro wx hSx
            go_simp
            try with_reducible rfl
          try simp only [Act.put, List.setIfInBounds_toArray, List.set_cons_zero, List.set_cons_succ]
          refine wpAnyH_take (i := 3) (oi := ⟨some 64, _, _, _, _, _⟩) (v := ?vlbb3) rfl (by kernel_rfl) (by kernel_rfl) (by kernel_rfl) (fun _ _ _ h => h) (Or.inl ⟨by rfl, ?ylbb3⟩) hHeld ?rlbb3
          case ylbb3 =>
            intro wx hSx
            go_simp
            try with_reducible rfl
          try simp only [Act.put, List.setIfInBounds_toArray, List.set_cons_zero, List.set_cons_succ]
          refine wpAnyH_take (i := 4) (oi := ⟨some 65, _, _, _, _, _⟩) (v := ?vlbb4) rfl (by kernel_rfl) (by kernel_rfl) (by kernel_rfl) (fun _ _ _ h => h) (Or.inl ⟨by rfl, ?ylbb4⟩) hHeld ?rlbb4
          case ylbb4 =>
            intro wx hSx
            go_simp
            try with_reducible rfl
          try simp only [Act.put, List.setIfInBounds_toArray, List.set_cons_zero, List.set_cons_succ]
          refine wpAnyH_take (i := 5) (oi := ⟨some 66, _, _, _, _, _⟩) (v := ?vlbb5) rfl (by kernel_rfl) (by kernel_rfl) (by kernel_rfl) (fun _ _ _ h => h) (Or.inl ⟨by rfl, ?ylbb5⟩) hHeld ?rlbb5
          case ylbb5 =>
            intro wx hSx
            go_simp
            try with_reducible rfl
          try simp only [Act.put, List.setIfInBounds_toArray, List.set_cons_zero, List.set_cons_succ]
          refine wpAnyH_take (i := 6) (oi := ⟨some 67, _, _, _, _, _⟩) (v := ?vlbb6) rfl (by kernel_rfl) (by kernel_rfl) (by kernel_rfl) (fun _ _ _ h => h) (Or.inl ⟨by rfl, ?ylbb6⟩) hHeld ?rlbb6
          case ylbb6 =>
            intro wx hSx
            go_simp
            try with_reducible rfl
          try simp only [Act.put, List.setIfInBounds_toArray, List.set_cons_zero, List.set_cons_succ]
          refine wpAnyH_take (i := 7) (oi := ⟨some 68, _, _, _, _, _⟩) (v := ?vlbb7) rfl (by kernel_rfl) (by kernel_rfl) (by kernel_rfl) (fun _ _ _ h => h) (Or.inl ⟨by rfl, ?ylbb7⟩) hHeld ?rlbb7
          case ylbb7 =>
            intro wx hSx
            go_simp
            try with_reducible rfl
          try simp only [Act.put, List.setIfInBounds_toArray, List.set_cons_zero, List.set_cons_succ]
          refine wpAnyH_take (i := 8) (oi := ⟨some 69, _, _, _, _, _⟩) (v := ?vlbb8) rfl (by kernel_rfl) (by kernel_rfl) (by kernel_rfl) (fun _ _ _ h => h) (Or.inl ⟨by rfl, ?ylbb8⟩) hHeld ?rlbb8
          case ylbb8 =>
            intro wx hSx
            have z4 := cell_at hSx.1 0
            have z5 := cell_at hSx.1 1
            simp only [List.getElem?_toArray, List.getElem?_cons_succ, List.getElem?_cons_zero] at z4 z5
            go_simp
            try with_reducible rfl
          try simp only [Act.put, List.setIfInBounds_toArray, List.set_cons_zero, List.set_cons_succ]
          refine wpAnyH_take (i := 9) (oi := ⟨some 70, _, _, _, _, _⟩) (v := ?vlbb9) rfl (by kernel_rfl) (by kernel_rfl) (by kernel_rfl) (fun _ _ _ h => h) (Or.inl ⟨by rfl, ?ylbb9⟩) hHeld ?rlbb9
          case ylbb9 =>
            intro wx hSx
            go_simp
            try with_reducible rfl
          try simp only [Act.put, List.setIfInBounds_toArray, List.set_cons_zero, List.set_cons_succ]
          refine wpAnyH_take (i := 10) (oi := ⟨some 71, _, _, _, _, _⟩) (v := ?vlbb10) rfl (by kernel_rfl) (by kernel_rfl) (by kernel_rfl) (fun _ _ _ h => h) (Or.inl ⟨by rfl, ?ylbb10⟩) hHeld ?rlbb10
          case ylbb10 =>
            intro wx hSx
            go_simp
            try with_reducible rfl
          try simp only [Act.put, List.setIfInBounds_toArray, List.set_cons_zero, List.set_cons_succ]
          refine wpAnyH_take (i := 11) (oi := ⟨some 72, _, _, _, _, _⟩) (v := ?vlbb11) rfl (by kernel_rfl) (by kernel_rfl) (by kernel_rfl) (fun _ _ _ h => h) (Or.inl ⟨by rfl, ?ylbb11⟩) hHeld ?rlbb11
          case ylbb11 =>
            intro wx hSx
            go_simp
            try with_reducible rfl
          try simp only [Act.put, List.setIfInBounds_toArray, List.set_cons_zero, List.set_cons_succ]
          refine wpAnyH_take (i := 12) (oi := ⟨some 73, _, _, _, _, _⟩) (v := ?vlbb12) rfl (by kernel_rfl) (by kernel_rfl) (by kernel_rfl) (fun _ _ _ h => h) (Or.inl ⟨by rfl, ?ylbb12⟩) hHeld ?rlbb12
          case ylbb12 =>
            intro wx hSx
            go_simp
            try with_reducible rfl
          try simp only [Act.put, List.setIfInBounds_toArray, List.set_cons_zero, List.set_cons_succ]
          refine wpAnyH_take (i := 13) (oi := ⟨some 74, _, _, _, _, _⟩) (v := ?vlbb13) rfl (by kernel_rfl) (by kernel_rfl) (by kernel_rfl) (fun _ _ _ h => h) (Or.inl ⟨by rfl, ?ylbb13⟩) hHeld ?rlbb13
          case ylbb13 =>
            intro wx hSx
            go_simp
            try with_reducible rfl
          try simp only [Act.put, List.setIfInBounds_toArray, List.set_cons_zero, List.set_cons_succ]
          refine wpAnyH_take (i := 14) (oi := ⟨some 75, _, _, _, _, _⟩) (v := ?vlbb14) rfl (by kernel_rfl) (by kernel_rfl) (by kernel_rfl) (fun _ _ _ h => h) (Or.inl ⟨by rfl, ?ylbb14⟩) hHeld ?rlbb14
          case ylbb14 =>
            intro wx hSx
            obtain ⟨-, -, -, -, z4, z5⟩ := range6 (hSx.2.cells HY2.out)
            simp only [LM] at z4 z5
            go_simp
            try with_reducible rfl
          try simp only [Act.put, List.setIfInBounds_toArray, List.set_cons_zero, List.set_cons_succ]
          refine wpAnyH_take (i := 15) (oi := ⟨some 76, _, _, _, _, _⟩) (v := ?vlbb15) rfl (by kernel_rfl) (by kernel_rfl) (by kernel_rfl) (fun _ _ _ h => h) (Or.inl ⟨by rfl, ?ylbb15⟩) hHeld ?rlbb15
          case ylbb15 =>
            intro wx hSx
            go_simp
            try with_reducible rfl
          try simp only [Act.put, List.setIfInBounds_toArray, List.set_cons_zero, List.set_cons_succ]
          refine wpAnyH_take (i := 16) (oi := ⟨some 77, _, _, _, _, _⟩) (v := ?vlbb16) rfl (by kernel_rfl) (by kernel_rfl) (by kernel_rfl) (fun _ _ _ h => h) (Or.inl ⟨by rfl, ?ylbb16⟩) hHeld ?rlbb16
          case ylbb16 =>
            intro wx hSx
            go_simp
            try with_reducible rfl
          try simp only [Act.put, List.setIfInBounds_toArray, List.set_cons_zero, List.set_cons_succ]
          refine wpAnyH_take (i := 17) (oi := ⟨some 78, _, _, _, _, _⟩) (v := ?vlbb17) rfl (by kernel_rfl) (by kernel_rfl) (by kernel_rfl) (fun _ _ _ h => h) (Or.inl ⟨by rfl, ?ylbb17⟩) hHeld ?rlbb17
          case ylbb17 =>
            intro wx hSx
            go_simp
            try with_reducible rfl
          try simp only [Act.put, List.setIfInBounds_toArray, List.set_cons_zero, List.set_cons_succ]
          refine wpAnyH_take (i := 18) (oi := ⟨some 79, _, _, _, _, _⟩) (v := ?vlbb18) rfl (by kernel_rfl) (by kernel_rfl) (by kernel_rfl) (fun _ _ _ h => h) (Or.inl ⟨by rfl, ?ylbb18⟩) hHeld ?rlbb18
          case ylbb18 =>
            intro wx hSx
            go_simp
            try with_reducible rfl
          try simp only [Act.put, List.setIfInBounds_toArray, List.set_cons_zero, List.set_cons_succ]
          refine wpAnyH_take (i := 19) (oi := ⟨some 80, _, _, _, _, _⟩) (v := ?vlbb19) rfl (by kernel_rfl) (by kernel_rfl) (by kernel_rfl) (fun _ _ _ h => h) (Or.inl ⟨by rfl, ?ylbb19⟩) hHeld ?rlbb19
          case ylbb19 =>
            intro wx hSx
            go_simp
            try with_reducible rfl
          try simp only [Act.put, List.setIfInBounds_toArray, List.set_cons_zero, List.set_cons_succ]
          refine wpAnyH_take (i := 20) (oi := ⟨some 81, _, _, _, _, _⟩) (v := ?vlbb20) rfl (by kernel_rfl) (by kernel_rfl) (by kernel_rfl) (fun _ _ _ h => h) (Or.inl ⟨by rfl, ?ylbb20⟩) hHeld ?rlbb20
          case ylbb20 =>
            intro wx hSx
            go_simp
            try with_reducible rfl
          try simp only [Act.put, List.setIfInBounds_toArray, List.set_cons_zero, List.set_cons_succ]
          refine wpAnyH_take (i := 21) (oi := ⟨some 82, _, _, _, _, _⟩) (v := ?vlbb21) rfl (by kernel_rfl) (by kernel_rfl) (by kernel_rfl) (fun _ _ _ h => h) (Or.inl ⟨by rfl, ?ylbb21⟩) hHeld ?rlbb21
          case ylbb21 =>
            intro wx hSx
            go_simp
            try with_reducible rfl
          try simp only [Act.put, List.setIfInBounds_toArray, List.set_cons_zero, List.set_cons_succ]
          refine wpAnyH_take (i := 22) (oi := ⟨some 83, _, _, _, _, _⟩) (v := undef) rfl (by kernel_rfl) (by kernel_rfl) (by kernel_rfl) (fun _ _ _ h => h) (Or.inr ⟨by rfl, rfl⟩) hHeld ?rlbb22
          try simp only [Act.put, List.setIfInBounds_toArray, List.set_cons_zero, List.set_cons_succ]
          refine wpAnyH_take (i := 23) (oi := ⟨some 84, _, _, _, _, _⟩) (v := undef) rfl (by kernel_rfl) (by kernel_rfl) (by kernel_rfl) (fun _ _ _ h => h) (Or.inr ⟨by rfl, rfl⟩) hHeld ?rlbb23
          try simp only [Act.put, List.setIfInBounds_toArray, List.set_cons_zero, List.set_cons_succ]
          refine wpAnyH_take (i := 24) (oi := ⟨some 85, _, _, _, _, _⟩) (v := undef) rfl (by kernel_rfl) (by kernel_rfl) (by kernel_rfl) (fun _ _ _ h => h) (Or.inr ⟨by rfl, rfl⟩) hHeld ?rlbb24
          try simp only [Act.put, List.setIfInBounds_toArray, List.set_cons_zero, List.set_cons_succ]
          refine wpAnyH_take (i := 25) (oi := ⟨some 86, _, _, _, _, _⟩) (v := ?vlbb25) rfl (by kernel_rfl) (by kernel_rfl) (by kernel_rfl) (fun _ _ _ h => h) (Or.inl ⟨by rfl, ?ylbb25⟩) hHeld ?rlbb25
          case ylbb25 =>
            intro wx hSx
            go_simp
            try with_reducible rfl
          try simp only [Act.put, List.setIfInBounds_toArray, List.set_cons_zero, List.set_cons_succ]
          refine wpAnyH_take (i := 26) (oi := ⟨some 87, _, _, _, _, _⟩) (v := ?vlbb26) rfl (by kernel_rfl) (by kernel_rfl) (by kernel_rfl) (fun _ _ _ h => h) (Or.inl ⟨by rfl, ?ylbb26⟩) hHeld ?rlbb26
          case ylbb26 =>
            intro wx hSx
            go_simp
            try with_reducible rfl
          try simp only [Act.put, List.setIfInBounds_toArray, List.set_cons_zero, List.set_cons_succ]
          refine wpAnyH_done (by kernel_rfl) ?_ _
          clear hHeld hzq
          have HKN := Lib.hid (HKD.out.less (ts' := [Th.row LK (.slice (some ⟨b8, o8', none⟩) 3 c8) ks, Th.row LM (.slice (some ⟨bu, ou, none⟩) r.l.length c) r.l]) (fun t ht => List.mem_cons_of_mem _ ht))
          go_wp2_with fail
          refine ⟨⟨a + 1, by go_num, by omega, HKN⟩, ?_⟩
          simp [intOf]; omega
      · have tq1 : decide ((a : Int) < 3) = false := decide_eq_false (by omega)
        go_wp2_with fail
        go_at_call 15
        refine (HLV.out _).mono ?_
        rintro e wl ⟨rfl, hbl⟩
        have HBL := Lib.hid (HA.out.below.trans (hbl.mono HA.out.below.size))
        clear hbl
        go_wp2_with fail
        go_ret
        exact ⟨rfl, HBL.out⟩
end Go.Proofs.Ytmialpaldkpmbaa
