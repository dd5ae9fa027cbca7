/-
  MemberJoined: who is joined, and each user's last step, is the document's.
-/
import Derived.Test.YtfbfdkibdjinaaaGreatM9C
namespace Go.Proofs.YtfbfdkibdjinaaaGreat
set_option maxRecDepth 20000
open Go.RowKit
set_option linter.unusedVariables false
set_option linter.unusedSimpArgs false

theorem last_ev {o : Option Ev} {xs : List EvV} {y z : EvV} (h1 : LastY o y) (h2 : LastV o xs z) : y.ev = z.ev := by
  rcases h1 with ⟨h, rfl⟩ | h <;> rcases h2 with ⟨h', rfl⟩ | ⟨h', _⟩
  · rfl
  · rw [h] at h'; cases h'
  · rw [h] at h'; cases h'
  · rw [h] at h'; injection h'
set_option maxHeartbeats 6400000 in
theorem memberJoined_walk (C : Dags) (CA : DagAlls C) (v : Value) (gs : List GV) (s : ByteArray) (w : World) (h : GsS w v gs) (hs : s.size ≤ maxLen) :
    Calls Tryz.prog 3 #[v, .string s] w fun e w' => e = .returned (.bool true) ∧ Below w.heap.size w w' := by
  have HBU := Lib.hid (build9_any C v gs w h)
  obtain ⟨A0, c0, rfl, -⟩ := id h.1
  clear h
  go_enter Tryz.func3, Tryz.ntmps3
  go_wp2_with fail
  go_at_call 8
  refine HBU.out.mono ?_
  rintro e w1 ⟨gd, v', xs, rfl, hbt⟩
  obtain ⟨Av, cv, rfl, -, hv2, -⟩ := id hbt.evs.1
  have hv3 : cv ≤ 9223372036854775807 := by unfold maxLen at hv2; omega
  have hxl := hbt.len
  have HVL : Hid (Valid roomR (evs xs)) := Lib.hid (C.valid hbt.bd.code)
  have hb2 := below_new w1 (.cells #[.string roomR, .slice Av xs.length cv] 26)
  have HX2 := Lib.hid (heap_alloc_new w1 (.cells #[.string roomR, .slice Av xs.length cv] 26))
  have HD2 := Lib.hid (hbt.bd.later hb2)
  have HE2 := Lib.hid (hbt.evs.below hb2)
  have HOF2 : Hid (∀ k, footE (.slice Av xs.length cv) xs k → ¬ C.own (w1.alloc (.cells #[.string roomR, .slice Av xs.length cv] 26)) gd k) := Lib.hid (fun k hk ho => hbt.off k hk ((C.keep hbt.bd.code hb2.size (fun k hk => hb2.block k (C.old hbt.bd.code hk))).2 k ho))
  have HOB2 : Hid (¬ C.own (w1.alloc (.cells #[.string roomR, .slice Av xs.length cv] 26)) gd w1.heap.size) := Lib.hid (fun ho => by
    have := C.old hbt.bd.code ((C.keep hbt.bd.code hb2.size (fun k hk => hb2.block k (C.old hbt.bd.code hk))).2 _ ho)
    omega)
  clear hbt hb2 HBU hv2
  go_upto_region 2 with (fail)
  generalize w1.alloc _ = w2 at HX2 HD2 HE2 HOF2 HOB2 ⊢
  generalize w1.heap.size = B4 at HX2 HOB2 ⊢
  have hb4lt := smem_lt HX2.out
  have HK2 : Hid (KpS C w w2 w2 gd (evs xs) [(B4, .cells #[.string roomR, .slice Av xs.length cv] 26 (0, 0))] [] []) := Lib.hid ⟨HD2.out, TurnD.refl _ _, fun q hq => by
    rw [List.mem_singleton.1 hq]
    exact ⟨HX2.out, HOB2.out⟩, fun x hx => (by cases hx), fun p hp => (by cases hp)⟩
  have HEW : Hid (∀ W bs es ts, KpS C w w2 W gd (evs xs) bs es ts → EvsS W (.slice Av xs.length cv) xs ∧ ∀ x ∈ xs, ∀ k, footV x k → ¬ C.own W gd k) := Lib.hid (fun W bs es ts hW => hW.evs HE2.out HOF2.out)
  have hl100 : (evs xs).length ≤ 100 := by rw [evs_len]; omega
  have HUS : Hid (∀ W bs es ts, KpS C w w2 W gd (evs xs) bs es ts → Calls Tryz.prog 17 #[.pointer (some ⟨gd, 0, none⟩)] W fun e w' => ∃ A c, e = .returned (.slice A (usersL (evs xs)).length c) ∧ KpS C w w2 w' gd (evs xs) bs es ((.slice A (usersL (evs xs)).length c, usersL (evs xs)) :: ts)) := Lib.hid (fun W bs es ts h => by
    refine (memUsers_any C CA h.bd.code hl100).mono ?_
    rintro e w' ⟨v, rfl, m, t, hc, ht⟩
    obtain ⟨A, c, rfl, -⟩ := id m.shape
    exact ⟨A, c, rfl, (h.step hc ht).withTx m.slice (fun k _ hk => t k hk)⟩)
  have HRU : Hid (∀ W bs es ts, KpS C w w2 W gd (evs xs) bs es ts → Calls Tryz.prog 18 #[.agg #[.string roomR, .slice Av xs.length cv]] W fun e w' => ∃ A c, e = .returned (.slice A (usersL (evs xs)).length c) ∧ KpS C w w2 w' gd (evs xs) bs es ((.slice A (usersL (evs xs)).length c, usersL (evs xs)) :: ts)) := Lib.hid (fun W bs es ts h => by
    refine (refUsers_any roomR _ xs W (HEW.out _ _ _ _ h).1 HVL.out (by omega)).mono ?_
    rintro e w' ⟨v, rfl, m, b⟩
    obtain ⟨A, c, rfl, -⟩ := id m.shape
    exact ⟨A, c, rfl, (h.later b).withTx m.slice (fun k _ hk e => by
      have h1 := (h.grow b).2.2 k e
      have h2 := (m.lt k hk).1
      omega)⟩)
  have HST : Hid (∀ W bs es ts v v' us, KpS C w w2 W gd (evs xs) bs es ts → (v, us) ∈ ts → (v', us) ∈ ts → Calls Tryz.prog 16 #[v, v'] W fun e w' => e = .returned (.bool true) ∧ KpS C w w2 w' gd (evs xs) bs es ts) := Lib.hid (fun W bs es ts v v' us h hm hm' => by
    refine (sameTexts_any v v' us us W (h.tx _ hm).1 (h.tx _ hm').1).mono ?_
    rintro e w' ⟨rfl, dd, rfl⟩
    exact ⟨by rw [decide_eq_true rfl], h.later ⟨rfl, rfl, rfl, Nat.le_refl _, fun _ _ => rfl⟩⟩)
  have HLV : Hid (∀ W bs es ts, KpS C w w2 W gd (evs xs) bs es ts → Calls Tryz.prog 19 #[] W fun e w' => e = .returned (.bool true) ∧ KpS C w w2 w' gd (evs xs) bs es ts) := Lib.hid (fun W bs es ts h => by
    refine (lives9_any C CA W).mono ?_
    rintro e w' ⟨rfl, b⟩
    exact ⟨rfl, h.later b⟩)
  have HLA : Hid (∀ W bs es ts u, KpS C w w2 W gd (evs xs) bs es ts → u.size ≤ maxLen → Calls Tryz.prog 11 #[.pointer (some ⟨gd, 0, none⟩), .string u] W fun e w' => ∃ y : EvV, e = .returned (.tuple #[y.val, .bool (lastL (evs xs) u).isSome]) ∧ LastY (lastL (evs xs) u) y ∧ KpS C w w2 w' gd (evs xs) bs (y :: es) ts) := Lib.hid (fun W bs es ts u h hu => by
    refine (memLast_any C CA u h.bd.code hl100 hu).mono ?_
    rintro e w' ⟨y, rfl, hy, hl, ht, hc, htn⟩
    exact ⟨y, rfl, hl, (h.step hc htn).withEv hy (fun k hk => ht k hk.2)⟩)
  have HRL : Hid (∀ W bs es ts u, KpS C w w2 W gd (evs xs) bs es ts → Calls Tryz.prog 12 #[.agg #[.string roomR, .slice Av xs.length cv], .string u] W fun e w' => ∃ y : EvV, e = .returned (.tuple #[y.val, .bool (lastL (evs xs) u).isSome]) ∧ LastV (lastL (evs xs) u) xs y ∧ KpS C w w2 w' gd (evs xs) bs (y :: es) ts) := Lib.hid (fun W bs es ts u h => by
    refine (refLast_any roomR u _ xs W (HEW.out _ _ _ _ h).1 HVL.out (by omega)).mono ?_
    rintro e w' ⟨y, rfl, hl, hg⟩
    have h' := h.later hg.below
    obtain ⟨he1, he2⟩ := HEW.out _ _ _ _ h'
    refine ⟨y, rfl, hl, h'.withEv ?_ ?_⟩
    · rcases hl with ⟨-, rfl⟩ | ⟨-, hm⟩
      · exact zeroEv_at _
      · exact he1.2 y hm
    · rcases hl with ⟨-, rfl⟩ | ⟨-, hm⟩
      · intro k hk; cases hk.2
      · exact he2 y hm)
  have HMJ : Hid (∀ W bs es ts u, KpS C w w2 W gd (evs xs) bs es ts → u.size ≤ maxLen → Calls Tryz.prog 13 #[.pointer (some ⟨gd, 0, none⟩), .string u] W fun e w' => e = .returned (.bool (joinL (evs xs) u)) ∧ KpS C w w2 w' gd (evs xs) bs es ts) := Lib.hid (fun W bs es ts u h hu => by
    refine (memJoined_any C CA u h.bd.code hl100 hu).mono ?_
    rintro e w' ⟨rfl, hc, ht⟩
    exact ⟨rfl, h.step hc ht⟩)
  have HRJ : Hid (∀ W bs es ts u, KpS C w w2 W gd (evs xs) bs es ts → Calls Tryz.prog 14 #[.agg #[.string roomR, .slice Av xs.length cv], .string u] W fun e w' => e = .returned (.bool (joinL (evs xs) u)) ∧ KpS C w w2 w' gd (evs xs) bs es ts) := Lib.hid (fun W bs es ts u h => by
    refine (refJoined_any roomR u _ xs W (HEW.out _ _ _ _ h).1 HVL.out (by omega)).mono ?_
    rintro e w' ⟨rfl, hg⟩
    exact ⟨rfl, h.later hg.below⟩)
  have HSM : Hid (∀ W bs es ts y z, KpS C w w2 W gd (evs xs) bs es ts → y ∈ es → z ∈ es → y.ev = z.ev → Calls Tryz.prog 15 #[y.val, z.val] W fun e w' => e = .returned (.bool true) ∧ KpS C w w2 w' gd (evs xs) bs es ts) := Lib.hid (fun W bs es ts y z h hy hz hyz => by
    refine (refSame_any y z W (h.ev y hy).1.1 (h.ev z hz).1.1).mono ?_
    rintro e w' ⟨rfl, hg⟩
    exact ⟨by rw [decide_eq_true hyz], h.later hg.below⟩)
  have HFW := Lib.hid (fun W => few_any s 8 (by omega) W hs)
  rw [show ((8 : Nat) : Int) = 8 from rfl] at HFW
  have hs8 : (fewS s 8).size ≤ maxLen := Nat.le_trans (fewS_size s 8) (by decide)
  generalize fewS s 8 = s8 at HFW hs8
  clear HX2 HD2 HE2 HOF2 HOB2
  go_upto_region 4 with (fail)
  go_wp2_with fail
  go_loopw [7] (fun i wr => ∃ a : Nat, i = .int .i64 (a : Int) ∧ a ≤ 10 ∧ Hid (KpS C w w2 wr gd (evs xs) [(B4, .cells #[.string roomR, .slice Av xs.length cv] 26 (0, 0))] [] [])) (fun i _ => 10 - (intOf i).toNat)
  case atStart => exact ⟨0, rfl, Nat.zero_le _, HK2⟩
  case round =>
    obtain ⟨wi, hwi⟩ : ∃ wi, wi = wr := ⟨_, rfl⟩
    subst hwi
    clear HK2
    obtain ⟨a, rfl, ha, HK⟩ := hrel
    by_cases hax : a < 10
    · have q1 : decide ((a : Int) < 10) = true := decide_eq_true (by omega)
      obtain ⟨ri, hri, hri1⟩ : ∃ ri : Int, (a : Int).tmod 9 = ri ∧ 0 ≤ ri ∧ ri < 9 := ⟨_, rfl, by rw [Int.tmod_eq_emod_of_nonneg (by omega)]; omega⟩
      have HUO := Lib.hid (fun W => userOf_any ri W (by omega) (by omega))
      have hus : (userS ri).size ≤ maxLen := Nat.le_trans (userS_len9 ri) (by decide)
      generalize userS ri = us at HUO hus
      go_wp2_with fail
      go_at_call 9
      refine (HUO.out _).mono ?_
      rintro e w5 ⟨rfl, b5⟩
      have HK5 := Lib.hid (HK.out.later b5)
      clear b5 HK HUO
      by_cases h9 : a = 9
      · have q3 : ((a : Int) == 9) = true := by rw [beq_iff_eq]; omega
        clear h9
        go_wp2_with fail
        go_at_call 10
        refine (HFW.out _).mono ?_
        rintro e w6 ⟨rfl, rfl⟩
        have HQ := Lib.hid (HLA.out _ _ _ _ s8 HK5.out hs8)
        have HQ2 := Lib.hid (fun W bs es ts h => HRL.out W bs es ts s8 h)
        have HC1 := Lib.hid (fun W bs es ts h => HMJ.out W bs es ts s8 h hs8)
        have HC2 := Lib.hid (fun W bs es ts h => HRJ.out W bs es ts s8 h)
        have HLE := Lib.hid (fun y z h1 h2 => last_ev (o := lastL (evs xs) s8) (xs := xs) (y := y) (z := z) h1 h2)
        generalize lastL (evs xs) s8 = o at HQ HQ2 HLE
        generalize joinL (evs xs) s8 = jb at HC1 HC2
        go_wp2_with fail
        go_at_call 11
        refine HQ.out.mono ?_
        rintro e w7 ⟨y, rfl, hly, hk7⟩
        have HK7 := Lib.hid hk7
        have HLY := Lib.hid hly
        clear hk7 hly HQ HK5
        unfold EvV.val EvV.pv
        have HK8 := Lib.hid (HK7.out.new (below_new w7 (.cells #[.string y.ev.id, .string y.ev.room, .slice y.A y.ev.parents.length y.cap, .string y.ev.thread, .string y.ev.user, .int .i64 y.ev.does] 33)) (Nat.le_refl _) (heap_alloc_new w7 (.cells #[.string y.ev.id, .string y.ev.room, .slice y.A y.ev.parents.length y.cap, .string y.ev.thread, .string y.ev.user, .int .i64 y.ev.does] 33)))
        have HXD := Lib.hid (HK8.out.box _ (List.mem_cons_of_mem _ List.mem_cons_self)).1
        go_upto_region 11 with (fail)
        generalize w7.alloc _ = w8 at HK8 HXD ⊢
        generalize w7.heap.size = B9 at HK8 ⊢
        clear HK7
        have d0 : w8.cell? ⟨B4, 0, none⟩ = some (.string roomR) := cell_at HXD.out 0
        have d1 : w8.cell? ⟨B4, 1, none⟩ = some (.slice Av xs.length cv) := cell_at HXD.out 1
        have HQ := Lib.hid (HQ2.out _ _ _ _ HK8.out)
        go_wp2_with fail
        go_at_call 12
        refine HQ.out.mono ?_
        rintro e w9 ⟨z, rfl, hlz, hk9⟩
        have HK9 := Lib.hid hk9
        have HYZ := Lib.hid (HLE.out y z HLY.out hlz)
        clear hk9 hlz HQ HQ2 HK8 HXD d0 d1 HLE HLY
        unfold EvV.val EvV.pv
        have HK10 := Lib.hid (HK9.out.new (below_new w9 (.cells #[.string z.ev.id, .string z.ev.room, .slice z.A z.ev.parents.length z.cap, .string z.ev.thread, .string z.ev.user, .int .i64 z.ev.does] 33)) (Nat.le_refl _) (heap_alloc_new w9 (.cells #[.string z.ev.id, .string z.ev.room, .slice z.A z.ev.parents.length z.cap, .string z.ev.thread, .string z.ev.user, .int .i64 z.ev.does] 33)))
        go_upto_region 12 with (fail)
        generalize w9.alloc _ = w10 at HK10 ⊢
        generalize w9.heap.size = B11 at HK10 ⊢
        clear HK9
        generalize o.isSome = ob
        have n1 : (jb != jb) = false := bne_self_eq_false _
        have n2 : (ob != ob) = false := bne_self_eq_false _
        refine wp_region_held_drew (S := fun W => KpS C w w2 W gd (evs xs) [(B11, .cells #[.string z.ev.id, .string z.ev.room, .slice z.A z.ev.parents.length z.cap, .string z.ev.thread, .string z.ev.user, .int .i64 z.ev.does] 33 (0, 0)), (B9, .cells #[.string y.ev.id, .string y.ev.room, .slice y.A y.ev.parents.length y.cap, .string y.ev.thread, .string y.ev.user, .int .i64 y.ev.does] 33 (0, 0)), (B4, .cells #[.string roomR, .slice Av xs.length cv] 26 (0, 0))] [z, y] []) (by kernel_rfl) (HK10.out.later (Below.refl _ _).drew) (fun hHeld => ?_)
        have HC3 := Lib.hid (fun W bs ts h => HSM.out W bs [z, y] ts y z h (List.mem_cons_of_mem _ List.mem_cons_self) List.mem_cons_self HYZ.out)
        unfold EvV.val EvV.pv at HC3
        generalize World.drew _ = wd at hHeld ⊢
        refine wpAnyH_take (i := 0) (oi := ⟨some 43, _, _, _, _, _⟩) (v := ?va0) rfl (by kernel_rfl) (by kernel_rfl) (by kernel_rfl) (fun _ _ _ h => h) (Or.inl ⟨by rfl, ?ya0⟩) hHeld ?ra0
        case ya0 =>
          intro wx hSx
          go_simp
          try with_reducible rfl
        try simp only [Act.put, List.setIfInBounds_toArray, List.set_cons_zero, List.set_cons_succ]
        refine wpAnyH_take (i := 1) (oi := ⟨some 44, _, _, _, _, _⟩) (v := ?va1) rfl (by kernel_rfl) (by kernel_rfl) (by kernel_rfl) (fun _ _ _ h => h) (Or.inl ⟨by rfl, ?ya1⟩) hHeld ?ra1
        case ya1 =>
          intro wx hSx
          go_simp
          try with_reducible rfl
        try simp only [Act.put, List.setIfInBounds_toArray, List.set_cons_zero, List.set_cons_succ]
        refine wpAnyH_take (i := 3) (oi := ⟨some 46, _, _, _, _, _⟩) (v := ?va3) rfl (by kernel_rfl) (by kernel_rfl) (by kernel_rfl) (fun _ _ _ h => h) (Or.inl ⟨by rfl, ?ya3⟩) hHeld ?ra3
        case ya3 =>
          intro wx hSx
          have p0 := cell_at (hSx.box _ (List.mem_cons_of_mem _ (List.mem_cons_of_mem _ List.mem_cons_self))).1 0
          have p1 := cell_at (hSx.box _ (List.mem_cons_of_mem _ (List.mem_cons_of_mem _ List.mem_cons_self))).1 1
          simp only [List.getElem?_toArray, List.getElem?_cons_succ, List.getElem?_cons_zero] at p0 p1
          go_simp
          try with_reducible rfl
        try simp only [Act.put, List.setIfInBounds_toArray, List.set_cons_zero, List.set_cons_succ]
        refine wpAnyH_take (i := 4) (oi := ⟨some 47, _, _, _, _, _⟩) (v := ?va4) rfl (by kernel_rfl) (by kernel_rfl) (by kernel_rfl) (fun _ _ _ h => h) (Or.inl ⟨by rfl, ?ya4⟩) hHeld ?ra4
        case ya4 =>
          intro wx hSx
          go_simp
          try with_reducible rfl
        try simp only [Act.put, List.setIfInBounds_toArray, List.set_cons_zero, List.set_cons_succ]
        refine wpAnyH_ready (rs := [2]) (by kernel_rfl) (by simp) ?_
        refine AllReadyH.cons (o := ⟨some 45, _, _, _, _, _⟩) rfl (fun K hK => ?_) AllReadyH.nil
        go_simp
        refine (HC1.out _ _ _ _ hHeld).mono ?_
        rintro e wn ⟨rfl, hkn⟩
        refine hK.out _ _ hkn (fun hHeld => ?_)
        clear hK K hkn
        try simp only [Act.put, List.setIfInBounds_toArray, List.set_cons_zero, List.set_cons_succ]
        generalize wn = wd at hHeld ⊢
        refine wpAnyH_ready (rs := [5]) (by kernel_rfl) (by simp) ?_
        refine AllReadyH.cons (o := ⟨some 48, _, _, _, _, _⟩) rfl (fun K hK => ?_) AllReadyH.nil
        go_simp
        refine (HC2.out _ _ _ _ hHeld).mono ?_
        rintro e wn ⟨rfl, hkn⟩
        refine hK.out _ _ hkn (fun hHeld => ?_)
        clear hK K hkn
        try simp only [Act.put, List.setIfInBounds_toArray, List.set_cons_zero, List.set_cons_succ]
        generalize wn = wd at hHeld ⊢
        refine wpAnyH_take (i := 6) (oi := ⟨some 49, _, _, _, _, _⟩) (v := .bool false) rfl (by kernel_rfl) (by kernel_rfl) (by kernel_rfl) (fun _ _ _ h => h) (Or.inl ⟨by rfl, ?ya6⟩) hHeld ?ra6
        case ya6 =>
          intro wx hSx
          skip
          go_simp
          try with_reducible rfl
        try simp only [Act.put, List.setIfInBounds_toArray, List.set_cons_zero, List.set_cons_succ]
        refine wpAnyH_take (i := 7) (oi := ⟨some 50, _, _, _, _, _⟩) (v := ?va7) rfl (by kernel_rfl) (by kernel_rfl) (by kernel_rfl) (fun _ _ _ h => h) (Or.inl ⟨by rfl, ?ya7⟩) hHeld ?ra7
        case ya7 =>
          intro wx hSx
          go_simp
          try with_reducible rfl
        try simp only [Act.put, List.setIfInBounds_toArray, List.set_cons_zero, List.set_cons_succ]
        refine wpAnyH_take (i := 8) (oi := ⟨some 51, _, _, _, _, _⟩) (v := ?va8) rfl (by kernel_rfl) (by kernel_rfl) (by kernel_rfl) (fun _ _ _ h => h) (Or.inl ⟨by rfl, ?ya8⟩) hHeld ?ra8
        case ya8 =>
          intro wx hSx
          go_simp
          try with_reducible rfl
        try simp only [Act.put, List.setIfInBounds_toArray, List.set_cons_zero, List.set_cons_succ]
        refine wpAnyH_take (i := 9) (oi := ⟨some 52, _, _, _, _, _⟩) (v := ?va9) rfl (by kernel_rfl) (by kernel_rfl) (by kernel_rfl) (fun _ _ _ h => h) (Or.inl ⟨by rfl, ?ya9⟩) hHeld ?ra9
        case ya9 =>
          intro wx hSx
          go_simp
          try with_reducible rfl
        try simp only [Act.put, List.setIfInBounds_toArray, List.set_cons_zero, List.set_cons_succ]
        refine wpAnyH_take (i := 10) (oi := ⟨some 53, _, _, _, _, _⟩) (v := .bool false) rfl (by kernel_rfl) (by kernel_rfl) (by kernel_rfl) (fun _ _ _ h => h) (Or.inl ⟨by rfl, ?ya10⟩) hHeld ?ra10
        case ya10 =>
          intro wx hSx
          skip
          go_simp
          try with_reducible rfl
        try simp only [Act.put, List.setIfInBounds_toArray, List.set_cons_zero, List.set_cons_succ]
        refine wpAnyH_take (i := 11) (oi := ⟨some 54, _, _, _, _, _⟩) (v := ?va11) rfl (by kernel_rfl) (by kernel_rfl) (by kernel_rfl) (fun _ _ _ h => h) (Or.inl ⟨by rfl, ?ya11⟩) hHeld ?ra11
        case ya11 =>
          intro wx hSx
          go_simp
          try with_reducible rfl
        try simp only [Act.put, List.setIfInBounds_toArray, List.set_cons_zero, List.set_cons_succ]
        refine wpAnyH_take (i := 12) (oi := ⟨some 55, _, _, _, _, _⟩) (v := ?va12) rfl (by kernel_rfl) (by kernel_rfl) (by kernel_rfl) (fun _ _ _ h => h) (Or.inl ⟨by rfl, ?ya12⟩) hHeld ?ra12
        case ya12 =>
          intro wx hSx
          go_simp
          try with_reducible rfl
        try simp only [Act.put, List.setIfInBounds_toArray, List.set_cons_zero, List.set_cons_succ]
        refine wpAnyH_take (i := 13) (oi := ⟨some 56, _, _, _, _, _⟩) (v := ?va13) rfl (by kernel_rfl) (by kernel_rfl) (by kernel_rfl) (fun _ _ _ h => h) (Or.inl ⟨by rfl, ?ya13⟩) hHeld ?ra13
        case ya13 =>
          intro wx hSx
          have p0 := cell_at (hSx.box _ (List.mem_cons_of_mem _ List.mem_cons_self)).1 0
          have p1 := cell_at (hSx.box _ (List.mem_cons_of_mem _ List.mem_cons_self)).1 1
          have p2 := cell_at (hSx.box _ (List.mem_cons_of_mem _ List.mem_cons_self)).1 2
          have p3 := cell_at (hSx.box _ (List.mem_cons_of_mem _ List.mem_cons_self)).1 3
          have p4 := cell_at (hSx.box _ (List.mem_cons_of_mem _ List.mem_cons_self)).1 4
          have p5 := cell_at (hSx.box _ (List.mem_cons_of_mem _ List.mem_cons_self)).1 5
          simp only [List.getElem?_toArray, List.getElem?_cons_succ, List.getElem?_cons_zero] at p0 p1 p2 p3 p4 p5
          go_simp
          try with_reducible rfl
        try simp only [Act.put, List.setIfInBounds_toArray, List.set_cons_zero, List.set_cons_succ]
        refine wpAnyH_take (i := 14) (oi := ⟨some 57, _, _, _, _, _⟩) (v := ?va14) rfl (by kernel_rfl) (by kernel_rfl) (by kernel_rfl) (fun _ _ _ h => h) (Or.inl ⟨by rfl, ?ya14⟩) hHeld ?ra14
        case ya14 =>
          intro wx hSx
          have p0 := cell_at (hSx.box _ List.mem_cons_self).1 0
          have p1 := cell_at (hSx.box _ List.mem_cons_self).1 1
          have p2 := cell_at (hSx.box _ List.mem_cons_self).1 2
          have p3 := cell_at (hSx.box _ List.mem_cons_self).1 3
          have p4 := cell_at (hSx.box _ List.mem_cons_self).1 4
          have p5 := cell_at (hSx.box _ List.mem_cons_self).1 5
          simp only [List.getElem?_toArray, List.getElem?_cons_succ, List.getElem?_cons_zero] at p0 p1 p2 p3 p4 p5
          go_simp
          try with_reducible rfl
        try simp only [Act.put, List.setIfInBounds_toArray, List.set_cons_zero, List.set_cons_succ]
        refine wpAnyH_ready (rs := [15]) (by kernel_rfl) (by simp) ?_
        refine AllReadyH.cons (o := ⟨some 58, _, _, _, _, _⟩) rfl (fun K hK => ?_) AllReadyH.nil
        go_simp
        refine (HC3.out _ _ _ hHeld).mono ?_
        rintro e wn ⟨rfl, hkn⟩
        refine hK.out _ _ hkn (fun hHeld => ?_)
        clear hK K hkn
        try simp only [Act.put, List.setIfInBounds_toArray, List.set_cons_zero, List.set_cons_succ]
        generalize wn = wd at hHeld ⊢
        refine wpAnyH_take (i := 16) (oi := ⟨some 59, _, _, _, _, _⟩) (v := ?va16) rfl (by kernel_rfl) (by kernel_rfl) (by kernel_rfl) (fun _ _ _ h => h) (Or.inl ⟨by rfl, ?ya16⟩) hHeld ?ra16
        case ya16 =>
          intro wx hSx
          go_simp
          try with_reducible rfl
        try simp only [Act.put, List.setIfInBounds_toArray, List.set_cons_zero, List.set_cons_succ]
        refine wpAnyH_take (i := 17) (oi := ⟨some 60, _, _, _, _, _⟩) (v := ?va17) rfl (by kernel_rfl) (by kernel_rfl) (by kernel_rfl) (fun _ _ _ h => h) (Or.inl ⟨by rfl, ?ya17⟩) hHeld ?ra17
        case ya17 =>
          intro wx hSx
          go_simp
          try with_reducible rfl
        try simp only [Act.put, List.setIfInBounds_toArray, List.set_cons_zero, List.set_cons_succ]
        refine wpAnyH_done (by kernel_rfl) ?_ _
        go_wp2_with fail
        refine ⟨⟨a + 1, by go_num, by omega, Lib.hid (hHeld.less (fun q hq => by rw [List.mem_singleton.1 hq]; exact (List.mem_cons_of_mem _ (List.mem_cons_of_mem _ List.mem_cons_self))) (fun x hx => (List.not_mem_nil hx).elim) (fun p hp => hp))⟩, ?_⟩
        simp [intOf]; omega
      · have q3 : ((a : Int) == 9) = false := by rw [beq_eq_false_iff_ne]; omega
        clear h9
        have HQ := Lib.hid (HLA.out _ _ _ _ us HK5.out hus)
        have HQ2 := Lib.hid (fun W bs es ts h => HRL.out W bs es ts us h)
        have HC1 := Lib.hid (fun W bs es ts h => HMJ.out W bs es ts us h hus)
        have HC2 := Lib.hid (fun W bs es ts h => HRJ.out W bs es ts us h)
        have HLE := Lib.hid (fun y z h1 h2 => last_ev (o := lastL (evs xs) us) (xs := xs) (y := y) (z := z) h1 h2)
        generalize lastL (evs xs) us = o at HQ HQ2 HLE
        generalize joinL (evs xs) us = jb at HC1 HC2
        go_wp2_with fail
        go_at_call 11
        refine HQ.out.mono ?_
        rintro e w7 ⟨y, rfl, hly, hk7⟩
        have HK7 := Lib.hid hk7
        have HLY := Lib.hid hly
        clear hk7 hly HQ HK5
        unfold EvV.val EvV.pv
        have HK8 := Lib.hid (HK7.out.new (below_new w7 (.cells #[.string y.ev.id, .string y.ev.room, .slice y.A y.ev.parents.length y.cap, .string y.ev.thread, .string y.ev.user, .int .i64 y.ev.does] 33)) (Nat.le_refl _) (heap_alloc_new w7 (.cells #[.string y.ev.id, .string y.ev.room, .slice y.A y.ev.parents.length y.cap, .string y.ev.thread, .string y.ev.user, .int .i64 y.ev.does] 33)))
        have HXD := Lib.hid (HK8.out.box _ (List.mem_cons_of_mem _ List.mem_cons_self)).1
        go_upto_region 11 with (fail)
        generalize w7.alloc _ = w8 at HK8 HXD ⊢
        generalize w7.heap.size = B9 at HK8 ⊢
        clear HK7
        have d0 : w8.cell? ⟨B4, 0, none⟩ = some (.string roomR) := cell_at HXD.out 0
        have d1 : w8.cell? ⟨B4, 1, none⟩ = some (.slice Av xs.length cv) := cell_at HXD.out 1
        have HQ := Lib.hid (HQ2.out _ _ _ _ HK8.out)
        go_wp2_with fail
        go_at_call 12
        refine HQ.out.mono ?_
        rintro e w9 ⟨z, rfl, hlz, hk9⟩
        have HK9 := Lib.hid hk9
        have HYZ := Lib.hid (HLE.out y z HLY.out hlz)
        clear hk9 hlz HQ HQ2 HK8 HXD d0 d1 HLE HLY
        unfold EvV.val EvV.pv
        have HK10 := Lib.hid (HK9.out.new (below_new w9 (.cells #[.string z.ev.id, .string z.ev.room, .slice z.A z.ev.parents.length z.cap, .string z.ev.thread, .string z.ev.user, .int .i64 z.ev.does] 33)) (Nat.le_refl _) (heap_alloc_new w9 (.cells #[.string z.ev.id, .string z.ev.room, .slice z.A z.ev.parents.length z.cap, .string z.ev.thread, .string z.ev.user, .int .i64 z.ev.does] 33)))
        go_upto_region 12 with (fail)
        generalize w9.alloc _ = w10 at HK10 ⊢
        generalize w9.heap.size = B11 at HK10 ⊢
        clear HK9
        generalize o.isSome = ob
        have n1 : (jb != jb) = false := bne_self_eq_false _
        have n2 : (ob != ob) = false := bne_self_eq_false _
        refine wp_region_held_drew (S := fun W => KpS C w w2 W gd (evs xs) [(B11, .cells #[.string z.ev.id, .string z.ev.room, .slice z.A z.ev.parents.length z.cap, .string z.ev.thread, .string z.ev.user, .int .i64 z.ev.does] 33 (0, 0)), (B9, .cells #[.string y.ev.id, .string y.ev.room, .slice y.A y.ev.parents.length y.cap, .string y.ev.thread, .string y.ev.user, .int .i64 y.ev.does] 33 (0, 0)), (B4, .cells #[.string roomR, .slice Av xs.length cv] 26 (0, 0))] [z, y] []) (by kernel_rfl) (HK10.out.later (Below.refl _ _).drew) (fun hHeld => ?_)
        have HC3 := Lib.hid (fun W bs ts h => HSM.out W bs [z, y] ts y z h (List.mem_cons_of_mem _ List.mem_cons_self) List.mem_cons_self HYZ.out)
        unfold EvV.val EvV.pv at HC3
        generalize World.drew _ = wd at hHeld ⊢
        refine wpAnyH_take (i := 0) (oi := ⟨some 43, _, _, _, _, _⟩) (v := ?vb0) rfl (by kernel_rfl) (by kernel_rfl) (by kernel_rfl) (fun _ _ _ h => h) (Or.inl ⟨by rfl, ?yb0⟩) hHeld ?rb0
        case yb0 =>
          intro wx hSx
          go_simp
          try with_reducible rfl
        try simp only [Act.put, List.setIfInBounds_toArray, List.set_cons_zero, List.set_cons_succ]
        refine wpAnyH_take (i := 1) (oi := ⟨some 44, _, _, _, _, _⟩) (v := ?vb1) rfl (by kernel_rfl) (by kernel_rfl) (by kernel_rfl) (fun _ _ _ h => h) (Or.inl ⟨by rfl, ?yb1⟩) hHeld ?rb1
        case yb1 =>
          intro wx hSx
          go_simp
          try with_reducible rfl
        try simp only [Act.put, List.setIfInBounds_toArray, List.set_cons_zero, List.set_cons_succ]
        refine wpAnyH_take (i := 3) (oi := ⟨some 46, _, _, _, _, _⟩) (v := ?vb3) rfl (by kernel_rfl) (by kernel_rfl) (by kernel_rfl) (fun _ _ _ h => h) (Or.inl ⟨by rfl, ?yb3⟩) hHeld ?rb3
        case yb3 =>
          intro wx hSx
          have p0 := cell_at (hSx.box _ (List.mem_cons_of_mem _ (List.mem_cons_of_mem _ List.mem_cons_self))).1 0
          have p1 := cell_at (hSx.box _ (List.mem_cons_of_mem _ (List.mem_cons_of_mem _ List.mem_cons_self))).1 1
          simp only [List.getElem?_toArray, List.getElem?_cons_succ, List.getElem?_cons_zero] at p0 p1
          go_simp
          try with_reducible rfl
        try simp only [Act.put, List.setIfInBounds_toArray, List.set_cons_zero, List.set_cons_succ]
        refine wpAnyH_take (i := 4) (oi := ⟨some 47, _, _, _, _, _⟩) (v := ?vb4) rfl (by kernel_rfl) (by kernel_rfl) (by kernel_rfl) (fun _ _ _ h => h) (Or.inl ⟨by rfl, ?yb4⟩) hHeld ?rb4
        case yb4 =>
          intro wx hSx
          go_simp
          try with_reducible rfl
        try simp only [Act.put, List.setIfInBounds_toArray, List.set_cons_zero, List.set_cons_succ]
        refine wpAnyH_ready (rs := [2]) (by kernel_rfl) (by simp) ?_
        refine AllReadyH.cons (o := ⟨some 45, _, _, _, _, _⟩) rfl (fun K hK => ?_) AllReadyH.nil
        go_simp
        refine (HC1.out _ _ _ _ hHeld).mono ?_
        rintro e wn ⟨rfl, hkn⟩
        refine hK.out _ _ hkn (fun hHeld => ?_)
        clear hK K hkn
        try simp only [Act.put, List.setIfInBounds_toArray, List.set_cons_zero, List.set_cons_succ]
        generalize wn = wd at hHeld ⊢
        refine wpAnyH_ready (rs := [5]) (by kernel_rfl) (by simp) ?_
        refine AllReadyH.cons (o := ⟨some 48, _, _, _, _, _⟩) rfl (fun K hK => ?_) AllReadyH.nil
        go_simp
        refine (HC2.out _ _ _ _ hHeld).mono ?_
        rintro e wn ⟨rfl, hkn⟩
        refine hK.out _ _ hkn (fun hHeld => ?_)
        clear hK K hkn
        try simp only [Act.put, List.setIfInBounds_toArray, List.set_cons_zero, List.set_cons_succ]
        generalize wn = wd at hHeld ⊢
        refine wpAnyH_take (i := 6) (oi := ⟨some 49, _, _, _, _, _⟩) (v := .bool false) rfl (by kernel_rfl) (by kernel_rfl) (by kernel_rfl) (fun _ _ _ h => h) (Or.inl ⟨by rfl, ?yb6⟩) hHeld ?rb6
        case yb6 =>
          intro wx hSx
          skip
          go_simp
          try with_reducible rfl
        try simp only [Act.put, List.setIfInBounds_toArray, List.set_cons_zero, List.set_cons_succ]
        refine wpAnyH_take (i := 7) (oi := ⟨some 50, _, _, _, _, _⟩) (v := ?vb7) rfl (by kernel_rfl) (by kernel_rfl) (by kernel_rfl) (fun _ _ _ h => h) (Or.inl ⟨by rfl, ?yb7⟩) hHeld ?rb7
        case yb7 =>
          intro wx hSx
          go_simp
          try with_reducible rfl
        try simp only [Act.put, List.setIfInBounds_toArray, List.set_cons_zero, List.set_cons_succ]
        refine wpAnyH_take (i := 8) (oi := ⟨some 51, _, _, _, _, _⟩) (v := ?vb8) rfl (by kernel_rfl) (by kernel_rfl) (by kernel_rfl) (fun _ _ _ h => h) (Or.inl ⟨by rfl, ?yb8⟩) hHeld ?rb8
        case yb8 =>
          intro wx hSx
          go_simp
          try with_reducible rfl
        try simp only [Act.put, List.setIfInBounds_toArray, List.set_cons_zero, List.set_cons_succ]
        refine wpAnyH_take (i := 9) (oi := ⟨some 52, _, _, _, _, _⟩) (v := ?vb9) rfl (by kernel_rfl) (by kernel_rfl) (by kernel_rfl) (fun _ _ _ h => h) (Or.inl ⟨by rfl, ?yb9⟩) hHeld ?rb9
        case yb9 =>
          intro wx hSx
          go_simp
          try with_reducible rfl
        try simp only [Act.put, List.setIfInBounds_toArray, List.set_cons_zero, List.set_cons_succ]
        refine wpAnyH_take (i := 10) (oi := ⟨some 53, _, _, _, _, _⟩) (v := .bool false) rfl (by kernel_rfl) (by kernel_rfl) (by kernel_rfl) (fun _ _ _ h => h) (Or.inl ⟨by rfl, ?yb10⟩) hHeld ?rb10
        case yb10 =>
          intro wx hSx
          skip
          go_simp
          try with_reducible rfl
        try simp only [Act.put, List.setIfInBounds_toArray, List.set_cons_zero, List.set_cons_succ]
        refine wpAnyH_take (i := 11) (oi := ⟨some 54, _, _, _, _, _⟩) (v := ?vb11) rfl (by kernel_rfl) (by kernel_rfl) (by kernel_rfl) (fun _ _ _ h => h) (Or.inl ⟨by rfl, ?yb11⟩) hHeld ?rb11
        case yb11 =>
          intro wx hSx
          go_simp
          try with_reducible rfl
        try simp only [Act.put, List.setIfInBounds_toArray, List.set_cons_zero, List.set_cons_succ]
        refine wpAnyH_take (i := 12) (oi := ⟨some 55, _, _, _, _, _⟩) (v := ?vb12) rfl (by kernel_rfl) (by kernel_rfl) (by kernel_rfl) (fun _ _ _ h => h) (Or.inl ⟨by rfl, ?yb12⟩) hHeld ?rb12
        case yb12 =>
          intro wx hSx
          go_simp
          try with_reducible rfl
        try simp only [Act.put, List.setIfInBounds_toArray, List.set_cons_zero, List.set_cons_succ]
        refine wpAnyH_take (i := 13) (oi := ⟨some 56, _, _, _, _, _⟩) (v := ?vb13) rfl (by kernel_rfl) (by kernel_rfl) (by kernel_rfl) (fun _ _ _ h => h) (Or.inl ⟨by rfl, ?yb13⟩) hHeld ?rb13
        case yb13 =>
          intro wx hSx
          have p0 := cell_at (hSx.box _ (List.mem_cons_of_mem _ List.mem_cons_self)).1 0
          have p1 := cell_at (hSx.box _ (List.mem_cons_of_mem _ List.mem_cons_self)).1 1
          have p2 := cell_at (hSx.box _ (List.mem_cons_of_mem _ List.mem_cons_self)).1 2
          have p3 := cell_at (hSx.box _ (List.mem_cons_of_mem _ List.mem_cons_self)).1 3
          have p4 := cell_at (hSx.box _ (List.mem_cons_of_mem _ List.mem_cons_self)).1 4
          have p5 := cell_at (hSx.box _ (List.mem_cons_of_mem _ List.mem_cons_self)).1 5
          simp only [List.getElem?_toArray, List.getElem?_cons_succ, List.getElem?_cons_zero] at p0 p1 p2 p3 p4 p5
          go_simp
          try with_reducible rfl
        try simp only [Act.put, List.setIfInBounds_toArray, List.set_cons_zero, List.set_cons_succ]
        refine wpAnyH_take (i := 14) (oi := ⟨some 57, _, _, _, _, _⟩) (v := ?vb14) rfl (by kernel_rfl) (by kernel_rfl) (by kernel_rfl) (fun _ _ _ h => h) (Or.inl ⟨by rfl, ?yb14⟩) hHeld ?rb14
        case yb14 =>
          intro wx hSx
          have p0 := cell_at (hSx.box _ List.mem_cons_self).1 0
          have p1 := cell_at (hSx.box _ List.mem_cons_self).1 1
          have p2 := cell_at (hSx.box _ List.mem_cons_self).1 2
          have p3 := cell_at (hSx.box _ List.mem_cons_self).1 3
          have p4 := cell_at (hSx.box _ List.mem_cons_self).1 4
          have p5 := cell_at (hSx.box _ List.mem_cons_self).1 5
          simp only [List.getElem?_toArray, List.getElem?_cons_succ, List.getElem?_cons_zero] at p0 p1 p2 p3 p4 p5
          go_simp
          try with_reducible rfl
        try simp only [Act.put, List.setIfInBounds_toArray, List.set_cons_zero, List.set_cons_succ]
        refine wpAnyH_ready (rs := [15]) (by kernel_rfl) (by simp) ?_
        refine AllReadyH.cons (o := ⟨some 58, _, _, _, _, _⟩) rfl (fun K hK => ?_) AllReadyH.nil
        go_simp
        refine (HC3.out _ _ _ hHeld).mono ?_
        rintro e wn ⟨rfl, hkn⟩
        refine hK.out _ _ hkn (fun hHeld => ?_)
        clear hK K hkn
        try simp only [Act.put, List.setIfInBounds_toArray, List.set_cons_zero, List.set_cons_succ]
        generalize wn = wd at hHeld ⊢
        refine wpAnyH_take (i := 16) (oi := ⟨some 59, _, _, _, _, _⟩) (v := ?vb16) rfl (by kernel_rfl) (by kernel_rfl) (by kernel_rfl) (fun _ _ _ h => h) (Or.inl ⟨by rfl, ?yb16⟩) hHeld ?rb16
        case yb16 =>
          intro wx hSx
          go_simp
          try with_reducible rfl
        try simp only [Act.put, List.setIfInBounds_toArray, List.set_cons_zero, List.set_cons_succ]
        refine wpAnyH_take (i := 17) (oi := ⟨some 60, _, _, _, _, _⟩) (v := ?vb17) rfl (by kernel_rfl) (by kernel_rfl) (by kernel_rfl) (fun _ _ _ h => h) (Or.inl ⟨by rfl, ?yb17⟩) hHeld ?rb17
        case yb17 =>
          intro wx hSx
          go_simp
          try with_reducible rfl
        try simp only [Act.put, List.setIfInBounds_toArray, List.set_cons_zero, List.set_cons_succ]
        refine wpAnyH_done (by kernel_rfl) ?_ _
        go_wp2_with fail
        refine ⟨⟨a + 1, by go_num, by omega, Lib.hid (hHeld.less (fun q hq => by rw [List.mem_singleton.1 hq]; exact (List.mem_cons_of_mem _ (List.mem_cons_of_mem _ List.mem_cons_self))) (fun x hx => (List.not_mem_nil hx).elim) (fun p hp => hp))⟩, ?_⟩
        simp [intOf]; omega
    · have q1 : decide ((a : Int) < 10) = false := decide_eq_false (by omega)
      go_upto_region 14 with (fail)
      refine wp_region_held_drew (S := fun W => KpS C w w2 W gd (evs xs) [(B4, .cells #[.string roomR, .slice Av xs.length cv] 26 (0, 0))] [] []) (by kernel_rfl) (HK.out.later (Below.refl _ _).drew) (fun hHeld => ?_)
      clear HK
      generalize World.drew _ = wd at hHeld ⊢
      refine wpAnyH_take (i := 0) (oi := ⟨some 61, _, _, _, _, _⟩) (v := ?vz0) rfl (by kernel_rfl) (by kernel_rfl) (by kernel_rfl) (fun _ _ _ h => h) (Or.inl ⟨by rfl, ?yz0⟩) hHeld ?rz0
      case yz0 =>
        intro wx hSx
        go_simp
        try with_reducible rfl
      try simp only [Act.put, List.setIfInBounds_toArray, List.set_cons_zero, List.set_cons_succ]
      refine wpAnyH_take (i := 2) (oi := ⟨some 63, _, _, _, _, _⟩) (v := ?vz2) rfl (by kernel_rfl) (by kernel_rfl) (by kernel_rfl) (fun _ _ _ h => h) (Or.inl ⟨by rfl, ?yz2⟩) hHeld ?rz2
      case yz2 =>
        intro wx hSx
        have p0 := cell_at (hSx.box _ List.mem_cons_self).1 0
        have p1 := cell_at (hSx.box _ List.mem_cons_self).1 1
        simp only [List.getElem?_toArray, List.getElem?_cons_succ, List.getElem?_cons_zero] at p0 p1
        go_simp
        try with_reducible rfl
      try simp only [Act.put, List.setIfInBounds_toArray, List.set_cons_zero, List.set_cons_succ]
      refine wpAnyH_ready (rs := [1]) (by kernel_rfl) (by simp) ?_
      refine AllReadyH.cons (o := ⟨some 62, _, _, _, _, _⟩) rfl (fun K hK => ?_) AllReadyH.nil
      go_simp
      refine (HUS.out _ _ _ _ hHeld).mono ?_
      rintro e wn ⟨A1, c1, rfl, hkn⟩
      refine hK.out _ _ (hkn.less (fun q hq => hq) (fun x hx => hx) (fun p hp => List.mem_cons_of_mem _ hp)) (fun hHeld => ?_)
      clear hK K
      try simp only [Act.put, List.setIfInBounds_toArray, List.set_cons_zero, List.set_cons_succ]
      refine anyH_narrow (S' := fun W => KpS C w w2 W gd (evs xs) [(B4, .cells #[.string roomR, .slice Av xs.length cv] 26 (0, 0))] [] ((.slice A1 (usersL (evs xs)).length c1, usersL (evs xs)) :: [])) (fun _ h => h.less (fun q hq => hq) (fun x hx => hx) (fun p hp => List.mem_cons_of_mem _ hp)) _ _ _ _ ?_
      clear hHeld
      have hHeld : KpS C w w2 wn gd (evs xs) [(B4, .cells #[.string roomR, .slice Av xs.length cv] 26 (0, 0))] [] ((.slice A1 (usersL (evs xs)).length c1, usersL (evs xs)) :: []) := hkn
      clear hkn
      generalize wn = wd at hHeld ⊢
      refine wpAnyH_ready (rs := [3]) (by kernel_rfl) (by simp) ?_
      refine AllReadyH.cons (o := ⟨some 64, _, _, _, _, _⟩) rfl (fun K hK => ?_) AllReadyH.nil
      go_simp
      refine (HRU.out _ _ _ _ hHeld).mono ?_
      rintro e wn ⟨A2, c2, rfl, hkn⟩
      refine hK.out _ _ (hkn.less (fun q hq => hq) (fun x hx => hx) (fun p hp => List.mem_cons_of_mem _ hp)) (fun hHeld => ?_)
      clear hK K
      try simp only [Act.put, List.setIfInBounds_toArray, List.set_cons_zero, List.set_cons_succ]
      refine anyH_narrow (S' := fun W => KpS C w w2 W gd (evs xs) [(B4, .cells #[.string roomR, .slice Av xs.length cv] 26 (0, 0))] [] ((.slice A2 (usersL (evs xs)).length c2, usersL (evs xs)) :: ((.slice A1 (usersL (evs xs)).length c1, usersL (evs xs)) :: []))) (fun _ h => h.less (fun q hq => hq) (fun x hx => hx) (fun p hp => List.mem_cons_of_mem _ hp)) _ _ _ _ ?_
      clear hHeld
      have hHeld : KpS C w w2 wn gd (evs xs) [(B4, .cells #[.string roomR, .slice Av xs.length cv] 26 (0, 0))] [] ((.slice A2 (usersL (evs xs)).length c2, usersL (evs xs)) :: ((.slice A1 (usersL (evs xs)).length c1, usersL (evs xs)) :: [])) := hkn
      clear hkn
      generalize wn = wd at hHeld ⊢
      refine wpAnyH_ready (rs := [4]) (by kernel_rfl) (by simp) ?_
      refine AllReadyH.cons (o := ⟨some 65, _, _, _, _, _⟩) rfl (fun K hK => ?_) AllReadyH.nil
      go_simp
      refine (HST.out _ _ _ _ _ _ _ hHeld (List.mem_cons_of_mem _ List.mem_cons_self) List.mem_cons_self).mono ?_
      rintro e wn ⟨rfl, hkn⟩
      refine hK.out _ _ hkn (fun hHeld => ?_)
      clear hK K hkn
      try simp only [Act.put, List.setIfInBounds_toArray, List.set_cons_zero, List.set_cons_succ]
      generalize wn = wd at hHeld ⊢
      refine wpAnyH_take (i := 5) (oi := ⟨some 66, _, _, _, _, _⟩) (v := ?vz5) rfl (by kernel_rfl) (by kernel_rfl) (by kernel_rfl) (fun _ _ _ h => h) (Or.inl ⟨by rfl, ?yz5⟩) hHeld ?rz5
      case yz5 =>
        intro wx hSx
        go_simp
        try with_reducible rfl
      try simp only [Act.put, List.setIfInBounds_toArray, List.set_cons_zero, List.set_cons_succ]
      refine wpAnyH_ready (rs := [6]) (by kernel_rfl) (by simp) ?_
      refine AllReadyH.cons (o := ⟨some 67, _, _, _, _, _⟩) rfl (fun K hK => ?_) AllReadyH.nil
      go_simp
      refine (HLV.out _ _ _ _ hHeld).mono ?_
      rintro e wn ⟨rfl, hkn⟩
      refine hK.out _ _ hkn (fun hHeld => ?_)
      clear hK K hkn
      try simp only [Act.put, List.setIfInBounds_toArray, List.set_cons_zero, List.set_cons_succ]
      generalize wn = wd at hHeld ⊢
      refine wpAnyH_take (i := 7) (oi := ⟨some 68, _, _, _, _, _⟩) (v := ?vz7) rfl (by kernel_rfl) (by kernel_rfl) (by kernel_rfl) (fun _ _ _ h => h) (Or.inl ⟨by rfl, ?yz7⟩) hHeld ?rz7
      case yz7 =>
        intro wx hSx
        go_simp
        try with_reducible rfl
      try simp only [Act.put, List.setIfInBounds_toArray, List.set_cons_zero, List.set_cons_succ]
      refine wpAnyH_take (i := 8) (oi := ⟨some 4, _, _, _, _, _⟩) (v := ?vz8) rfl (by kernel_rfl) (by kernel_rfl) (by kernel_rfl) (fun _ _ _ h => h) (Or.inl ⟨by rfl, ?yz8⟩) hHeld ?rz8
      case yz8 =>
        intro wx hSx
        go_simp
        try with_reducible rfl
      try simp only [Act.put, List.setIfInBounds_toArray, List.set_cons_zero, List.set_cons_succ]
      refine wpAnyH_done (by kernel_rfl) ?_ _
      go_wp2_with fail
      go_ret
      exact ⟨rfl, hHeld.bd.below⟩
end Go.Proofs.YtfbfdkibdjinaaaGreat
