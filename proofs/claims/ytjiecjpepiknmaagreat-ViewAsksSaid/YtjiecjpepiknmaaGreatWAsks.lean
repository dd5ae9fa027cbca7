/-
  The walk of ViewAsks.
-/
import Derived.Test.YtjiecjpepiknmaaGreatA6
namespace Go.Proofs.YtjiecjpepiknmaaGreat
set_option maxRecDepth 20000
open Go.RowKit
set_option linter.unusedVariables false
set_option linter.unusedSimpArgs false
section
variable {C : Dags}

set_option maxHeartbeats 3200000 in
theorem viewAsks_walk (C : Dags) (CR : DagRms C) (CA : DagAlls C) (va vb : Value) (gs hs : List GV) (n k : Int) (s : ByteArray) (w : World) (ha : GsS w va gs) (hb : GsS w vb hs) (hn0 : -9223372036854775808 ≤ n) (hn1 : n ≤ 9223372036854775807) (hk0 : -9223372036854775808 ≤ k) (hk1 : k ≤ 9223372036854775807) (hsz : s.size ≤ maxLen) :
    Calls Tryz.prog 4 #[va, vb, .int .i64 n, .int .i64 k, .string s] w fun e w' => e = .returned (.bool true) ∧ Below w.heap.size w w' := by
  have HBU := Lib.hid (build10_any CR va vb gs hs (Kv.start (C := C) w) ha hb)
  obtain ⟨Aa, ca, rfl, -⟩ := id ha.1
  obtain ⟨Ab, cb, rfl, -⟩ := id hb.1
  have HML := Lib.hid (madeL_len gs hs)
  have HFW := Lib.hid (fun W => few_any s 8 (by decide) W hsz)
  have HS8 : Hid ((fewS s 8).size ≤ 8) := Lib.hid (fewS_size s 8)
  have HUO0 := Lib.hid (fun W => userOf_any k W hk0 hk1)
  have HUZ : Hid ((userS k).size ≤ maxLen) := Lib.hid (Nat.le_trans (named_size (userS_user k)) (by decide))
  have HSO0 := Lib.hid (fun W => serverOf_any k W hk0 hk1)
  have HEO0 := Lib.hid (fun W => eventOf_any k W hk0 hk1)
  have HEZ := Lib.hid (eventS_size k)
  have HRO := Lib.hid (fun W => roomOf_any n W hn0 hn1)
  have HRM : Hid ((roomS n).size ≤ 40) := Lib.hid (named_size (roomS_room n))
  clear ha hb hsz
  generalize fewS s 8 = s8 at HFW HS8
  generalize userS k = uk at HUO0 HUZ
  generalize serverS k = srv at HSO0
  generalize eventS k = ek at HEO0 HEZ
  generalize roomS n = rm at HRO HRM
  have hs8z : s8.size ≤ maxLen := Nat.le_trans HS8.out (by decide)
  generalize madeL gs hs = ml at HML HBU ⊢
  go_enter Tryz.func4, Tryz.ntmps4
  go_wp2_with fail
  go_at_call 8
  refine HBU.out.mono ?_
  rintro e w1 ⟨v, u, ds, rfl, hvV, hds, hk⟩
  have HV : Hid (VOk 100 (vws ds)) := Lib.hid (by rw [hds]; exact (foldV_ok ml).mono (Nat.le_trans HML.out (by decide)))
  obtain ⟨Au, cu, rfl, -⟩ := id (show DsS w1 u ds from hk.is List.mem_cons_self).1
  have HK2 : Hid (Kv C w (w1.alloc (.cells #[.slice Au ds.length cu] 28)) [v] (Th.box w1.heap.size (.cells #[.slice Au ds.length cu] 28 (0, 0)) :: Th.vw (.slice Au ds.length cu) ds :: [])) := Lib.hid ((show Kv C w w1 [v] (Th.vw (.slice Au ds.length cu) ds :: []) from hk).add (t := Th.box w1.heap.size (.cells #[.slice Au ds.length cu] 28 (0, 0))) (below_new w1 _) (heap_alloc_new w1 _) (fun k hk => .inl (Nat.le_of_eq hk.symm)))
  have HVV := Lib.hid hvV
  clear hvV hds hk HBU HML
  go_upto_region 2 with (fail)
  generalize World.alloc _ _ = w2 at HK2 ⊢
  generalize w1.heap.size = B12 at HK2 ⊢
  have HVE : Hid (∀ (xs : List EvV) (room : ByteArray), evs xs = ofL (vws ds) room → Valid room (evs xs) ∧ xs.length ≤ 1000) := Lib.hid (fun xs room he => by
    have := HV.out.of_ room
    rw [← he, evs_len] at this
    exact ⟨this.1, Nat.le_trans this.2 (by decide)⟩)
  have HOF : Hid (∀ W tt, Kv C w W [v] (tt) → Th.vw (.slice Au ds.length cu) ds ∈ tt → ∀ room : ByteArray, Calls Tryz.prog 10 #[.agg #[.slice Au ds.length cu], .string room] W fun e w' => ∃ d : DV, e = .returned (.agg #[.string room, .slice d.A d.xs.length d.cap]) ∧ evs d.xs = ofL (vws ds) room ∧ Kv C w w' [v] (Th.evs (.slice d.A d.xs.length d.cap) d.xs :: tt)) := Lib.hid (fun W tt hk hm room => by
    refine (refOf_any (.slice Au ds.length cu) ds room W (hk.is hm) (Nat.le_trans (vws_len HV.out).1 (by decide))).mono ?_
    rintro e w' ⟨d, rfl, hes, hdr, hdm, hdo, hb⟩
    refine ⟨d, by rw [← hdr]; rfl, hdo, hk.add (t := Th.evs (.slice d.A d.xs.length d.cap) d.xs) hb hes (fun k hk' => .inr ⟨_, hm, of_foot hdm hk'⟩)⟩)
  obtain ⟨po, ha, users, servers, jn, inn, hpc, hpr, huc, hur, hsc, hsr, hjc, hjr, hic, hha⟩ : ∃ (po : ByteArray → ByteArray → Po) (ha : ByteArray → ByteArray → Bool) (users servers : ByteArray → List ByteArray) (jn inn : ByteArray → ByteArray → Bool), (∀ W tt, Kv C w W [v] (tt) → ∀ room id : ByteArray, room.size ≤ 40 → id.size ≤ maxLen → Calls Tryz.prog 24 #[.pointer (some ⟨v.g, 0, none⟩), .string room, .string id] W fun e w' => e = .returned (.tuple #[.agg #[.int .i64 (po room id).depth, .string (po room id).id], .bool (ha room id)]) ∧ Kv C w w' [v] (tt)) ∧ (∀ W tt, Kv C w W [v] (tt) → Th.vw (.slice Au ds.length cu) ds ∈ tt → ∀ room id : ByteArray, Calls Tryz.prog 26 #[.agg #[.slice Au ds.length cu], .string room, .string id] W fun e w' => e = .returned (.tuple #[.agg #[.int .i64 (po room id).depth, .string (po room id).id], .bool (ha room id)]) ∧ Kv C w w' [v] (tt)) ∧ (∀ W tt, Kv C w W [v] (tt) → ∀ room : ByteArray, room.size ≤ 40 → Calls Tryz.prog 27 #[.pointer (some ⟨v.g, 0, none⟩), .string room] W fun e w' => ∃ v', e = .returned v' ∧ Kv C w w' [v] (Th.row LT v' (users room) :: tt)) ∧ (∀ W tt (v' : Value) (xs : List EvV) (room : ByteArray), Kv C w W [v] (tt) → Th.evs v' xs ∈ tt → evs xs = ofL (vws ds) room → Calls Tryz.prog 28 #[.agg #[.string room, v']] W fun e w' => ∃ v', e = .returned v' ∧ Kv C w w' [v] (Th.row LT v' (users room) :: tt)) ∧ (∀ W tt, Kv C w W [v] (tt) → ∀ room : ByteArray, room.size ≤ 40 → Calls Tryz.prog 29 #[.pointer (some ⟨v.g, 0, none⟩), .string room] W fun e w' => ∃ v', e = .returned v' ∧ Kv C w w' [v] (Th.row LT v' (servers room) :: tt)) ∧ (∀ W tt (v' : Value) (xs : List EvV) (room : ByteArray), Kv C w W [v] (tt) → Th.evs v' xs ∈ tt → evs xs = ofL (vws ds) room → Calls Tryz.prog 30 #[.agg #[.string room, v']] W fun e w' => ∃ v', e = .returned v' ∧ Kv C w w' [v] (Th.row LT v' (servers room) :: tt)) ∧ (∀ W tt, Kv C w W [v] (tt) → ∀ room u : ByteArray, room.size ≤ 40 → u.size ≤ maxLen → Calls Tryz.prog 31 #[.pointer (some ⟨v.g, 0, none⟩), .string room, .string u] W fun e w' => e = .returned (.bool (jn room u)) ∧ Kv C w w' [v] (tt)) ∧ (∀ W tt, Kv C w W [v] (tt) → Th.vw (.slice Au ds.length cu) ds ∈ tt → ∀ room u : ByteArray, Calls Tryz.prog 33 #[.agg #[.slice Au ds.length cu], .string room, .string u] W fun e w' => e = .returned (.bool (jn room u)) ∧ Kv C w w' [v] (tt)) ∧ (∀ W tt, Kv C w W [v] (tt) → ∀ room u : ByteArray, room.size ≤ 40 → Calls Tryz.prog 34 #[.pointer (some ⟨v.g, 0, none⟩), .string room, .string u] W fun e w' => e = .returned (.bool (inn room u)) ∧ Kv C w w' [v] (tt)) ∧ (∀ W tt (v' : Value) (room u : ByteArray), Kv C w W [v] (tt) → Th.row LT v' (servers room) ∈ tt → Calls Tryz.prog 36 #[v', .string u] W fun e w' => e = .returned (.bool (inn room u)) ∧ Kv C w w' [v] (tt)) := by
    refine ⟨fun room id => bif hasE (ofL (vws ds) room) id then posL (ofL (vws ds) room) id else ⟨0, ⟨#[]⟩⟩, fun room id => hasE (ofL (vws ds) room) id, fun room => usersL (ofL (vws ds) room), fun room => serversL (ofL (vws ds) room), fun room u => joinL (ofL (vws ds) room) u, fun room u => hasL (serversL (ofL (vws ds) room)) u, ?_, ?_, ?_, ?_, ?_, ?_, ?_, ?_, ?_, ?_⟩
    · intro W tt hk room id hr hi
      refine (viewPosition_any hk (i := 0) rfl room id hr hi).mono ?_
      rintro e w' ⟨p, he, hp, hk'⟩
      rw [HVV.out] at he hp
      subst hp
      exact ⟨he, hk'⟩
    · intro W tt hk hm room id
      refine (refPosition10_any (hk.is hm) HV.out room id).mono ?_
      rintro e w' ⟨p, he, hp, hb⟩
      subst hp
      exact ⟨he, hk.later hb⟩
    · intro W tt hk room hr
      refine (viewUsers_any CA hk (i := 0) rfl room hr).mono ?_
      rintro e w' ⟨v', he, h1, -⟩
      rw [HVV.out] at h1
      exact ⟨v', he, h1⟩
    · intro W tt v' xs room hk hm he
      refine (refUsers_any room v' xs W (hk.is hm) (HVE.out xs room he).1 (HVE.out xs room he).2).mono ?_
      rintro e w' ⟨v2, hr, h1, hb⟩
      rw [he] at h1
      exact ⟨v2, hr, hk.add (t := Th.row LT v2 (usersL (ofL (vws ds) room))) hb h1.slice (fun k hk => .inl (h1.lt k hk.2).1)⟩
    · intro W tt hk room hr
      refine (viewServers_any CA hk (i := 0) rfl room hr).mono ?_
      rintro e w' ⟨v', he, h1, -⟩
      rw [HVV.out] at h1
      exact ⟨v', he, h1⟩
    · intro W tt v' xs room hk hm he
      refine (refServers_any room v' xs W (hk.is hm) (HVE.out xs room he).1 (HVE.out xs room he).2).mono ?_
      rintro e w' ⟨v2, hr, h1, hb⟩
      rw [he] at h1
      exact ⟨v2, hr, hk.add (t := Th.row LT v2 (serversL (ofL (vws ds) room))) hb h1.slice (fun k hk => .inl (h1.lt k hk.2).1)⟩
    · intro W tt hk room u hr hu
      have := viewJoined_any CA hk (i := 0) rfl room hr u hu
      rw [HVV.out] at this
      exact this
    · intro W tt hk hm room u
      exact (refJoined10_any (hk.is hm) HV.out room u).mono (fun e w' he => ⟨he.1, hk.later he.2⟩)
    · intro W tt hk room u hr
      have := viewIn_any CA hk (i := 0) rfl room hr u
      rw [HVV.out] at this
      exact this
    · intro W tt v' room u hk hm
      exact (refHas_any v' _ u W (hk.is hm)).mono (fun e w' he => ⟨he.1, by rw [he.2]; exact hk⟩)
  have HPC := Lib.hid hpc
  have HPR := Lib.hid hpr
  have HUC := Lib.hid huc
  have HUR := Lib.hid hur
  have HSC := Lib.hid hsc
  have HSR := Lib.hid hsr
  have HJC := Lib.hid hjc
  have HJR := Lib.hid hjr
  have HIC := Lib.hid hic
  have HHA := Lib.hid hha
  clear hpc hpr huc hur hsc hsr hjc hjr hic hha HVE HV HVV
  have HST := Lib.hid (fun W tt (v1 v2 : Value) (us : List ByteArray) (hk : Kv C w W [v] (tt)) (h1 : Th.row LT v1 us ∈ tt) (h2 : Th.row LT v2 us ∈ tt) => (show Calls Tryz.prog 17 #[v1, v2] W fun e w' => e = .returned (.bool true) ∧ Kv C w w' [v] (tt) from (sameTexts_any v1 v2 us us W (hk.is h1) (hk.is h2)).mono (fun e w' ⟨he, d, hw⟩ => ⟨by rw [he, decide_eq_true rfl], hk.later (by rw [hw]; exact ((Gr.refl W).drewN d).below)⟩)))
  have HUO := Lib.hid (fun W tt (hk : Kv C w W [v] (tt)) => (show Calls Tryz.prog 32 #[.int .i64 k] W fun e w' => e = .returned (.string uk) ∧ Kv C w w' [v] (tt) from (HUO0.out W).mono (fun e w' he => ⟨he.1, hk.later he.2⟩)))
  have HSO := Lib.hid (fun W tt (hk : Kv C w W [v] (tt)) => (show Calls Tryz.prog 35 #[.int .i64 k] W fun e w' => e = .returned (.string srv) ∧ Kv C w w' [v] (tt) from (HSO0.out W).mono (fun e w' he => ⟨he.1, hk.later he.2⟩)))
  have HEO := Lib.hid (fun W tt (hk : Kv C w W [v] (tt)) => (show Calls Tryz.prog 25 #[.int .i64 k] W fun e w' => e = .returned (.string ek) ∧ Kv C w w' [v] (tt) from (HEO0.out W).mono (fun e w' he => ⟨he.1, hk.later he.2⟩)))
  have HLV := Lib.hid (fun W tt (hw : Kv C w W [v] (tt)) => lives10_any CR hw)
  clear HUO0 HSO0 HEO0
  go_wp2_with fail
  go_at_call 23
  refine (HFW.out _).mono ?_
  rintro e w3 ⟨rfl, rfl⟩
  clear HFW
  go_wp2_with fail
  go_at_call 11
  refine (HRO.out _).mono ?_
  rintro e w4 ⟨rfl, b4⟩
  have HK3 := Lib.hid (HK2.out.later b4)
  have HK4 : Hid (Kv C w (w4.alloc (.cells #[.string rm, .string s8] 9)) [v] (Th.box w4.heap.size (.cells #[.string rm, .string s8] 9 (0, 0)) :: Th.box B12 (.cells #[.slice Au ds.length cu] 28 (0, 0)) :: Th.vw (.slice Au ds.length cu) ds :: [])) := Lib.hid (HK3.out.add (t := Th.box w4.heap.size (.cells #[.string rm, .string s8] 9 (0, 0))) (below_new w4 _) (heap_alloc_new w4 _) (fun k hk => .inl (Nat.le_of_eq hk.symm)))
  clear b4 HK2 HK3 HRO
  go_upto_region 6 with (fail)
  generalize World.alloc _ _ = w5 at HK4 ⊢
  generalize w4.heap.size = B13 at HK4 ⊢
  go_wp2_with fail
  go_loopw [14] (fun i wr => ∃ a : Nat, i = .int .i64 (a : Int) ∧ a ≤ 2 ∧ Hid (Kv C w wr [v] (Th.box B13 (.cells #[.string rm, .string s8] 9 (0, 0)) :: Th.box B12 (.cells #[.slice Au ds.length cu] 28 (0, 0)) :: Th.vw (.slice Au ds.length cu) ds :: []))) (fun i _ => 2 - (intOf i).toNat)
  case atStart => exact ⟨0, rfl, Nat.zero_le _, HK4⟩
  case round =>
    obtain ⟨a, rfl, haa, HK⟩ := hrel
    clear HK4
    by_cases h1 : a < 2
    · have q1 : decide ((a : Int) < 2) = true := decide_eq_true (by omega)
      obtain ⟨room, hroom, hcell⟩ : ∃ room : ByteArray, room.size ≤ 40 ∧ wr.cell? ⟨B13, a, none⟩ = some (.string room) := by
        rcases (show a = 0 ∨ a = 1 by omega) with rfl | rfl
        · exact ⟨rm, HRM.out, cell_at (HK.out.is List.mem_cons_self) 0⟩
        · exact ⟨s8, Nat.le_trans HS8.out (by decide), cell_at (HK.out.is List.mem_cons_self) 1⟩
      have hix := index_any (P := Tryz.prog) knT (by decide) (b := B13) (off := 0) (cap := 2) (show a < 2 from h1)
      simp only [LT] at hix
      rw [Nat.mul_one, Nat.zero_add] at hix
      have c12 : wr.cell? ⟨B12, 0, none⟩ = some (.slice Au ds.length cu) := cell_at (HK.out.is (List.mem_cons_of_mem _ List.mem_cons_self)) 0
      have HQ := Lib.hid (HOF.out wr _ HK.out (List.mem_cons_of_mem _ (List.mem_cons_of_mem _ List.mem_cons_self)) room)
      have HP1C := Lib.hid (fun W tt (hk : Kv C w W [v] (tt)) => HPC.out W tt hk room ek hroom HEZ.out)
      have HP1R := Lib.hid (fun W tt (hk : Kv C w W [v] (tt)) (hm : Th.vw (.slice Au ds.length cu) ds ∈ tt) => HPR.out W tt hk hm room ek)
      have HP2C := Lib.hid (fun W tt (hk : Kv C w W [v] (tt)) => HPC.out W tt hk room s8 hroom hs8z)
      have HP2R := Lib.hid (fun W tt (hk : Kv C w W [v] (tt)) (hm : Th.vw (.slice Au ds.length cu) ds ∈ tt) => HPR.out W tt hk hm room s8)
      generalize po room ek = p1 at HP1C HP1R
      generalize ha room ek = b1 at HP1C HP1R
      generalize po room s8 = p2 at HP2C HP2R
      generalize ha room s8 = b2 at HP2C HP2R
      have bff : ∀ b : Bool, (b != b) = false := fun b => by cases b <;> rfl
      have q5 := bff b1
      have q6 := bff b2
      have q7 := bff (jn room uk)
      have q8 := bff (jn room s8)
      have q9 := bff (inn room srv)
      have q10 := bff (inn room s8)
      clear bff
      go_wp2_with fail
      go_at_call 10
      refine HQ.out.mono ?_
      rintro e w5 ⟨d, rfl, hev, hk5⟩
      have HEV := Lib.hid hev
      have HK5 := Lib.hid hk5
      clear hev hk5 HQ HK c12 hcell hix
      have HK6 := Lib.hid (HK5.out.add (t := Th.box w5.heap.size (.cells #[.string room, .slice d.A d.xs.length d.cap] 36 (0, 0))) (below_new w5 _) (heap_alloc_new w5 _) (fun k hk => .inl (Nat.le_of_eq hk.symm)))
      go_upto_region 11 with (fail)
      generalize World.alloc _ _ = w6 at HK6 ⊢
      generalize w5.heap.size = B16 at HK6 ⊢
      clear HK5
      go_wp2_with fail
      go_at_call 25
      refine (HEO.out _ _ HK6.out).mono ?_
      rintro e w7 ⟨rfl, hk7⟩
      have HK7 := Lib.hid hk7
      clear hk7 HK6
      go_wp2_with fail
      go_at_call 24
      refine (HP1C.out _ _ HK7.out).mono ?_
      rintro e w8 ⟨rfl, hk8⟩
      have HK8 := Lib.hid hk8
      clear hk8 HK7 HP1C
      have HK10 := Lib.hid (HK8.out.add (t := Th.box w8.heap.size (.cells #[.int .i64 p1.depth, .string p1.id] 55 (0, 0))) (below_new w8 _) (heap_alloc_new w8 _) (fun k hk => .inl (Nat.le_of_eq hk.symm)))
      go_upto_region 12 with (fail)
      generalize World.alloc _ _ = w10 at HK10 ⊢
      generalize w8.heap.size = B17 at HK10 ⊢
      clear HK8
      go_cut [19, 20] from 58 to 65 (fun s19 s20 wx => ∃ B19, s19 = .pointer (some ⟨B19, 0, none⟩) ∧ s20 = .bool b1 ∧ Hid (Kv C w wx [v] (Th.box B19 (.cells #[.int .i64 p1.depth, .string p1.id] 55 (0, 0)) :: Th.box B17 (.cells #[.int .i64 p1.depth, .string p1.id] 55 (0, 0)) :: Th.box B16 (.cells #[.string room, .slice d.A d.xs.length d.cap] 36 (0, 0)) :: Th.evs (.slice d.A d.xs.length d.cap) d.xs :: Th.box B13 (.cells #[.string rm, .string s8] 9 (0, 0)) :: Th.box B12 (.cells #[.slice Au ds.length cu] 28 (0, 0)) :: Th.vw (.slice Au ds.length cu) ds :: [])))
      case first =>
        refine wp_region_held_drew (S := fun W => Kv C w W [v] (Th.box B17 (.cells #[.int .i64 p1.depth, .string p1.id] 55 (0, 0)) :: Th.box B16 (.cells #[.string room, .slice d.A d.xs.length d.cap] 36 (0, 0)) :: Th.evs (.slice d.A d.xs.length d.cap) d.xs :: Th.box B13 (.cells #[.string rm, .string s8] 9 (0, 0)) :: Th.box B12 (.cells #[.slice Au ds.length cu] 28 (0, 0)) :: Th.vw (.slice Au ds.length cu) ds :: [])) (by kernel_rfl) (HK10.out.later (below_drew w10)) (fun hHeld => ?_)
        clear HK10
        generalize w10.drew = wd at hHeld ⊢
        refine wpAnyH_take (i := 0) (oi := ⟨some 59, _, _, _, _, _⟩) (v := ?vk0) rfl (by kernel_rfl) (by kernel_rfl) (by kernel_rfl) (fun _ _ _ h => h) (Or.inl ⟨by rfl, ?yk0⟩) hHeld ?rk0
        case yk0 =>
          intro wx hSx
          have zB120 : wx.cell? ⟨B12, 0, none⟩ = some (.slice Au ds.length cu) := cell_at (hSx.is (List.mem_cons_of_mem _ (List.mem_cons_of_mem _ (List.mem_cons_of_mem _ (List.mem_cons_of_mem _ List.mem_cons_self))))) 0
          go_simp
          try with_reducible rfl
        try simp only [Act.put, List.setIfInBounds_toArray, List.set_cons_zero, List.set_cons_succ]
        refine wpAnyH_take (i := 1) (oi := ⟨some 60, _, _, _, _, _⟩) (v := ?vk1) rfl (by kernel_rfl) (by kernel_rfl) (by kernel_rfl) (fun _ _ _ h => h) (Or.inl ⟨by rfl, ?yk1⟩) hHeld ?rk1
        case yk1 =>
          intro wx hSx
          go_simp
          try with_reducible rfl
        try simp only [Act.put, List.setIfInBounds_toArray, List.set_cons_zero, List.set_cons_succ]
        refine wpAnyH_take (i := 2) (oi := ⟨some 61, _, _, _, _, _⟩) (v := ?vk2) rfl (by kernel_rfl) (by kernel_rfl) (by kernel_rfl) (fun _ _ _ h => h) (Or.inl ⟨by rfl, ?yk2⟩) hHeld ?rk2
        case yk2 =>
          intro wx hSx
          go_simp
          try with_reducible rfl
        try simp only [Act.put, List.setIfInBounds_toArray, List.set_cons_zero, List.set_cons_succ]
        refine wpAnyH_ready (rs := [3, 8]) (by kernel_rfl) (by simp) ?_
        refine AllReadyH.cons (o := ⟨some 62, _, _, _, _, _⟩) rfl (fun K hK => ?wz3) (AllReadyH.cons (o := ⟨some 19, _, _, _, _, _⟩) rfl (fun K hK => ?wz8) AllReadyH.nil)
        case wz3 =>
          have HQc := Lib.hid (HEO.out wd _ hHeld)
          go_simp
          refine HQc.out.mono ?_
          rintro e Wz3 ⟨rfl, hk⟩
          refine hK.out _ _ hk (fun hHeld => ?_)
          clear hK K HQc hk
          try simp only [Act.put, List.setIfInBounds_toArray, List.set_cons_zero, List.set_cons_succ]
          refine wpAnyH_ready (rs := [4, 8]) (by kernel_rfl) (by simp) ?_
          refine AllReadyH.cons (o := ⟨some 63, _, _, _, _, _⟩) rfl (fun K hK => ?wz3x4) (AllReadyH.cons (o := ⟨some 19, _, _, _, _, _⟩) rfl (fun K hK => ?wz3x8) AllReadyH.nil)
          case wz3x4 =>
            have HQc := Lib.hid (HP1R.out Wz3 _ hHeld (List.mem_cons_of_mem _ (List.mem_cons_of_mem _ (List.mem_cons_of_mem _ (List.mem_cons_of_mem _ (List.mem_cons_of_mem _ List.mem_cons_self))))))
            go_simp
            refine HQc.out.mono ?_
            rintro e Wz3x4 ⟨rfl, hk⟩
            refine hK.out _ _ hk (fun hHeld => ?_)
            clear hK K HQc hk
            try simp only [Act.put, List.setIfInBounds_toArray, List.set_cons_zero, List.set_cons_succ]
            refine wpAnyH_take (i := 5) (oi := ⟨some 58, _, _, _, _, _⟩) (v := ?vz3xc5) rfl (by kernel_rfl) (by kernel_rfl) (by kernel_rfl) (fun _ _ _ h => h) (Or.inl ⟨by rfl, ?yz3xc5⟩) hHeld ?rz3xc5
            case yz3xc5 =>
              intro wx hSx
              go_simp
              try with_reducible rfl
            try simp only [Act.put, List.setIfInBounds_toArray, List.set_cons_zero, List.set_cons_succ]
            refine wpAnyH_take (i := 6) (oi := ⟨some 64, _, _, _, _, _⟩) (v := ?vz3xc6) rfl (by kernel_rfl) (by kernel_rfl) (by kernel_rfl) (fun _ _ _ h => h) (Or.inl ⟨by rfl, ?yz3xc6⟩) hHeld ?rz3xc6
            case yz3xc6 =>
              intro wx hSx
              go_simp
              try with_reducible rfl
            try simp only [Act.put, List.setIfInBounds_toArray, List.set_cons_zero, List.set_cons_succ]
            refine wpAnyH_take (i := 7) (oi := ⟨some 65, _, _, _, _, _⟩) (v := ?vz3xc7) rfl (by kernel_rfl) (by kernel_rfl) (by kernel_rfl) (fun _ _ _ h => h) (Or.inl ⟨by rfl, ?yz3xc7⟩) hHeld ?rz3xc7
            case yz3xc7 =>
              intro wx hSx
              go_simp
              try with_reducible rfl
            try simp only [Act.put, List.setIfInBounds_toArray, List.set_cons_zero, List.set_cons_succ]
            refine wpAnyH_ready (rs := [8]) (by kernel_rfl) (by simp) ?_
            refine AllReadyH.cons (o := ⟨some 19, _, _, _, _, _⟩) rfl (fun K hK => ?wz3x4x8) AllReadyH.nil
            case wz3x4x8 =>
              have HLOW : Hid (w.heap.size ≤ Wz3x4.heap.size) := Lib.hid hHeld.size
              have HFR : Hid (∀ t ∈ Th.box B17 (.cells #[.int .i64 p1.depth, .string p1.id] 55 (0, 0)) :: Th.box B16 (.cells #[.string room, .slice d.A d.xs.length d.cap] 36 (0, 0)) :: Th.evs (.slice d.A d.xs.length d.cap) d.xs :: Th.box B13 (.cells #[.string rm, .string s8] 9 (0, 0)) :: Th.box B12 (.cells #[.slice Au ds.length cu] 28 (0, 0)) :: Th.vw (.slice Au ds.length cu) ds :: [], ¬ t.P Wz3x4.heap.size) := Lib.hid (fun t ht hp => by
                have := t.lt _ _ (hHeld.is ht) hp
                omega)
              have hk5 := hHeld.add (t := Th.box Wz3x4.heap.size (.cells #[.int .i64 0, .string ⟨#[]⟩] 55 (0, 0))) (below_new Wz3x4 _) (heap_alloc_new Wz3x4 _) (fun k hk => .inl (Nat.le_of_eq hk.symm))
              clear hHeld
              go_simp
              refine hK.out _ _ (hk5.less (fun _ ht => List.mem_cons_of_mem _ ht)) (fun hHeld => ?_)
              clear hK K
              generalize Wz3x4.alloc _ = Wz3x4x8 at hk5 hHeld ⊢
              generalize Wz3x4.heap.size = B19 at hk5 HLOW HFR ⊢
              try simp only [Act.put, List.setIfInBounds_toArray, List.set_cons_zero, List.set_cons_succ]
              have HBB := Lib.hid (hk5.is List.mem_cons_self)
              have r0 : Wz3x4x8.cell? ⟨B19, 0, none⟩ = some (.int .i64 0) := cell_at HBB.out 0
              have r1 : Wz3x4x8.cell? ⟨B19, 1, none⟩ = some (.string ⟨#[]⟩) := cell_at HBB.out 1
              have z0 : Wz3x4x8.frozen? ⟨B19, 0, none⟩ = false := free_at HBB.out 0
              have z1 : Wz3x4x8.frozen? ⟨B19, 1, none⟩ = false := free_at HBB.out 1
              have HAN := Lib.hid (po_at HBB.out (.int .i64 p1.depth) (.string p1.id) rfl _ rfl)
              have HKP := Lib.hid (hk5.put (t' := Th.box B19 (.cells #[.int .i64 p1.depth, .string p1.id] 55 (0, 0))) HAN.out.2 (fun k hk => by
                injection hk with hk
                subst hk
                exact ⟨rfl, HLOW.out, HFR.out⟩) HAN.out.1 (fun k hk => .inl hk))
              simp only [World.setCells] at HKP
              clear hk5 HBB HAN
              refine wpAnyH_ready (rs := [9]) (by kernel_rfl) (by simp) ?_
              refine AllReadyH.cons (o := ⟨none, _, _, _, _, _⟩) rfl (fun K hK => ?_) AllReadyH.nil
              clear hHeld
              go_simp
              clear r0 r1 z0 z1
              generalize World.setCell _ _ _ = w9 at HKP ⊢
              refine hK.out _ _ (HKP.out.less (fun _ ht => List.mem_cons_of_mem _ ht)) (fun hHeld => ?_)
              clear hK K
              try simp only [Act.put, List.setIfInBounds_toArray, List.set_cons_zero, List.set_cons_succ]
              refine wpAnyH_take (i := 10) (oi := ⟨some 20, _, _, _, _, _⟩) (v := ?vz3x4x8xt10) rfl (by kernel_rfl) (by kernel_rfl) (by kernel_rfl) (fun _ _ _ h => h) (Or.inl ⟨by rfl, ?yz3x4x8xt10⟩) hHeld ?rz3x4x8xt10
              case yz3x4x8xt10 =>
                intro wx hSx
                go_simp
                try with_reducible rfl
              try simp only [Act.put, List.setIfInBounds_toArray, List.set_cons_zero, List.set_cons_succ]
              refine wpAnyH_done (by kernel_rfl) ?_ _
              go_wp2_with fail
              go_meet
              exact ⟨B19, rfl, rfl, HKP⟩
          case wz3x8 =>
            have HLOW : Hid (w.heap.size ≤ Wz3.heap.size) := Lib.hid hHeld.size
            have HFR : Hid (∀ t ∈ Th.box B17 (.cells #[.int .i64 p1.depth, .string p1.id] 55 (0, 0)) :: Th.box B16 (.cells #[.string room, .slice d.A d.xs.length d.cap] 36 (0, 0)) :: Th.evs (.slice d.A d.xs.length d.cap) d.xs :: Th.box B13 (.cells #[.string rm, .string s8] 9 (0, 0)) :: Th.box B12 (.cells #[.slice Au ds.length cu] 28 (0, 0)) :: Th.vw (.slice Au ds.length cu) ds :: [], ¬ t.P Wz3.heap.size) := Lib.hid (fun t ht hp => by
              have := t.lt _ _ (hHeld.is ht) hp
              omega)
            have hk5 := hHeld.add (t := Th.box Wz3.heap.size (.cells #[.int .i64 0, .string ⟨#[]⟩] 55 (0, 0))) (below_new Wz3 _) (heap_alloc_new Wz3 _) (fun k hk => .inl (Nat.le_of_eq hk.symm))
            clear hHeld
            go_simp
            refine hK.out _ _ (hk5.less (fun _ ht => List.mem_cons_of_mem _ ht)) (fun hHeld => ?_)
            clear hK K
            generalize Wz3.alloc _ = Wz3x8 at hk5 hHeld ⊢
            generalize Wz3.heap.size = B19 at hk5 HLOW HFR ⊢
            try simp only [Act.put, List.setIfInBounds_toArray, List.set_cons_zero, List.set_cons_succ]
            refine wpAnyH_ready (rs := [4]) (by kernel_rfl) (by simp) ?_
            refine AllReadyH.cons (o := ⟨some 63, _, _, _, _, _⟩) rfl (fun K hK => ?wz3x8x4) AllReadyH.nil
            case wz3x8x4 =>
              have HQc := Lib.hid (HP1R.out Wz3x8 _ hk5 (List.mem_cons_of_mem _ (List.mem_cons_of_mem _ (List.mem_cons_of_mem _ (List.mem_cons_of_mem _ (List.mem_cons_of_mem _ (List.mem_cons_of_mem _ List.mem_cons_self)))))))
              go_simp
              refine HQc.out.mono ?_
              rintro e Wz3x8x4 ⟨rfl, hk⟩
              refine hK.out _ _ (hk.less (fun _ ht => List.mem_cons_of_mem _ ht)) (fun hHeld => ?_)
              clear hK K HQc hk5
              have hk5 := hk
              clear hk
              try simp only [Act.put, List.setIfInBounds_toArray, List.set_cons_zero, List.set_cons_succ]
              refine wpAnyH_take (i := 5) (oi := ⟨some 58, _, _, _, _, _⟩) (v := ?vz3x8xc5) rfl (by kernel_rfl) (by kernel_rfl) (by kernel_rfl) (fun _ _ _ h => h) (Or.inl ⟨by rfl, ?yz3x8xc5⟩) hHeld ?rz3x8xc5
              case yz3x8xc5 =>
                intro wx hSx
                go_simp
                try with_reducible rfl
              try simp only [Act.put, List.setIfInBounds_toArray, List.set_cons_zero, List.set_cons_succ]
              refine wpAnyH_take (i := 6) (oi := ⟨some 64, _, _, _, _, _⟩) (v := ?vz3x8xc6) rfl (by kernel_rfl) (by kernel_rfl) (by kernel_rfl) (fun _ _ _ h => h) (Or.inl ⟨by rfl, ?yz3x8xc6⟩) hHeld ?rz3x8xc6
              case yz3x8xc6 =>
                intro wx hSx
                go_simp
                try with_reducible rfl
              try simp only [Act.put, List.setIfInBounds_toArray, List.set_cons_zero, List.set_cons_succ]
              refine wpAnyH_take (i := 7) (oi := ⟨some 65, _, _, _, _, _⟩) (v := ?vz3x8xc7) rfl (by kernel_rfl) (by kernel_rfl) (by kernel_rfl) (fun _ _ _ h => h) (Or.inl ⟨by rfl, ?yz3x8xc7⟩) hHeld ?rz3x8xc7
              case yz3x8xc7 =>
                intro wx hSx
                go_simp
                try with_reducible rfl
              try simp only [Act.put, List.setIfInBounds_toArray, List.set_cons_zero, List.set_cons_succ]
              have HBB := Lib.hid (hk5.is List.mem_cons_self)
              have r0 : Wz3x8x4.cell? ⟨B19, 0, none⟩ = some (.int .i64 0) := cell_at HBB.out 0
              have r1 : Wz3x8x4.cell? ⟨B19, 1, none⟩ = some (.string ⟨#[]⟩) := cell_at HBB.out 1
              have z0 : Wz3x8x4.frozen? ⟨B19, 0, none⟩ = false := free_at HBB.out 0
              have z1 : Wz3x8x4.frozen? ⟨B19, 1, none⟩ = false := free_at HBB.out 1
              have HAN := Lib.hid (po_at HBB.out (.int .i64 p1.depth) (.string p1.id) rfl _ rfl)
              have HKP := Lib.hid (hk5.put (t' := Th.box B19 (.cells #[.int .i64 p1.depth, .string p1.id] 55 (0, 0))) HAN.out.2 (fun k hk => by
                injection hk with hk
                subst hk
                exact ⟨rfl, HLOW.out, HFR.out⟩) HAN.out.1 (fun k hk => .inl hk))
              simp only [World.setCells] at HKP
              clear hk5 HBB HAN
              refine wpAnyH_ready (rs := [9]) (by kernel_rfl) (by simp) ?_
              refine AllReadyH.cons (o := ⟨none, _, _, _, _, _⟩) rfl (fun K hK => ?_) AllReadyH.nil
              clear hHeld
              go_simp
              clear r0 r1 z0 z1
              generalize World.setCell _ _ _ = w9 at HKP ⊢
              refine hK.out _ _ (HKP.out.less (fun _ ht => List.mem_cons_of_mem _ ht)) (fun hHeld => ?_)
              clear hK K
              try simp only [Act.put, List.setIfInBounds_toArray, List.set_cons_zero, List.set_cons_succ]
              refine wpAnyH_take (i := 10) (oi := ⟨some 20, _, _, _, _, _⟩) (v := ?vz3x8x4xt10) rfl (by kernel_rfl) (by kernel_rfl) (by kernel_rfl) (fun _ _ _ h => h) (Or.inl ⟨by rfl, ?yz3x8x4xt10⟩) hHeld ?rz3x8x4xt10
              case yz3x8x4xt10 =>
                intro wx hSx
                go_simp
                try with_reducible rfl
              try simp only [Act.put, List.setIfInBounds_toArray, List.set_cons_zero, List.set_cons_succ]
              refine wpAnyH_done (by kernel_rfl) ?_ _
              go_wp2_with fail
              go_meet
              exact ⟨B19, rfl, rfl, HKP⟩
        case wz8 =>
          have HLOW : Hid (w.heap.size ≤ wd.heap.size) := Lib.hid hHeld.size
          have HFR : Hid (∀ t ∈ Th.box B17 (.cells #[.int .i64 p1.depth, .string p1.id] 55 (0, 0)) :: Th.box B16 (.cells #[.string room, .slice d.A d.xs.length d.cap] 36 (0, 0)) :: Th.evs (.slice d.A d.xs.length d.cap) d.xs :: Th.box B13 (.cells #[.string rm, .string s8] 9 (0, 0)) :: Th.box B12 (.cells #[.slice Au ds.length cu] 28 (0, 0)) :: Th.vw (.slice Au ds.length cu) ds :: [], ¬ t.P wd.heap.size) := Lib.hid (fun t ht hp => by
            have := t.lt _ _ (hHeld.is ht) hp
            omega)
          have hk5 := hHeld.add (t := Th.box wd.heap.size (.cells #[.int .i64 0, .string ⟨#[]⟩] 55 (0, 0))) (below_new wd _) (heap_alloc_new wd _) (fun k hk => .inl (Nat.le_of_eq hk.symm))
          clear hHeld
          go_simp
          refine hK.out _ _ (hk5.less (fun _ ht => List.mem_cons_of_mem _ ht)) (fun hHeld => ?_)
          clear hK K
          generalize wd.alloc _ = Wz8 at hk5 hHeld ⊢
          generalize wd.heap.size = B19 at hk5 HLOW HFR ⊢
          try simp only [Act.put, List.setIfInBounds_toArray, List.set_cons_zero, List.set_cons_succ]
          refine wpAnyH_ready (rs := [3]) (by kernel_rfl) (by simp) ?_
          refine AllReadyH.cons (o := ⟨some 62, _, _, _, _, _⟩) rfl (fun K hK => ?wz8x3) AllReadyH.nil
          case wz8x3 =>
            have HQc := Lib.hid (HEO.out Wz8 _ hk5)
            go_simp
            refine HQc.out.mono ?_
            rintro e Wz8x3 ⟨rfl, hk⟩
            refine hK.out _ _ (hk.less (fun _ ht => List.mem_cons_of_mem _ ht)) (fun hHeld => ?_)
            clear hK K HQc hk5
            have hk5 := hk
            clear hk
            try simp only [Act.put, List.setIfInBounds_toArray, List.set_cons_zero, List.set_cons_succ]
            refine wpAnyH_ready (rs := [4]) (by kernel_rfl) (by simp) ?_
            refine AllReadyH.cons (o := ⟨some 63, _, _, _, _, _⟩) rfl (fun K hK => ?wz8x3x4) AllReadyH.nil
            case wz8x3x4 =>
              have HQc := Lib.hid (HP1R.out Wz8x3 _ hk5 (List.mem_cons_of_mem _ (List.mem_cons_of_mem _ (List.mem_cons_of_mem _ (List.mem_cons_of_mem _ (List.mem_cons_of_mem _ (List.mem_cons_of_mem _ List.mem_cons_self)))))))
              go_simp
              refine HQc.out.mono ?_
              rintro e Wz8x3x4 ⟨rfl, hk⟩
              refine hK.out _ _ (hk.less (fun _ ht => List.mem_cons_of_mem _ ht)) (fun hHeld => ?_)
              clear hK K HQc hk5
              have hk5 := hk
              clear hk
              try simp only [Act.put, List.setIfInBounds_toArray, List.set_cons_zero, List.set_cons_succ]
              refine wpAnyH_take (i := 5) (oi := ⟨some 58, _, _, _, _, _⟩) (v := ?vz8x3xc5) rfl (by kernel_rfl) (by kernel_rfl) (by kernel_rfl) (fun _ _ _ h => h) (Or.inl ⟨by rfl, ?yz8x3xc5⟩) hHeld ?rz8x3xc5
              case yz8x3xc5 =>
                intro wx hSx
                go_simp
                try with_reducible rfl
              try simp only [Act.put, List.setIfInBounds_toArray, List.set_cons_zero, List.set_cons_succ]
              refine wpAnyH_take (i := 6) (oi := ⟨some 64, _, _, _, _, _⟩) (v := ?vz8x3xc6) rfl (by kernel_rfl) (by kernel_rfl) (by kernel_rfl) (fun _ _ _ h => h) (Or.inl ⟨by rfl, ?yz8x3xc6⟩) hHeld ?rz8x3xc6
              case yz8x3xc6 =>
                intro wx hSx
                go_simp
                try with_reducible rfl
              try simp only [Act.put, List.setIfInBounds_toArray, List.set_cons_zero, List.set_cons_succ]
              refine wpAnyH_take (i := 7) (oi := ⟨some 65, _, _, _, _, _⟩) (v := ?vz8x3xc7) rfl (by kernel_rfl) (by kernel_rfl) (by kernel_rfl) (fun _ _ _ h => h) (Or.inl ⟨by rfl, ?yz8x3xc7⟩) hHeld ?rz8x3xc7
              case yz8x3xc7 =>
                intro wx hSx
                go_simp
                try with_reducible rfl
              try simp only [Act.put, List.setIfInBounds_toArray, List.set_cons_zero, List.set_cons_succ]
              have HBB := Lib.hid (hk5.is List.mem_cons_self)
              have r0 : Wz8x3x4.cell? ⟨B19, 0, none⟩ = some (.int .i64 0) := cell_at HBB.out 0
              have r1 : Wz8x3x4.cell? ⟨B19, 1, none⟩ = some (.string ⟨#[]⟩) := cell_at HBB.out 1
              have z0 : Wz8x3x4.frozen? ⟨B19, 0, none⟩ = false := free_at HBB.out 0
              have z1 : Wz8x3x4.frozen? ⟨B19, 1, none⟩ = false := free_at HBB.out 1
              have HAN := Lib.hid (po_at HBB.out (.int .i64 p1.depth) (.string p1.id) rfl _ rfl)
              have HKP := Lib.hid (hk5.put (t' := Th.box B19 (.cells #[.int .i64 p1.depth, .string p1.id] 55 (0, 0))) HAN.out.2 (fun k hk => by
                injection hk with hk
                subst hk
                exact ⟨rfl, HLOW.out, HFR.out⟩) HAN.out.1 (fun k hk => .inl hk))
              simp only [World.setCells] at HKP
              clear hk5 HBB HAN
              refine wpAnyH_ready (rs := [9]) (by kernel_rfl) (by simp) ?_
              refine AllReadyH.cons (o := ⟨none, _, _, _, _, _⟩) rfl (fun K hK => ?_) AllReadyH.nil
              clear hHeld
              go_simp
              clear r0 r1 z0 z1
              generalize World.setCell _ _ _ = w9 at HKP ⊢
              refine hK.out _ _ (HKP.out.less (fun _ ht => List.mem_cons_of_mem _ ht)) (fun hHeld => ?_)
              clear hK K
              try simp only [Act.put, List.setIfInBounds_toArray, List.set_cons_zero, List.set_cons_succ]
              refine wpAnyH_take (i := 10) (oi := ⟨some 20, _, _, _, _, _⟩) (v := ?vz8x3x4xt10) rfl (by kernel_rfl) (by kernel_rfl) (by kernel_rfl) (fun _ _ _ h => h) (Or.inl ⟨by rfl, ?yz8x3x4xt10⟩) hHeld ?rz8x3x4xt10
              case yz8x3x4xt10 =>
                intro wx hSx
                go_simp
                try with_reducible rfl
              try simp only [Act.put, List.setIfInBounds_toArray, List.set_cons_zero, List.set_cons_succ]
              refine wpAnyH_done (by kernel_rfl) ?_ _
              go_wp2_with fail
              go_meet
              exact ⟨B19, rfl, rfl, HKP⟩
      case rest =>
        obtain ⟨B19, rfl, rfl, HK11⟩ := hcut
        clear HK10 HP1R
        go_wp2_with fail
        go_at_call 24
        refine (HP2C.out _ _ HK11.out).mono ?_
        rintro e w12 ⟨rfl, hk12⟩
        have HK12 := Lib.hid hk12
        clear hk12 HK11 HP2C
        have HK13 := Lib.hid (HK12.out.add (t := Th.box w12.heap.size (.cells #[.int .i64 p2.depth, .string p2.id] 55 (0, 0))) (below_new w12 _) (heap_alloc_new w12 _) (fun k hk => .inl (Nat.le_of_eq hk.symm)))
        go_upto_region 14 with (fail)
        generalize World.alloc _ _ = w13 at HK13 ⊢
        generalize w12.heap.size = B21 at HK13 ⊢
        clear HK12
        have c12 : w13.cell? ⟨B12, 0, none⟩ = some (.slice Au ds.length cu) := cell_at (HK13.out.is (List.mem_cons_of_mem _ (List.mem_cons_of_mem _ (List.mem_cons_of_mem _ (List.mem_cons_of_mem _ (List.mem_cons_of_mem _ (List.mem_cons_of_mem _ List.mem_cons_self))))))) 0
        go_wp2_with fail
        go_at_call 26
        refine (HP2R.out _ _ HK13.out (List.mem_cons_of_mem _ (List.mem_cons_of_mem _ (List.mem_cons_of_mem _ (List.mem_cons_of_mem _ (List.mem_cons_of_mem _ (List.mem_cons_of_mem _ (List.mem_cons_of_mem _ List.mem_cons_self)))))))).mono ?_
        rintro e w14 ⟨rfl, hk14⟩
        have HK14 := Lib.hid hk14
        clear hk14 HK13 HP2R c12
        have HK15 := Lib.hid (HK14.out.add (t := Th.box w14.heap.size (.cells #[.int .i64 p2.depth, .string p2.id] 55 (0, 0))) (below_new w14 _) (heap_alloc_new w14 _) (fun k hk => .inl (Nat.le_of_eq hk.symm)))
        go_upto_region 15 with (fail)
        generalize World.alloc _ _ = w15 at HK15 ⊢
        generalize w14.heap.size = B23 at HK15 ⊢
        clear HK14
        refine wp_region_held_drew (S := fun W => Kv C w W [v] (Th.box B23 (.cells #[.int .i64 p2.depth, .string p2.id] 55 (0, 0)) :: Th.box B21 (.cells #[.int .i64 p2.depth, .string p2.id] 55 (0, 0)) :: Th.box B19 (.cells #[.int .i64 p1.depth, .string p1.id] 55 (0, 0)) :: Th.box B17 (.cells #[.int .i64 p1.depth, .string p1.id] 55 (0, 0)) :: Th.box B16 (.cells #[.string room, .slice d.A d.xs.length d.cap] 36 (0, 0)) :: Th.evs (.slice d.A d.xs.length d.cap) d.xs :: Th.box B13 (.cells #[.string rm, .string s8] 9 (0, 0)) :: Th.box B12 (.cells #[.slice Au ds.length cu] 28 (0, 0)) :: Th.vw (.slice Au ds.length cu) ds :: [])) (by kernel_rfl) (HK15.out.later (below_drew _)) (fun hHeld => ?_)
        clear HK15
        generalize World.drew _ = wd at hHeld ⊢
        refine wpAnyH_take (i := 0) (oi := ⟨some 80, _, _, _, _, _⟩) (v := ?vys0_0) rfl (by kernel_rfl) (by kernel_rfl) (by kernel_rfl) (fun _ _ _ h => h) (Or.inl ⟨by rfl, ?yys0_0⟩) hHeld ?rys0_0
        case yys0_0 =>
          intro wx hSx
          have zB170 : wx.cell? ⟨B17, 0, none⟩ = some (.int .i64 p1.depth) := cell_at (hSx.is (List.mem_cons_of_mem _ (List.mem_cons_of_mem _ (List.mem_cons_of_mem _ List.mem_cons_self)))) 0
          have zB171 : wx.cell? ⟨B17, 1, none⟩ = some (.string p1.id) := cell_at (hSx.is (List.mem_cons_of_mem _ (List.mem_cons_of_mem _ (List.mem_cons_of_mem _ List.mem_cons_self)))) 1
          go_simp
          try with_reducible rfl
        try simp only [Act.put, List.setIfInBounds_toArray, List.set_cons_zero, List.set_cons_succ]
        refine wpAnyH_take (i := 1) (oi := ⟨some 81, _, _, _, _, _⟩) (v := ?vys0_1) rfl (by kernel_rfl) (by kernel_rfl) (by kernel_rfl) (fun _ _ _ h => h) (Or.inl ⟨by rfl, ?yys0_1⟩) hHeld ?rys0_1
        case yys0_1 =>
          intro wx hSx
          have zB190 : wx.cell? ⟨B19, 0, none⟩ = some (.int .i64 p1.depth) := cell_at (hSx.is (List.mem_cons_of_mem _ (List.mem_cons_of_mem _ List.mem_cons_self))) 0
          have zB191 : wx.cell? ⟨B19, 1, none⟩ = some (.string p1.id) := cell_at (hSx.is (List.mem_cons_of_mem _ (List.mem_cons_of_mem _ List.mem_cons_self))) 1
          go_simp
          try with_reducible rfl
        try simp only [Act.put, List.setIfInBounds_toArray, List.set_cons_zero, List.set_cons_succ]
        refine wpAnyH_take (i := 2) (oi := ⟨some 82, _, _, _, _, _⟩) (v := ?vys0_2) rfl (by kernel_rfl) (by kernel_rfl) (by kernel_rfl) (fun _ _ _ h => h) (Or.inl ⟨by rfl, ?yys0_2⟩) hHeld ?rys0_2
        case yys0_2 =>
          intro wx hSx
          go_simp
          try with_reducible rfl
        try simp only [Act.put, List.setIfInBounds_toArray, List.set_cons_zero, List.set_cons_succ]
        refine wpAnyH_take (i := 3) (oi := ⟨some 83, _, _, _, _, _⟩) (v := ?vys0_3) rfl (by kernel_rfl) (by kernel_rfl) (by kernel_rfl) (fun _ _ _ h => h) (Or.inl ⟨by rfl, ?yys0_3⟩) hHeld ?rys0_3
        case yys0_3 =>
          intro wx hSx
          go_simp
          try with_reducible rfl
        try simp only [Act.put, List.setIfInBounds_toArray, List.set_cons_zero, List.set_cons_succ]
        refine wpAnyH_take (i := 4) (oi := ⟨some 84, _, _, _, _, _⟩) (v := ?vys0_4) rfl (by kernel_rfl) (by kernel_rfl) (by kernel_rfl) (fun _ _ _ h => h) (Or.inl ⟨by rfl, ?yys0_4⟩) hHeld ?rys0_4
        case yys0_4 =>
          intro wx hSx
          go_simp
          try with_reducible rfl
        try simp only [Act.put, List.setIfInBounds_toArray, List.set_cons_zero, List.set_cons_succ]
        refine wpAnyH_take (i := 5) (oi := ⟨some 85, _, _, _, _, _⟩) (v := ?vys0_5) rfl (by kernel_rfl) (by kernel_rfl) (by kernel_rfl) (fun _ _ _ h => h) (Or.inl ⟨by rfl, ?yys0_5⟩) hHeld ?rys0_5
        case yys0_5 =>
          intro wx hSx
          go_simp
          try with_reducible rfl
        try simp only [Act.put, List.setIfInBounds_toArray, List.set_cons_zero, List.set_cons_succ]
        refine wpAnyH_take (i := 6) (oi := ⟨some 86, _, _, _, _, _⟩) (v := ?vys0_6) rfl (by kernel_rfl) (by kernel_rfl) (by kernel_rfl) (fun _ _ _ h => h) (Or.inl ⟨by rfl, ?yys0_6⟩) hHeld ?rys0_6
        case yys0_6 =>
          intro wx hSx
          go_simp
          try with_reducible rfl
        try simp only [Act.put, List.setIfInBounds_toArray, List.set_cons_zero, List.set_cons_succ]
        refine wpAnyH_take (i := 7) (oi := ⟨some 87, _, _, _, _, _⟩) (v := ?vys0_7) rfl (by kernel_rfl) (by kernel_rfl) (by kernel_rfl) (fun _ _ _ h => h) (Or.inl ⟨by rfl, ?yys0_7⟩) hHeld ?rys0_7
        case yys0_7 =>
          intro wx hSx
          go_simp
          try with_reducible rfl
        try simp only [Act.put, List.setIfInBounds_toArray, List.set_cons_zero, List.set_cons_succ]
        refine wpAnyH_take (i := 8) (oi := ⟨some 88, _, _, _, _, _⟩) (v := ?vys0_8) rfl (by kernel_rfl) (by kernel_rfl) (by kernel_rfl) (fun _ _ _ h => h) (Or.inl ⟨by rfl, ?yys0_8⟩) hHeld ?rys0_8
        case yys0_8 =>
          intro wx hSx
          go_simp
          try with_reducible rfl
        try simp only [Act.put, List.setIfInBounds_toArray, List.set_cons_zero, List.set_cons_succ]
        refine wpAnyH_take (i := 9) (oi := ⟨some 89, _, _, _, _, _⟩) (v := ?vys0_9) rfl (by kernel_rfl) (by kernel_rfl) (by kernel_rfl) (fun _ _ _ h => h) (Or.inl ⟨by rfl, ?yys0_9⟩) hHeld ?rys0_9
        case yys0_9 =>
          intro wx hSx
          go_simp
          try with_reducible rfl
        try simp only [Act.put, List.setIfInBounds_toArray, List.set_cons_zero, List.set_cons_succ]
        refine wpAnyH_take (i := 10) (oi := ⟨some 90, _, _, _, _, _⟩) (v := ?vys0_10) rfl (by kernel_rfl) (by kernel_rfl) (by kernel_rfl) (fun _ _ _ h => h) (Or.inl ⟨by rfl, ?yys0_10⟩) hHeld ?rys0_10
        case yys0_10 =>
          intro wx hSx
          go_simp
          try with_reducible rfl
        try simp only [Act.put, List.setIfInBounds_toArray, List.set_cons_zero, List.set_cons_succ]
        refine wpAnyH_take (i := 11) (oi := ⟨some 91, _, _, _, _, _⟩) (v := ?vys0_11) rfl (by kernel_rfl) (by kernel_rfl) (by kernel_rfl) (fun _ _ _ h => h) (Or.inl ⟨by rfl, ?yys0_11⟩) hHeld ?rys0_11
        case yys0_11 =>
          intro wx hSx
          go_simp
          try with_reducible rfl
        try simp only [Act.put, List.setIfInBounds_toArray, List.set_cons_zero, List.set_cons_succ]
        refine wpAnyH_take (i := 12) (oi := ⟨some 92, _, _, _, _, _⟩) (v := ?vys0_12) rfl (by kernel_rfl) (by kernel_rfl) (by kernel_rfl) (fun _ _ _ h => h) (Or.inl ⟨by rfl, ?yys0_12⟩) hHeld ?rys0_12
        case yys0_12 =>
          intro wx hSx
          go_simp
          try with_reducible rfl
        try simp only [Act.put, List.setIfInBounds_toArray, List.set_cons_zero, List.set_cons_succ]
        refine wpAnyH_take (i := 13) (oi := ⟨some 93, _, _, _, _, _⟩) (v := ?vys0_13) rfl (by kernel_rfl) (by kernel_rfl) (by kernel_rfl) (fun _ _ _ h => h) (Or.inl ⟨by rfl, ?yys0_13⟩) hHeld ?rys0_13
        case yys0_13 =>
          intro wx hSx
          go_simp
          try with_reducible rfl
        try simp only [Act.put, List.setIfInBounds_toArray, List.set_cons_zero, List.set_cons_succ]
        refine wpAnyH_take (i := 14) (oi := ⟨some 94, _, _, _, _, _⟩) (v := ?vys0_14) rfl (by kernel_rfl) (by kernel_rfl) (by kernel_rfl) (fun _ _ _ h => h) (Or.inl ⟨by rfl, ?yys0_14⟩) hHeld ?rys0_14
        case yys0_14 =>
          intro wx hSx
          go_simp
          try with_reducible rfl
        try simp only [Act.put, List.setIfInBounds_toArray, List.set_cons_zero, List.set_cons_succ]
        refine wpAnyH_take (i := 15) (oi := ⟨some 95, _, _, _, _, _⟩) (v := ?vys0_15) rfl (by kernel_rfl) (by kernel_rfl) (by kernel_rfl) (fun _ _ _ h => h) (Or.inl ⟨by rfl, ?yys0_15⟩) hHeld ?rys0_15
        case yys0_15 =>
          intro wx hSx
          go_simp
          try with_reducible rfl
        try simp only [Act.put, List.setIfInBounds_toArray, List.set_cons_zero, List.set_cons_succ]
        refine wpAnyH_take (i := 17) (oi := ⟨some 97, _, _, _, _, _⟩) (v := ?vys0_17) rfl (by kernel_rfl) (by kernel_rfl) (by kernel_rfl) (fun _ _ _ h => h) (Or.inl ⟨by rfl, ?yys0_17⟩) hHeld ?rys0_17
        case yys0_17 =>
          intro wx hSx
          have zB160 : wx.cell? ⟨B16, 0, none⟩ = some (.string room) := cell_at (hSx.is (List.mem_cons_of_mem _ (List.mem_cons_of_mem _ (List.mem_cons_of_mem _ (List.mem_cons_of_mem _ List.mem_cons_self))))) 0
          have zB161 : wx.cell? ⟨B16, 1, none⟩ = some (.slice d.A d.xs.length d.cap) := cell_at (hSx.is (List.mem_cons_of_mem _ (List.mem_cons_of_mem _ (List.mem_cons_of_mem _ (List.mem_cons_of_mem _ List.mem_cons_self))))) 1
          go_simp
          try with_reducible rfl
        try simp only [Act.put, List.setIfInBounds_toArray, List.set_cons_zero, List.set_cons_succ]
        refine wpAnyH_ready (rs := [16]) (by kernel_rfl) (by simp) ?_
        refine AllReadyH.cons (o := ⟨some 96, _, _, _, _, _⟩) rfl (fun K hK => ?_) AllReadyH.nil
        have HQc := Lib.hid (HUC.out wd _ hHeld room hroom)
        go_simp
        refine HQc.out.mono ?_
        rintro e Wy16 ⟨v16, rfl, hk⟩
        refine hK.out _ _ (hk.less (fun _ ht => List.mem_cons_of_mem _ ht)) (fun hHeld => ?_)
        clear hK K hHeld
        try simp only [Act.put, List.setIfInBounds_toArray, List.set_cons_zero, List.set_cons_succ]
        refine anyH_narrow (S' := fun W => Kv C w W [v] (Th.row LT v16 (users room) :: Th.box B23 (.cells #[.int .i64 p2.depth, .string p2.id] 55 (0, 0)) :: Th.box B21 (.cells #[.int .i64 p2.depth, .string p2.id] 55 (0, 0)) :: Th.box B19 (.cells #[.int .i64 p1.depth, .string p1.id] 55 (0, 0)) :: Th.box B17 (.cells #[.int .i64 p1.depth, .string p1.id] 55 (0, 0)) :: Th.box B16 (.cells #[.string room, .slice d.A d.xs.length d.cap] 36 (0, 0)) :: Th.evs (.slice d.A d.xs.length d.cap) d.xs :: Th.box B13 (.cells #[.string rm, .string s8] 9 (0, 0)) :: Th.box B12 (.cells #[.slice Au ds.length cu] 28 (0, 0)) :: Th.vw (.slice Au ds.length cu) ds :: [])) (fun _ h => h.less (fun _ ht => List.mem_cons_of_mem _ ht)) _ _ _ _ ?_
        have hHeld := hk
        clear hk HQc
        refine wpAnyH_ready (rs := [18]) (by kernel_rfl) (by simp) ?_
        refine AllReadyH.cons (o := ⟨some 98, _, _, _, _, _⟩) rfl (fun K hK => ?_) AllReadyH.nil
        have HQc := Lib.hid (HUR.out Wy16 _ _ _ room hHeld (List.mem_cons_of_mem _ (List.mem_cons_of_mem _ (List.mem_cons_of_mem _ (List.mem_cons_of_mem _ (List.mem_cons_of_mem _ (List.mem_cons_of_mem _ List.mem_cons_self)))))) HEV.out)
        go_simp
        refine HQc.out.mono ?_
        rintro e Wy18 ⟨v18, rfl, hk⟩
        refine hK.out _ _ (hk.less (fun _ ht => List.mem_cons_of_mem _ ht)) (fun hHeld => ?_)
        clear hK K hHeld
        try simp only [Act.put, List.setIfInBounds_toArray, List.set_cons_zero, List.set_cons_succ]
        refine anyH_narrow (S' := fun W => Kv C w W [v] (Th.row LT v18 (users room) :: Th.row LT v16 (users room) :: Th.box B23 (.cells #[.int .i64 p2.depth, .string p2.id] 55 (0, 0)) :: Th.box B21 (.cells #[.int .i64 p2.depth, .string p2.id] 55 (0, 0)) :: Th.box B19 (.cells #[.int .i64 p1.depth, .string p1.id] 55 (0, 0)) :: Th.box B17 (.cells #[.int .i64 p1.depth, .string p1.id] 55 (0, 0)) :: Th.box B16 (.cells #[.string room, .slice d.A d.xs.length d.cap] 36 (0, 0)) :: Th.evs (.slice d.A d.xs.length d.cap) d.xs :: Th.box B13 (.cells #[.string rm, .string s8] 9 (0, 0)) :: Th.box B12 (.cells #[.slice Au ds.length cu] 28 (0, 0)) :: Th.vw (.slice Au ds.length cu) ds :: [])) (fun _ h => h.less (fun _ ht => List.mem_cons_of_mem _ ht)) _ _ _ _ ?_
        have hHeld := hk
        clear hk HQc
        refine wpAnyH_ready (rs := [19]) (by kernel_rfl) (by simp) ?_
        refine AllReadyH.cons (o := ⟨some 99, _, _, _, _, _⟩) rfl (fun K hK => ?_) AllReadyH.nil
        have HQc := Lib.hid (HST.out Wy18 _ v16 v18 (users room) hHeld (List.mem_cons_of_mem _ List.mem_cons_self) List.mem_cons_self)
        go_simp
        refine HQc.out.mono ?_
        rintro e Wy19 ⟨rfl, hk⟩
        refine hK.out _ _ hk (fun hHeld => ?_)
        clear hK K hk HQc
        try simp only [Act.put, List.setIfInBounds_toArray, List.set_cons_zero, List.set_cons_succ]
        refine wpAnyH_take (i := 20) (oi := ⟨some 100, _, _, _, _, _⟩) (v := ?vys3_20) rfl (by kernel_rfl) (by kernel_rfl) (by kernel_rfl) (fun _ _ _ h => h) (Or.inl ⟨by rfl, ?yys3_20⟩) hHeld ?rys3_20
        case yys3_20 =>
          intro wx hSx
          go_simp
          try with_reducible rfl
        try simp only [Act.put, List.setIfInBounds_toArray, List.set_cons_zero, List.set_cons_succ]
        refine wpAnyH_take (i := 21) (oi := ⟨some 101, _, _, _, _, _⟩) (v := ?vys3_21) rfl (by kernel_rfl) (by kernel_rfl) (by kernel_rfl) (fun _ _ _ h => h) (Or.inl ⟨by rfl, ?yys3_21⟩) hHeld ?rys3_21
        case yys3_21 =>
          intro wx hSx
          go_simp
          try with_reducible rfl
        try simp only [Act.put, List.setIfInBounds_toArray, List.set_cons_zero, List.set_cons_succ]
        refine wpAnyH_take (i := 22) (oi := ⟨some 102, _, _, _, _, _⟩) (v := ?vys3_22) rfl (by kernel_rfl) (by kernel_rfl) (by kernel_rfl) (fun _ _ _ h => h) (Or.inl ⟨by rfl, ?yys3_22⟩) hHeld ?rys3_22
        case yys3_22 =>
          intro wx hSx
          go_simp
          try with_reducible rfl
        try simp only [Act.put, List.setIfInBounds_toArray, List.set_cons_zero, List.set_cons_succ]
        refine wpAnyH_take (i := 23) (oi := ⟨some 103, _, _, _, _, _⟩) (v := ?vys3_23) rfl (by kernel_rfl) (by kernel_rfl) (by kernel_rfl) (fun _ _ _ h => h) (Or.inl ⟨by rfl, ?yys3_23⟩) hHeld ?rys3_23
        case yys3_23 =>
          intro wx hSx
          go_simp
          try with_reducible rfl
        try simp only [Act.put, List.setIfInBounds_toArray, List.set_cons_zero, List.set_cons_succ]
        refine wpAnyH_take (i := 24) (oi := ⟨some 104, _, _, _, _, _⟩) (v := ?vys3_24) rfl (by kernel_rfl) (by kernel_rfl) (by kernel_rfl) (fun _ _ _ h => h) (Or.inl ⟨by rfl, ?yys3_24⟩) hHeld ?rys3_24
        case yys3_24 =>
          intro wx hSx
          go_simp
          try with_reducible rfl
        try simp only [Act.put, List.setIfInBounds_toArray, List.set_cons_zero, List.set_cons_succ]
        refine wpAnyH_take (i := 26) (oi := ⟨some 106, _, _, _, _, _⟩) (v := ?vys3_26) rfl (by kernel_rfl) (by kernel_rfl) (by kernel_rfl) (fun _ _ _ h => h) (Or.inl ⟨by rfl, ?yys3_26⟩) hHeld ?rys3_26
        case yys3_26 =>
          intro wx hSx
          have zB160 : wx.cell? ⟨B16, 0, none⟩ = some (.string room) := cell_at (hSx.is (List.mem_cons_of_mem _ (List.mem_cons_of_mem _ (List.mem_cons_of_mem _ (List.mem_cons_of_mem _ (List.mem_cons_of_mem _ (List.mem_cons_of_mem _ List.mem_cons_self))))))) 0
          have zB161 : wx.cell? ⟨B16, 1, none⟩ = some (.slice d.A d.xs.length d.cap) := cell_at (hSx.is (List.mem_cons_of_mem _ (List.mem_cons_of_mem _ (List.mem_cons_of_mem _ (List.mem_cons_of_mem _ (List.mem_cons_of_mem _ (List.mem_cons_of_mem _ List.mem_cons_self))))))) 1
          go_simp
          try with_reducible rfl
        try simp only [Act.put, List.setIfInBounds_toArray, List.set_cons_zero, List.set_cons_succ]
        refine wpAnyH_ready (rs := [25]) (by kernel_rfl) (by simp) ?_
        refine AllReadyH.cons (o := ⟨some 105, _, _, _, _, _⟩) rfl (fun K hK => ?_) AllReadyH.nil
        have HQc := Lib.hid (HSC.out Wy19 _ hHeld room hroom)
        go_simp
        refine HQc.out.mono ?_
        rintro e Wy25 ⟨v25, rfl, hk⟩
        refine hK.out _ _ (hk.less (fun _ ht => List.mem_cons_of_mem _ ht)) (fun hHeld => ?_)
        clear hK K hHeld
        try simp only [Act.put, List.setIfInBounds_toArray, List.set_cons_zero, List.set_cons_succ]
        refine anyH_narrow (S' := fun W => Kv C w W [v] (Th.row LT v25 (servers room) :: Th.row LT v18 (users room) :: Th.row LT v16 (users room) :: Th.box B23 (.cells #[.int .i64 p2.depth, .string p2.id] 55 (0, 0)) :: Th.box B21 (.cells #[.int .i64 p2.depth, .string p2.id] 55 (0, 0)) :: Th.box B19 (.cells #[.int .i64 p1.depth, .string p1.id] 55 (0, 0)) :: Th.box B17 (.cells #[.int .i64 p1.depth, .string p1.id] 55 (0, 0)) :: Th.box B16 (.cells #[.string room, .slice d.A d.xs.length d.cap] 36 (0, 0)) :: Th.evs (.slice d.A d.xs.length d.cap) d.xs :: Th.box B13 (.cells #[.string rm, .string s8] 9 (0, 0)) :: Th.box B12 (.cells #[.slice Au ds.length cu] 28 (0, 0)) :: Th.vw (.slice Au ds.length cu) ds :: [])) (fun _ h => h.less (fun _ ht => List.mem_cons_of_mem _ ht)) _ _ _ _ ?_
        have hHeld := hk
        clear hk HQc
        refine wpAnyH_ready (rs := [27]) (by kernel_rfl) (by simp) ?_
        refine AllReadyH.cons (o := ⟨some 107, _, _, _, _, _⟩) rfl (fun K hK => ?_) AllReadyH.nil
        have HQc := Lib.hid (HSR.out Wy25 _ _ _ room hHeld (List.mem_cons_of_mem _ (List.mem_cons_of_mem _ (List.mem_cons_of_mem _ (List.mem_cons_of_mem _ (List.mem_cons_of_mem _ (List.mem_cons_of_mem _ (List.mem_cons_of_mem _ (List.mem_cons_of_mem _ List.mem_cons_self)))))))) HEV.out)
        go_simp
        refine HQc.out.mono ?_
        rintro e Wy27 ⟨v27, rfl, hk⟩
        refine hK.out _ _ (hk.less (fun _ ht => List.mem_cons_of_mem _ ht)) (fun hHeld => ?_)
        clear hK K hHeld
        try simp only [Act.put, List.setIfInBounds_toArray, List.set_cons_zero, List.set_cons_succ]
        refine anyH_narrow (S' := fun W => Kv C w W [v] (Th.row LT v27 (servers room) :: Th.row LT v25 (servers room) :: Th.row LT v18 (users room) :: Th.row LT v16 (users room) :: Th.box B23 (.cells #[.int .i64 p2.depth, .string p2.id] 55 (0, 0)) :: Th.box B21 (.cells #[.int .i64 p2.depth, .string p2.id] 55 (0, 0)) :: Th.box B19 (.cells #[.int .i64 p1.depth, .string p1.id] 55 (0, 0)) :: Th.box B17 (.cells #[.int .i64 p1.depth, .string p1.id] 55 (0, 0)) :: Th.box B16 (.cells #[.string room, .slice d.A d.xs.length d.cap] 36 (0, 0)) :: Th.evs (.slice d.A d.xs.length d.cap) d.xs :: Th.box B13 (.cells #[.string rm, .string s8] 9 (0, 0)) :: Th.box B12 (.cells #[.slice Au ds.length cu] 28 (0, 0)) :: Th.vw (.slice Au ds.length cu) ds :: [])) (fun _ h => h.less (fun _ ht => List.mem_cons_of_mem _ ht)) _ _ _ _ ?_
        have hHeld := hk
        clear hk HQc
        refine wpAnyH_ready (rs := [28]) (by kernel_rfl) (by simp) ?_
        refine AllReadyH.cons (o := ⟨some 108, _, _, _, _, _⟩) rfl (fun K hK => ?_) AllReadyH.nil
        have HQc := Lib.hid (HST.out Wy27 _ v25 v27 (servers room) hHeld (List.mem_cons_of_mem _ List.mem_cons_self) List.mem_cons_self)
        go_simp
        refine HQc.out.mono ?_
        rintro e Wy28 ⟨rfl, hk⟩
        refine hK.out _ _ hk (fun hHeld => ?_)
        clear hK K hk HQc
        try simp only [Act.put, List.setIfInBounds_toArray, List.set_cons_zero, List.set_cons_succ]
        refine wpAnyH_take (i := 29) (oi := ⟨some 109, _, _, _, _, _⟩) (v := ?vys6_29) rfl (by kernel_rfl) (by kernel_rfl) (by kernel_rfl) (fun _ _ _ h => h) (Or.inl ⟨by rfl, ?yys6_29⟩) hHeld ?rys6_29
        case yys6_29 =>
          intro wx hSx
          go_simp
          try with_reducible rfl
        try simp only [Act.put, List.setIfInBounds_toArray, List.set_cons_zero, List.set_cons_succ]
        refine wpAnyH_take (i := 30) (oi := ⟨some 110, _, _, _, _, _⟩) (v := ?vys6_30) rfl (by kernel_rfl) (by kernel_rfl) (by kernel_rfl) (fun _ _ _ h => h) (Or.inl ⟨by rfl, ?yys6_30⟩) hHeld ?rys6_30
        case yys6_30 =>
          intro wx hSx
          go_simp
          try with_reducible rfl
        try simp only [Act.put, List.setIfInBounds_toArray, List.set_cons_zero, List.set_cons_succ]
        refine wpAnyH_done (by kernel_rfl) ?_ _
        have HKE : Hid (Kv C w Wy28 [v] (Th.box B23 (.cells #[.int .i64 p2.depth, .string p2.id] 55 (0, 0)) :: Th.box B21 (.cells #[.int .i64 p2.depth, .string p2.id] 55 (0, 0)) :: Th.box B19 (.cells #[.int .i64 p1.depth, .string p1.id] 55 (0, 0)) :: Th.box B17 (.cells #[.int .i64 p1.depth, .string p1.id] 55 (0, 0)) :: Th.box B16 (.cells #[.string room, .slice d.A d.xs.length d.cap] 36 (0, 0)) :: Th.evs (.slice d.A d.xs.length d.cap) d.xs :: Th.box B13 (.cells #[.string rm, .string s8] 9 (0, 0)) :: Th.box B12 (.cells #[.slice Au ds.length cu] 28 (0, 0)) :: Th.vw (.slice Au ds.length cu) ds :: [])) := Lib.hid (hHeld.less (fun _ ht => (List.mem_cons_of_mem _ (List.mem_cons_of_mem _ (List.mem_cons_of_mem _ (List.mem_cons_of_mem _ ht))))))
        clear hHeld
        go_upto_region 17 with (fail)
        refine wp_region_held_drew (S := fun W => Kv C w W [v] (Th.box B23 (.cells #[.int .i64 p2.depth, .string p2.id] 55 (0, 0)) :: Th.box B21 (.cells #[.int .i64 p2.depth, .string p2.id] 55 (0, 0)) :: Th.box B19 (.cells #[.int .i64 p1.depth, .string p1.id] 55 (0, 0)) :: Th.box B17 (.cells #[.int .i64 p1.depth, .string p1.id] 55 (0, 0)) :: Th.box B16 (.cells #[.string room, .slice d.A d.xs.length d.cap] 36 (0, 0)) :: Th.evs (.slice d.A d.xs.length d.cap) d.xs :: Th.box B13 (.cells #[.string rm, .string s8] 9 (0, 0)) :: Th.box B12 (.cells #[.slice Au ds.length cu] 28 (0, 0)) :: Th.vw (.slice Au ds.length cu) ds :: [])) (by kernel_rfl) (HKE.out.later (below_drew _)) (fun hHeld => ?_)
        clear HKE
        generalize World.drew _ = wd at hHeld ⊢
        refine wpAnyH_take (i := 0) (oi := ⟨some 111, _, _, _, _, _⟩) (v := ?vxs0_0) rfl (by kernel_rfl) (by kernel_rfl) (by kernel_rfl) (fun _ _ _ h => h) (Or.inl ⟨by rfl, ?yxs0_0⟩) hHeld ?rxs0_0
        case yxs0_0 =>
          intro wx hSx
          go_simp
          try with_reducible rfl
        try simp only [Act.put, List.setIfInBounds_toArray, List.set_cons_zero, List.set_cons_succ]
        refine wpAnyH_take (i := 1) (oi := ⟨some 112, _, _, _, _, _⟩) (v := ?vxs0_1) rfl (by kernel_rfl) (by kernel_rfl) (by kernel_rfl) (fun _ _ _ h => h) (Or.inl ⟨by rfl, ?yxs0_1⟩) hHeld ?rxs0_1
        case yxs0_1 =>
          intro wx hSx
          go_simp
          try with_reducible rfl
        try simp only [Act.put, List.setIfInBounds_toArray, List.set_cons_zero, List.set_cons_succ]
        refine wpAnyH_take (i := 2) (oi := ⟨some 113, _, _, _, _, _⟩) (v := ?vxs0_2) rfl (by kernel_rfl) (by kernel_rfl) (by kernel_rfl) (fun _ _ _ h => h) (Or.inl ⟨by rfl, ?yxs0_2⟩) hHeld ?rxs0_2
        case yxs0_2 =>
          intro wx hSx
          go_simp
          try with_reducible rfl
        try simp only [Act.put, List.setIfInBounds_toArray, List.set_cons_zero, List.set_cons_succ]
        refine wpAnyH_take (i := 5) (oi := ⟨some 116, _, _, _, _, _⟩) (v := ?vxs0_5) rfl (by kernel_rfl) (by kernel_rfl) (by kernel_rfl) (fun _ _ _ h => h) (Or.inl ⟨by rfl, ?yxs0_5⟩) hHeld ?rxs0_5
        case yxs0_5 =>
          intro wx hSx
          have zB120 : wx.cell? ⟨B12, 0, none⟩ = some (.slice Au ds.length cu) := cell_at (hSx.is (List.mem_cons_of_mem _ (List.mem_cons_of_mem _ (List.mem_cons_of_mem _ (List.mem_cons_of_mem _ (List.mem_cons_of_mem _ (List.mem_cons_of_mem _ (List.mem_cons_of_mem _ List.mem_cons_self)))))))) 0
          go_simp
          try with_reducible rfl
        try simp only [Act.put, List.setIfInBounds_toArray, List.set_cons_zero, List.set_cons_succ]
        refine wpAnyH_take (i := 6) (oi := ⟨some 117, _, _, _, _, _⟩) (v := ?vxs0_6) rfl (by kernel_rfl) (by kernel_rfl) (by kernel_rfl) (fun _ _ _ h => h) (Or.inl ⟨by rfl, ?yxs0_6⟩) hHeld ?rxs0_6
        case yxs0_6 =>
          intro wx hSx
          go_simp
          try with_reducible rfl
        try simp only [Act.put, List.setIfInBounds_toArray, List.set_cons_zero, List.set_cons_succ]
        refine wpAnyH_take (i := 7) (oi := ⟨some 118, _, _, _, _, _⟩) (v := ?vxs0_7) rfl (by kernel_rfl) (by kernel_rfl) (by kernel_rfl) (fun _ _ _ h => h) (Or.inl ⟨by rfl, ?yxs0_7⟩) hHeld ?rxs0_7
        case yxs0_7 =>
          intro wx hSx
          go_simp
          try with_reducible rfl
        try simp only [Act.put, List.setIfInBounds_toArray, List.set_cons_zero, List.set_cons_succ]
        refine wpAnyH_ready (rs := [3]) (by kernel_rfl) (by simp) ?_
        refine AllReadyH.cons (o := ⟨some 114, _, _, _, _, _⟩) rfl (fun K hK => ?_) AllReadyH.nil
        have HQc := Lib.hid (HUO.out wd _ hHeld)
        go_simp
        refine HQc.out.mono ?_
        rintro e Wx3 ⟨rfl, hk⟩
        refine hK.out _ _ hk (fun hHeld => ?_)
        clear hK K hk HQc
        try simp only [Act.put, List.setIfInBounds_toArray, List.set_cons_zero, List.set_cons_succ]
        refine wpAnyH_ready (rs := [4]) (by kernel_rfl) (by simp) ?_
        refine AllReadyH.cons (o := ⟨some 115, _, _, _, _, _⟩) rfl (fun K hK => ?_) AllReadyH.nil
        have HQc := Lib.hid (HJC.out Wx3 _ hHeld room uk hroom HUZ.out)
        go_simp
        refine HQc.out.mono ?_
        rintro e Wx4 ⟨rfl, hk⟩
        refine hK.out _ _ hk (fun hHeld => ?_)
        clear hK K hk HQc
        try simp only [Act.put, List.setIfInBounds_toArray, List.set_cons_zero, List.set_cons_succ]
        refine wpAnyH_ready (rs := [8]) (by kernel_rfl) (by simp) ?_
        refine AllReadyH.cons (o := ⟨some 119, _, _, _, _, _⟩) rfl (fun K hK => ?_) AllReadyH.nil
        have HQc := Lib.hid (HUO.out Wx4 _ hHeld)
        go_simp
        refine HQc.out.mono ?_
        rintro e Wx8 ⟨rfl, hk⟩
        refine hK.out _ _ hk (fun hHeld => ?_)
        clear hK K hk HQc
        try simp only [Act.put, List.setIfInBounds_toArray, List.set_cons_zero, List.set_cons_succ]
        refine wpAnyH_ready (rs := [9]) (by kernel_rfl) (by simp) ?_
        refine AllReadyH.cons (o := ⟨some 120, _, _, _, _, _⟩) rfl (fun K hK => ?_) AllReadyH.nil
        have HQc := Lib.hid (HJR.out Wx8 _ hHeld (List.mem_cons_of_mem _ (List.mem_cons_of_mem _ (List.mem_cons_of_mem _ (List.mem_cons_of_mem _ (List.mem_cons_of_mem _ (List.mem_cons_of_mem _ (List.mem_cons_of_mem _ (List.mem_cons_of_mem _ List.mem_cons_self)))))))) room uk)
        go_simp
        refine HQc.out.mono ?_
        rintro e Wx9 ⟨rfl, hk⟩
        refine hK.out _ _ hk (fun hHeld => ?_)
        clear hK K hk HQc
        try simp only [Act.put, List.setIfInBounds_toArray, List.set_cons_zero, List.set_cons_succ]
        refine wpAnyH_take (i := 10) (oi := ⟨some 121, _, _, _, _, _⟩) (v := ?vxs4_10) rfl (by kernel_rfl) (by kernel_rfl) (by kernel_rfl) (fun _ _ _ h => h) (Or.inl ⟨by rfl, ?yxs4_10⟩) hHeld ?rxs4_10
        case yxs4_10 =>
          intro wx hSx
          go_simp
          try with_reducible rfl
        try simp only [Act.put, List.setIfInBounds_toArray, List.set_cons_zero, List.set_cons_succ]
        refine wpAnyH_take (i := 11) (oi := ⟨some 122, _, _, _, _, _⟩) (v := ?vxs4_11) rfl (by kernel_rfl) (by kernel_rfl) (by kernel_rfl) (fun _ _ _ h => h) (Or.inl ⟨by rfl, ?yxs4_11⟩) hHeld ?rxs4_11
        case yxs4_11 =>
          intro wx hSx
          go_simp
          try with_reducible rfl
        try simp only [Act.put, List.setIfInBounds_toArray, List.set_cons_zero, List.set_cons_succ]
        refine wpAnyH_take (i := 12) (oi := ⟨some 123, _, _, _, _, _⟩) (v := ?vxs4_12) rfl (by kernel_rfl) (by kernel_rfl) (by kernel_rfl) (fun _ _ _ h => h) (Or.inl ⟨by rfl, ?yxs4_12⟩) hHeld ?rxs4_12
        case yxs4_12 =>
          intro wx hSx
          go_simp
          try with_reducible rfl
        try simp only [Act.put, List.setIfInBounds_toArray, List.set_cons_zero, List.set_cons_succ]
        refine wpAnyH_take (i := 13) (oi := ⟨some 124, _, _, _, _, _⟩) (v := ?vxs4_13) rfl (by kernel_rfl) (by kernel_rfl) (by kernel_rfl) (fun _ _ _ h => h) (Or.inl ⟨by rfl, ?yxs4_13⟩) hHeld ?rxs4_13
        case yxs4_13 =>
          intro wx hSx
          go_simp
          try with_reducible rfl
        try simp only [Act.put, List.setIfInBounds_toArray, List.set_cons_zero, List.set_cons_succ]
        refine wpAnyH_take (i := 14) (oi := ⟨some 125, _, _, _, _, _⟩) (v := ?vxs4_14) rfl (by kernel_rfl) (by kernel_rfl) (by kernel_rfl) (fun _ _ _ h => h) (Or.inl ⟨by rfl, ?yxs4_14⟩) hHeld ?rxs4_14
        case yxs4_14 =>
          intro wx hSx
          go_simp
          try with_reducible rfl
        try simp only [Act.put, List.setIfInBounds_toArray, List.set_cons_zero, List.set_cons_succ]
        refine wpAnyH_take (i := 16) (oi := ⟨some 127, _, _, _, _, _⟩) (v := ?vxs4_16) rfl (by kernel_rfl) (by kernel_rfl) (by kernel_rfl) (fun _ _ _ h => h) (Or.inl ⟨by rfl, ?yxs4_16⟩) hHeld ?rxs4_16
        case yxs4_16 =>
          intro wx hSx
          have zB120 : wx.cell? ⟨B12, 0, none⟩ = some (.slice Au ds.length cu) := cell_at (hSx.is (List.mem_cons_of_mem _ (List.mem_cons_of_mem _ (List.mem_cons_of_mem _ (List.mem_cons_of_mem _ (List.mem_cons_of_mem _ (List.mem_cons_of_mem _ (List.mem_cons_of_mem _ List.mem_cons_self)))))))) 0
          go_simp
          try with_reducible rfl
        try simp only [Act.put, List.setIfInBounds_toArray, List.set_cons_zero, List.set_cons_succ]
        refine wpAnyH_take (i := 17) (oi := ⟨some 128, _, _, _, _, _⟩) (v := ?vxs4_17) rfl (by kernel_rfl) (by kernel_rfl) (by kernel_rfl) (fun _ _ _ h => h) (Or.inl ⟨by rfl, ?yxs4_17⟩) hHeld ?rxs4_17
        case yxs4_17 =>
          intro wx hSx
          go_simp
          try with_reducible rfl
        try simp only [Act.put, List.setIfInBounds_toArray, List.set_cons_zero, List.set_cons_succ]
        refine wpAnyH_take (i := 18) (oi := ⟨some 129, _, _, _, _, _⟩) (v := ?vxs4_18) rfl (by kernel_rfl) (by kernel_rfl) (by kernel_rfl) (fun _ _ _ h => h) (Or.inl ⟨by rfl, ?yxs4_18⟩) hHeld ?rxs4_18
        case yxs4_18 =>
          intro wx hSx
          go_simp
          try with_reducible rfl
        try simp only [Act.put, List.setIfInBounds_toArray, List.set_cons_zero, List.set_cons_succ]
        refine wpAnyH_ready (rs := [15]) (by kernel_rfl) (by simp) ?_
        refine AllReadyH.cons (o := ⟨some 126, _, _, _, _, _⟩) rfl (fun K hK => ?_) AllReadyH.nil
        have HQc := Lib.hid (HJC.out Wx9 _ hHeld room s8 hroom hs8z)
        go_simp
        refine HQc.out.mono ?_
        rintro e Wx15 ⟨rfl, hk⟩
        refine hK.out _ _ hk (fun hHeld => ?_)
        clear hK K hk HQc
        try simp only [Act.put, List.setIfInBounds_toArray, List.set_cons_zero, List.set_cons_succ]
        refine wpAnyH_ready (rs := [19]) (by kernel_rfl) (by simp) ?_
        refine AllReadyH.cons (o := ⟨some 130, _, _, _, _, _⟩) rfl (fun K hK => ?_) AllReadyH.nil
        have HQc := Lib.hid (HJR.out Wx15 _ hHeld (List.mem_cons_of_mem _ (List.mem_cons_of_mem _ (List.mem_cons_of_mem _ (List.mem_cons_of_mem _ (List.mem_cons_of_mem _ (List.mem_cons_of_mem _ (List.mem_cons_of_mem _ (List.mem_cons_of_mem _ List.mem_cons_self)))))))) room s8)
        go_simp
        refine HQc.out.mono ?_
        rintro e Wx19 ⟨rfl, hk⟩
        refine hK.out _ _ hk (fun hHeld => ?_)
        clear hK K hk HQc
        try simp only [Act.put, List.setIfInBounds_toArray, List.set_cons_zero, List.set_cons_succ]
        refine wpAnyH_take (i := 20) (oi := ⟨some 131, _, _, _, _, _⟩) (v := ?vxs6_20) rfl (by kernel_rfl) (by kernel_rfl) (by kernel_rfl) (fun _ _ _ h => h) (Or.inl ⟨by rfl, ?yxs6_20⟩) hHeld ?rxs6_20
        case yxs6_20 =>
          intro wx hSx
          go_simp
          try with_reducible rfl
        try simp only [Act.put, List.setIfInBounds_toArray, List.set_cons_zero, List.set_cons_succ]
        refine wpAnyH_take (i := 21) (oi := ⟨some 132, _, _, _, _, _⟩) (v := ?vxs6_21) rfl (by kernel_rfl) (by kernel_rfl) (by kernel_rfl) (fun _ _ _ h => h) (Or.inl ⟨by rfl, ?yxs6_21⟩) hHeld ?rxs6_21
        case yxs6_21 =>
          intro wx hSx
          go_simp
          try with_reducible rfl
        try simp only [Act.put, List.setIfInBounds_toArray, List.set_cons_zero, List.set_cons_succ]
        refine wpAnyH_take (i := 22) (oi := ⟨some 133, _, _, _, _, _⟩) (v := ?vxs6_22) rfl (by kernel_rfl) (by kernel_rfl) (by kernel_rfl) (fun _ _ _ h => h) (Or.inl ⟨by rfl, ?yxs6_22⟩) hHeld ?rxs6_22
        case yxs6_22 =>
          intro wx hSx
          go_simp
          try with_reducible rfl
        try simp only [Act.put, List.setIfInBounds_toArray, List.set_cons_zero, List.set_cons_succ]
        refine wpAnyH_take (i := 23) (oi := ⟨some 134, _, _, _, _, _⟩) (v := ?vxs6_23) rfl (by kernel_rfl) (by kernel_rfl) (by kernel_rfl) (fun _ _ _ h => h) (Or.inl ⟨by rfl, ?yxs6_23⟩) hHeld ?rxs6_23
        case yxs6_23 =>
          intro wx hSx
          go_simp
          try with_reducible rfl
        try simp only [Act.put, List.setIfInBounds_toArray, List.set_cons_zero, List.set_cons_succ]
        refine wpAnyH_take (i := 24) (oi := ⟨some 135, _, _, _, _, _⟩) (v := ?vxs6_24) rfl (by kernel_rfl) (by kernel_rfl) (by kernel_rfl) (fun _ _ _ h => h) (Or.inl ⟨by rfl, ?yxs6_24⟩) hHeld ?rxs6_24
        case yxs6_24 =>
          intro wx hSx
          go_simp
          try with_reducible rfl
        try simp only [Act.put, List.setIfInBounds_toArray, List.set_cons_zero, List.set_cons_succ]
        refine wpAnyH_take (i := 25) (oi := ⟨some 136, _, _, _, _, _⟩) (v := ?vxs6_25) rfl (by kernel_rfl) (by kernel_rfl) (by kernel_rfl) (fun _ _ _ h => h) (Or.inl ⟨by rfl, ?yxs6_25⟩) hHeld ?rxs6_25
        case yxs6_25 =>
          intro wx hSx
          go_simp
          try with_reducible rfl
        try simp only [Act.put, List.setIfInBounds_toArray, List.set_cons_zero, List.set_cons_succ]
        refine wpAnyH_take (i := 28) (oi := ⟨some 139, _, _, _, _, _⟩) (v := ?vxs6_28) rfl (by kernel_rfl) (by kernel_rfl) (by kernel_rfl) (fun _ _ _ h => h) (Or.inl ⟨by rfl, ?yxs6_28⟩) hHeld ?rxs6_28
        case yxs6_28 =>
          intro wx hSx
          have zB160 : wx.cell? ⟨B16, 0, none⟩ = some (.string room) := cell_at (hSx.is (List.mem_cons_of_mem _ (List.mem_cons_of_mem _ (List.mem_cons_of_mem _ (List.mem_cons_of_mem _ List.mem_cons_self))))) 0
          have zB161 : wx.cell? ⟨B16, 1, none⟩ = some (.slice d.A d.xs.length d.cap) := cell_at (hSx.is (List.mem_cons_of_mem _ (List.mem_cons_of_mem _ (List.mem_cons_of_mem _ (List.mem_cons_of_mem _ List.mem_cons_self))))) 1
          go_simp
          try with_reducible rfl
        try simp only [Act.put, List.setIfInBounds_toArray, List.set_cons_zero, List.set_cons_succ]
        refine wpAnyH_take (i := 30) (oi := ⟨some 141, _, _, _, _, _⟩) (v := ?vxs6_30) rfl (by kernel_rfl) (by kernel_rfl) (by kernel_rfl) (fun _ _ _ h => h) (Or.inl ⟨by rfl, ?yxs6_30⟩) hHeld ?rxs6_30
        case yxs6_30 =>
          intro wx hSx
          go_simp
          try with_reducible rfl
        try simp only [Act.put, List.setIfInBounds_toArray, List.set_cons_zero, List.set_cons_succ]
        refine wpAnyH_ready (rs := [26]) (by kernel_rfl) (by simp) ?_
        refine AllReadyH.cons (o := ⟨some 137, _, _, _, _, _⟩) rfl (fun K hK => ?_) AllReadyH.nil
        have HQc := Lib.hid (HSO.out Wx19 _ hHeld)
        go_simp
        refine HQc.out.mono ?_
        rintro e Wx26 ⟨rfl, hk⟩
        refine hK.out _ _ hk (fun hHeld => ?_)
        clear hK K hk HQc
        try simp only [Act.put, List.setIfInBounds_toArray, List.set_cons_zero, List.set_cons_succ]
        refine wpAnyH_ready (rs := [27]) (by kernel_rfl) (by simp) ?_
        refine AllReadyH.cons (o := ⟨some 138, _, _, _, _, _⟩) rfl (fun K hK => ?_) AllReadyH.nil
        have HQc := Lib.hid (HIC.out Wx26 _ hHeld room srv hroom)
        go_simp
        refine HQc.out.mono ?_
        rintro e Wx27 ⟨rfl, hk⟩
        refine hK.out _ _ hk (fun hHeld => ?_)
        clear hK K hk HQc
        try simp only [Act.put, List.setIfInBounds_toArray, List.set_cons_zero, List.set_cons_succ]
        refine wpAnyH_ready (rs := [29]) (by kernel_rfl) (by simp) ?_
        refine AllReadyH.cons (o := ⟨some 140, _, _, _, _, _⟩) rfl (fun K hK => ?_) AllReadyH.nil
        have HQc := Lib.hid (HSR.out Wx27 _ _ _ room hHeld (List.mem_cons_of_mem _ (List.mem_cons_of_mem _ (List.mem_cons_of_mem _ (List.mem_cons_of_mem _ (List.mem_cons_of_mem _ List.mem_cons_self))))) HEV.out)
        go_simp
        refine HQc.out.mono ?_
        rintro e Wx29 ⟨v29, rfl, hk⟩
        refine hK.out _ _ (hk.less (fun _ ht => List.mem_cons_of_mem _ ht)) (fun hHeld => ?_)
        clear hK K hHeld
        try simp only [Act.put, List.setIfInBounds_toArray, List.set_cons_zero, List.set_cons_succ]
        refine anyH_narrow (S' := fun W => Kv C w W [v] (Th.row LT v29 (servers room) :: Th.box B23 (.cells #[.int .i64 p2.depth, .string p2.id] 55 (0, 0)) :: Th.box B21 (.cells #[.int .i64 p2.depth, .string p2.id] 55 (0, 0)) :: Th.box B19 (.cells #[.int .i64 p1.depth, .string p1.id] 55 (0, 0)) :: Th.box B17 (.cells #[.int .i64 p1.depth, .string p1.id] 55 (0, 0)) :: Th.box B16 (.cells #[.string room, .slice d.A d.xs.length d.cap] 36 (0, 0)) :: Th.evs (.slice d.A d.xs.length d.cap) d.xs :: Th.box B13 (.cells #[.string rm, .string s8] 9 (0, 0)) :: Th.box B12 (.cells #[.slice Au ds.length cu] 28 (0, 0)) :: Th.vw (.slice Au ds.length cu) ds :: [])) (fun _ h => h.less (fun _ ht => List.mem_cons_of_mem _ ht)) _ _ _ _ ?_
        have hHeld := hk
        clear hk HQc
        refine wpAnyH_ready (rs := [31]) (by kernel_rfl) (by simp) ?_
        refine AllReadyH.cons (o := ⟨some 142, _, _, _, _, _⟩) rfl (fun K hK => ?_) AllReadyH.nil
        have HQc := Lib.hid (HSO.out Wx29 _ hHeld)
        go_simp
        refine HQc.out.mono ?_
        rintro e Wx31 ⟨rfl, hk⟩
        refine hK.out _ _ hk (fun hHeld => ?_)
        clear hK K hk HQc
        try simp only [Act.put, List.setIfInBounds_toArray, List.set_cons_zero, List.set_cons_succ]
        refine wpAnyH_ready (rs := [32]) (by kernel_rfl) (by simp) ?_
        refine AllReadyH.cons (o := ⟨some 143, _, _, _, _, _⟩) rfl (fun K hK => ?_) AllReadyH.nil
        have HQc := Lib.hid (HHA.out Wx31 _ v29 room srv hHeld List.mem_cons_self)
        go_simp
        refine HQc.out.mono ?_
        rintro e Wx32 ⟨rfl, hk⟩
        refine hK.out _ _ hk (fun hHeld => ?_)
        clear hK K hk HQc
        try simp only [Act.put, List.setIfInBounds_toArray, List.set_cons_zero, List.set_cons_succ]
        refine wpAnyH_take (i := 33) (oi := ⟨some 144, _, _, _, _, _⟩) (v := ?vxs11_33) rfl (by kernel_rfl) (by kernel_rfl) (by kernel_rfl) (fun _ _ _ h => h) (Or.inl ⟨by rfl, ?yxs11_33⟩) hHeld ?rxs11_33
        case yxs11_33 =>
          intro wx hSx
          go_simp
          try with_reducible rfl
        try simp only [Act.put, List.setIfInBounds_toArray, List.set_cons_zero, List.set_cons_succ]
        refine wpAnyH_take (i := 34) (oi := ⟨some 145, _, _, _, _, _⟩) (v := ?vxs11_34) rfl (by kernel_rfl) (by kernel_rfl) (by kernel_rfl) (fun _ _ _ h => h) (Or.inl ⟨by rfl, ?yxs11_34⟩) hHeld ?rxs11_34
        case yxs11_34 =>
          intro wx hSx
          go_simp
          try with_reducible rfl
        try simp only [Act.put, List.setIfInBounds_toArray, List.set_cons_zero, List.set_cons_succ]
        refine wpAnyH_take (i := 35) (oi := ⟨some 146, _, _, _, _, _⟩) (v := ?vxs11_35) rfl (by kernel_rfl) (by kernel_rfl) (by kernel_rfl) (fun _ _ _ h => h) (Or.inl ⟨by rfl, ?yxs11_35⟩) hHeld ?rxs11_35
        case yxs11_35 =>
          intro wx hSx
          go_simp
          try with_reducible rfl
        try simp only [Act.put, List.setIfInBounds_toArray, List.set_cons_zero, List.set_cons_succ]
        refine wpAnyH_take (i := 36) (oi := ⟨some 147, _, _, _, _, _⟩) (v := ?vxs11_36) rfl (by kernel_rfl) (by kernel_rfl) (by kernel_rfl) (fun _ _ _ h => h) (Or.inl ⟨by rfl, ?yxs11_36⟩) hHeld ?rxs11_36
        case yxs11_36 =>
          intro wx hSx
          go_simp
          try with_reducible rfl
        try simp only [Act.put, List.setIfInBounds_toArray, List.set_cons_zero, List.set_cons_succ]
        refine wpAnyH_take (i := 37) (oi := ⟨some 148, _, _, _, _, _⟩) (v := ?vxs11_37) rfl (by kernel_rfl) (by kernel_rfl) (by kernel_rfl) (fun _ _ _ h => h) (Or.inl ⟨by rfl, ?yxs11_37⟩) hHeld ?rxs11_37
        case yxs11_37 =>
          intro wx hSx
          go_simp
          try with_reducible rfl
        try simp only [Act.put, List.setIfInBounds_toArray, List.set_cons_zero, List.set_cons_succ]
        refine wpAnyH_take (i := 38) (oi := ⟨some 149, _, _, _, _, _⟩) (v := ?vxs11_38) rfl (by kernel_rfl) (by kernel_rfl) (by kernel_rfl) (fun _ _ _ h => h) (Or.inl ⟨by rfl, ?yxs11_38⟩) hHeld ?rxs11_38
        case yxs11_38 =>
          intro wx hSx
          go_simp
          try with_reducible rfl
        try simp only [Act.put, List.setIfInBounds_toArray, List.set_cons_zero, List.set_cons_succ]
        refine wpAnyH_take (i := 40) (oi := ⟨some 151, _, _, _, _, _⟩) (v := ?vxs11_40) rfl (by kernel_rfl) (by kernel_rfl) (by kernel_rfl) (fun _ _ _ h => h) (Or.inl ⟨by rfl, ?yxs11_40⟩) hHeld ?rxs11_40
        case yxs11_40 =>
          intro wx hSx
          have zB160 : wx.cell? ⟨B16, 0, none⟩ = some (.string room) := cell_at (hSx.is (List.mem_cons_of_mem _ (List.mem_cons_of_mem _ (List.mem_cons_of_mem _ (List.mem_cons_of_mem _ (List.mem_cons_of_mem _ List.mem_cons_self)))))) 0
          have zB161 : wx.cell? ⟨B16, 1, none⟩ = some (.slice d.A d.xs.length d.cap) := cell_at (hSx.is (List.mem_cons_of_mem _ (List.mem_cons_of_mem _ (List.mem_cons_of_mem _ (List.mem_cons_of_mem _ (List.mem_cons_of_mem _ List.mem_cons_self)))))) 1
          go_simp
          try with_reducible rfl
        try simp only [Act.put, List.setIfInBounds_toArray, List.set_cons_zero, List.set_cons_succ]
        refine wpAnyH_take (i := 42) (oi := ⟨some 153, _, _, _, _, _⟩) (v := ?vxs11_42) rfl (by kernel_rfl) (by kernel_rfl) (by kernel_rfl) (fun _ _ _ h => h) (Or.inl ⟨by rfl, ?yxs11_42⟩) hHeld ?rxs11_42
        case yxs11_42 =>
          intro wx hSx
          go_simp
          try with_reducible rfl
        try simp only [Act.put, List.setIfInBounds_toArray, List.set_cons_zero, List.set_cons_succ]
        refine wpAnyH_ready (rs := [39]) (by kernel_rfl) (by simp) ?_
        refine AllReadyH.cons (o := ⟨some 150, _, _, _, _, _⟩) rfl (fun K hK => ?_) AllReadyH.nil
        have HQc := Lib.hid (HIC.out Wx32 _ hHeld room s8 hroom)
        go_simp
        refine HQc.out.mono ?_
        rintro e Wx39 ⟨rfl, hk⟩
        refine hK.out _ _ hk (fun hHeld => ?_)
        clear hK K hk HQc
        try simp only [Act.put, List.setIfInBounds_toArray, List.set_cons_zero, List.set_cons_succ]
        refine wpAnyH_ready (rs := [41]) (by kernel_rfl) (by simp) ?_
        refine AllReadyH.cons (o := ⟨some 152, _, _, _, _, _⟩) rfl (fun K hK => ?_) AllReadyH.nil
        have HQc := Lib.hid (HSR.out Wx39 _ _ _ room hHeld (List.mem_cons_of_mem _ (List.mem_cons_of_mem _ (List.mem_cons_of_mem _ (List.mem_cons_of_mem _ (List.mem_cons_of_mem _ (List.mem_cons_of_mem _ List.mem_cons_self)))))) HEV.out)
        go_simp
        refine HQc.out.mono ?_
        rintro e Wx41 ⟨v41, rfl, hk⟩
        refine hK.out _ _ (hk.less (fun _ ht => List.mem_cons_of_mem _ ht)) (fun hHeld => ?_)
        clear hK K hHeld
        try simp only [Act.put, List.setIfInBounds_toArray, List.set_cons_zero, List.set_cons_succ]
        refine anyH_narrow (S' := fun W => Kv C w W [v] (Th.row LT v41 (servers room) :: Th.row LT v29 (servers room) :: Th.box B23 (.cells #[.int .i64 p2.depth, .string p2.id] 55 (0, 0)) :: Th.box B21 (.cells #[.int .i64 p2.depth, .string p2.id] 55 (0, 0)) :: Th.box B19 (.cells #[.int .i64 p1.depth, .string p1.id] 55 (0, 0)) :: Th.box B17 (.cells #[.int .i64 p1.depth, .string p1.id] 55 (0, 0)) :: Th.box B16 (.cells #[.string room, .slice d.A d.xs.length d.cap] 36 (0, 0)) :: Th.evs (.slice d.A d.xs.length d.cap) d.xs :: Th.box B13 (.cells #[.string rm, .string s8] 9 (0, 0)) :: Th.box B12 (.cells #[.slice Au ds.length cu] 28 (0, 0)) :: Th.vw (.slice Au ds.length cu) ds :: [])) (fun _ h => h.less (fun _ ht => List.mem_cons_of_mem _ ht)) _ _ _ _ ?_
        have hHeld := hk
        clear hk HQc
        refine wpAnyH_ready (rs := [43]) (by kernel_rfl) (by simp) ?_
        refine AllReadyH.cons (o := ⟨some 154, _, _, _, _, _⟩) rfl (fun K hK => ?_) AllReadyH.nil
        have HQc := Lib.hid (HHA.out Wx41 _ v41 room s8 hHeld List.mem_cons_self)
        go_simp
        refine HQc.out.mono ?_
        rintro e Wx43 ⟨rfl, hk⟩
        refine hK.out _ _ hk (fun hHeld => ?_)
        clear hK K hk HQc
        try simp only [Act.put, List.setIfInBounds_toArray, List.set_cons_zero, List.set_cons_succ]
        refine wpAnyH_take (i := 44) (oi := ⟨some 155, _, _, _, _, _⟩) (v := ?vxs14_44) rfl (by kernel_rfl) (by kernel_rfl) (by kernel_rfl) (fun _ _ _ h => h) (Or.inl ⟨by rfl, ?yxs14_44⟩) hHeld ?rxs14_44
        case yxs14_44 =>
          intro wx hSx
          go_simp
          try with_reducible rfl
        try simp only [Act.put, List.setIfInBounds_toArray, List.set_cons_zero, List.set_cons_succ]
        refine wpAnyH_take (i := 45) (oi := ⟨some 156, _, _, _, _, _⟩) (v := ?vxs14_45) rfl (by kernel_rfl) (by kernel_rfl) (by kernel_rfl) (fun _ _ _ h => h) (Or.inl ⟨by rfl, ?yxs14_45⟩) hHeld ?rxs14_45
        case yxs14_45 =>
          intro wx hSx
          go_simp
          try with_reducible rfl
        try simp only [Act.put, List.setIfInBounds_toArray, List.set_cons_zero, List.set_cons_succ]
        refine wpAnyH_done (by kernel_rfl) ?_ _
        have HKF : Hid (Kv C w Wx43 [v] (Th.box B13 (.cells #[.string rm, .string s8] 9 (0, 0)) :: Th.box B12 (.cells #[.slice Au ds.length cu] 28 (0, 0)) :: Th.vw (.slice Au ds.length cu) ds :: [])) := Lib.hid (hHeld.less (fun _ ht => (List.mem_cons_of_mem _ (List.mem_cons_of_mem _ (List.mem_cons_of_mem _ (List.mem_cons_of_mem _ (List.mem_cons_of_mem _ (List.mem_cons_of_mem _ (List.mem_cons_of_mem _ (List.mem_cons_of_mem _ ht))))))))))
        clear hHeld
        go_wp2_with fail
        refine ⟨⟨a + 1, by go_num, by omega, HKF⟩, ?_⟩
        simp [intOf]; omega
    · have q1 : decide ((a : Int) < 2) = false := decide_eq_false (by omega)
      go_wp2_with fail
      go_at_call 22
      refine (HLV.out _ _ HK.out).mono ?_
      rintro e w9 ⟨rfl, hk9⟩
      have HK9 := Lib.hid hk9
      clear hk9
      go_wp2_with fail
      go_ret
      exact ⟨rfl, HK9.out.below⟩
end
end Go.Proofs.YtjiecjpepiknmaaGreat
