/-
  The walk of ViewShares.
-/
import Derived.Test.YtjiecjpepiknmaaGreatV6
namespace Go.Proofs.YtjiecjpepiknmaaGreat
set_option maxRecDepth 20000
open Go.RowKit
set_option linter.unusedVariables false
set_option linter.unusedSimpArgs false
section
variable {C : Dags}
theorem Kv.weak {C : Dags} {w wr : World} {vs : List VI} {ts : List Th} {t t' : Th} (h : Kv C w wr vs (t :: ts)) (hI : t'.I wr) (hP : ∀ k, t'.P k → t.P k) : Kv C w wr vs (t' :: ts) :=
  (h.with (t := t') hI (fun k hk j u hj => (h.th t List.mem_cons_self).2 j u hj k (hP k hk))).less (fun x hx => by
    rcases List.mem_cons.1 hx with rfl | hx
    · exact List.mem_cons_self
    · exact List.mem_cons_of_mem _ (List.mem_cons_of_mem _ hx))
def frV (V : Vw) (a b : ByteArray) : Bool := (roomsV V a).any (fun r => joinL (ofL V r) b)
def shV (V : Vw) (a o : ByteArray) : Bool := (roomsV V a).any (fun r => hasL (serversL (ofL V r)) o)
theorem frV_comm {V : Vw} (h : Up (V.map Prod.fst)) (a b : ByteArray) : frV V a b = frV V b a := by
  have one : ∀ a b, frV V a b = true → frV V b a = true := fun a b hf => by
    unfold frV at *
    obtain ⟨r, hr, hj⟩ := List.any_eq_true.1 hf
    obtain ⟨h1, h2⟩ := (roomsV_mem h).1 hr
    exact List.any_eq_true.2 ⟨r, (roomsV_mem h).2 ⟨h1, hj⟩, h2⟩
  rw [Bool.eq_iff_iff]
  exact ⟨one a b, one b a⟩
theorem frV_self {V : Vw} (h : Up (V.map Prod.fst)) (a : ByteArray) : frV V a a = decide (0 < ((roomsV V a).length : Int)) := by
  unfold frV
  rw [Bool.eq_iff_iff, decide_eq_true_eq]
  constructor
  · intro hf
    obtain ⟨r, hr, -⟩ := List.any_eq_true.1 hf
    have := List.length_pos_of_mem hr
    omega
  · intro hl
    obtain ⟨r, hr⟩ := List.exists_mem_of_length_pos (show 0 < (roomsV V a).length by omega)
    exact List.any_eq_true.2 ⟨r, hr, ((roomsV_mem h).1 hr).2⟩
theorem shV_is (V : Vw) (a o : ByteArray) : hasL (homesL (nearL V (roomsV V a))) o = shV V a o := by
  unfold shV
  rw [Bool.eq_iff_iff, hasL_iff, homesL_mem, List.any_eq_true]
  unfold nearL
  simp only [List.mem_flatMap, hasL_iff]
  constructor
  · rintro ⟨u, ⟨r, hr, hu⟩, hz1, hz2⟩
    exact ⟨r, hr, (homesL_mem _ o).2 ⟨u, hu, hz1, hz2⟩⟩
  · rintro ⟨r, hr, hz⟩
    obtain ⟨u, hu, hz1, hz2⟩ := (homesL_mem _ o).1 hz
    exact ⟨u, ⟨r, hr, hu⟩, hz1, hz2⟩

set_option maxHeartbeats 3200000 in
theorem viewShares_walk (C : Dags) (CR : DagRms C) (CA : DagAlls C) (va vb : Value) (gs hs : List GV) (n : Int) (s : ByteArray) (w : World) (ha : GsS w va gs) (hb : GsS w vb hs) (hn0 : -9223372036854775808 ≤ n) (hn1 : n ≤ 9223372036854775807) (hsz : s.size ≤ maxLen) :
    Calls Tryz.prog 5 #[va, vb, .int .i64 n, .string s] w fun e w' => e = .returned (.bool true) ∧ Below w.heap.size w w' := by
  have HBU := Lib.hid (build10_any CR va vb gs hs (Kv.start (C := C) w) ha hb)
  obtain ⟨Aa, ca, rfl, -⟩ := id ha.1
  obtain ⟨Ab, cb, rfl, -⟩ := id hb.1
  have HML := Lib.hid (madeL_len gs hs)
  have HFW := Lib.hid (fun W => few_any s 8 (by decide) W hsz)
  have HS8 : Hid ((fewS s 8).size ≤ 8) := Lib.hid (fewS_size s 8)
  have HUO := Lib.hid (fun W => userOf_any n W hn0 hn1)
  have HOZ : Hid ((userS n).size ≤ maxLen) := Lib.hid (Nat.le_trans (named_size (userS_user n)) (by decide))
  have HSO := Lib.hid (fun W => serverOf_any n W hn0 hn1)
  clear ha hb hsz
  generalize fewS s 8 = s8 at HFW HS8
  generalize userS n = other at HUO HOZ
  generalize serverS n = srv at HSO
  generalize madeL gs hs = ml at HML HBU ⊢
  go_enter Tryz.func5, Tryz.ntmps5
  go_wp2_with fail
  go_at_call 8
  refine HBU.out.mono ?_
  rintro e w1 ⟨v, u, ds, rfl, hvV, hds, hk⟩
  have HV2 : Hid (VOk 20 (vws ds)) := Lib.hid (by rw [hds]; exact (foldV_ok ml).mono (Nat.le_trans HML.out (by decide)))
  have HV : Hid (VOk 100 (vws ds)) := Lib.hid (HV2.out.mono (by decide))
  obtain ⟨Au, cu, rfl, -⟩ := id (show DsS w1 u ds from hk.is List.mem_cons_self).1
  have HK2 : Hid (Kv C w (w1.alloc (.cells #[.slice Au ds.length cu] 28)) [v] (Th.box w1.heap.size (.cells #[.slice Au ds.length cu] 28 (0, 0)) :: Th.vw (.slice Au ds.length cu) ds :: [])) := Lib.hid ((show Kv C w w1 [v] (Th.vw (.slice Au ds.length cu) ds :: []) from hk).add (t := Th.box w1.heap.size (.cells #[.slice Au ds.length cu] 28 (0, 0))) (below_new w1 _) (heap_alloc_new w1 _) (fun k hk => .inl (Nat.le_of_eq hk.symm)))
  have HVV := Lib.hid hvV
  clear hvV hds hk HBU HML
  go_upto_region 2 with (fail)
  generalize World.alloc _ _ = w2 at HK2 ⊢
  generalize w1.heap.size = B10 at HK2 ⊢
  have HUP : Hid (Up ((vws ds).map Prod.fst)) := Lib.hid HV.out.up
  have MV : Hid (Th.vw (.slice Au ds.length cu) ds ∈ (Th.box B10 (.cells #[.slice Au ds.length cu] 28 (0, 0)) :: Th.vw (.slice Au ds.length cu) ds :: [] : List Th)) := Lib.hid (List.mem_cons_of_mem _ List.mem_cons_self)
  have HRO0 : Hid (∀ W tt, Kv C w W [v] (tt) → (∀ t ∈ Th.box B10 (.cells #[.slice Au ds.length cu] 28 (0, 0)) :: Th.vw (.slice Au ds.length cu) ds :: [], t ∈ tt) → ∀ a : ByteArray, a.size ≤ maxLen → Calls Tryz.prog 38 #[.pointer (some ⟨v.g, 0, none⟩), .string a] W fun e w' => ∃ v', e = .returned v' ∧ Kv C w w' [v] (Th.row LT v' (roomsV (vws ds) a) :: tt)) := Lib.hid (fun W tt hk hs a hz => by
    refine (viewRoomsOf_any CA CR hk (i := 0) rfl a hz).mono ?_
    rintro e w' ⟨v', rfl, hm, h1, -⟩
    rw [HVV.out] at hm h1
    exact ⟨v', rfl, h1.weak (t' := Th.row LT v' (roomsV (vws ds) a)) hm.slice (fun k hk => hk.2)⟩)
  have HRR0 : Hid (∀ W tt, Kv C w W [v] (tt) → (∀ t ∈ Th.box B10 (.cells #[.slice Au ds.length cu] 28 (0, 0)) :: Th.vw (.slice Au ds.length cu) ds :: [], t ∈ tt) → ∀ a : ByteArray, Calls Tryz.prog 39 #[.agg #[.slice Au ds.length cu], .string a] W fun e w' => ∃ v', e = .returned v' ∧ Kv C w w' [v] (Th.row LT v' (roomsV (vws ds) a) :: tt)) := Lib.hid (fun W tt hk hs a => by
    refine (refRoomsOf10_any (hk.is (hs _ MV.out)) HV.out a).mono ?_
    rintro e w' ⟨v', rfl, hm, hb⟩
    exact ⟨v', rfl, hk.add (t := Th.row LT v' (roomsV (vws ds) a)) hb hm.slice (fun k hk => .inl (hm.lt k hk.2).1)⟩)
  have HRL0 : Hid (∀ W tt, Kv C w W [v] (tt) → (∀ t ∈ Th.box B10 (.cells #[.slice Au ds.length cu] 28 (0, 0)) :: Th.vw (.slice Au ds.length cu) ds :: [], t ∈ tt) → ∀ a : ByteArray, Calls Tryz.prog 39 #[.agg #[.slice Au ds.length cu], .string a] W fun e w' => ∃ A c, e = .returned (.slice A (roomsV (vws ds) a).length c) ∧ Kv C w w' [v] (Th.row LT (.slice A (roomsV (vws ds) a).length c) (roomsV (vws ds) a) :: tt)) := Lib.hid (fun W tt hk hs a => by
    refine (refRoomsOf10_any (hk.is (hs _ MV.out)) HV.out a).mono ?_
    rintro e w' ⟨v', rfl, hm, hb⟩
    obtain ⟨A, c, rfl, -⟩ := id hm.slice
    exact ⟨A, c, rfl, hk.add (t := Th.row LT (.slice A (roomsV (vws ds) a).length c) (roomsV (vws ds) a)) hb hm.slice (fun k hk => .inl (hm.lt k hk.2).1)⟩)
  have HPE0 : Hid (∀ W tt, Kv C w W [v] (tt) → (∀ t ∈ Th.box B10 (.cells #[.slice Au ds.length cu] 28 (0, 0)) :: Th.vw (.slice Au ds.length cu) ds :: [], t ∈ tt) → ∀ a : ByteArray, a.size ≤ maxLen → Calls Tryz.prog 40 #[.pointer (some ⟨v.g, 0, none⟩), .string a] W fun e w' => ∃ v', e = .returned v' ∧ Kv C w w' [v] (Th.row LT v' (homesL (nearL (vws ds) (roomsV (vws ds) a))) :: tt)) := Lib.hid (fun W tt hk hs a hz => by
    refine (viewPeers_any CA CR hk (i := 0) rfl (by rw [HVV.out]; exact HV2.out) a hz).mono ?_
    rintro e w' ⟨v', rfl, h1, -⟩
    rw [HVV.out] at h1
    exact ⟨v', rfl, h1⟩)
  have HPR0 : Hid (∀ W tt, Kv C w W [v] (tt) → (∀ t ∈ Th.box B10 (.cells #[.slice Au ds.length cu] 28 (0, 0)) :: Th.vw (.slice Au ds.length cu) ds :: [], t ∈ tt) → ∀ a : ByteArray, Calls Tryz.prog 37 #[.agg #[.slice Au ds.length cu], .string a] W fun e w' => ∃ v', e = .returned v' ∧ Kv C w w' [v] (Th.row LT v' (homesL (nearL (vws ds) (roomsV (vws ds) a))) :: tt)) := Lib.hid (fun W tt hk hs a => by
    refine (refPeers10_any (hk.is (hs _ MV.out)) HV.out HV2.out a).mono ?_
    rintro e w' ⟨v', rfl, hm, hf, hb⟩
    exact ⟨v', rfl, hk.add (t := Th.row LT v' (homesL (nearL (vws ds) (roomsV (vws ds) a)))) hb hm (fun k hk => .inl (hf k hk.1 hk.2))⟩)
  have HFC0 : Hid (∀ W tt, Kv C w W [v] (tt) → (∀ t ∈ Th.box B10 (.cells #[.slice Au ds.length cu] 28 (0, 0)) :: Th.vw (.slice Au ds.length cu) ds :: [], t ∈ tt) → ∀ a b : ByteArray, a.size ≤ maxLen → b.size ≤ maxLen → Calls Tryz.prog 41 #[.pointer (some ⟨v.g, 0, none⟩), .string a, .string b] W fun e w' => e = .returned (.bool (frV (vws ds) a b)) ∧ Kv C w w' [v] (tt)) := Lib.hid (fun W tt hk hs a b h1 h2 => by
    have := viewFriends_any CA CR hk (i := 0) rfl a b h1 h2
    rw [HVV.out] at this
    exact this)
  have HFR0 : Hid (∀ W tt, Kv C w W [v] (tt) → (∀ t ∈ Th.box B10 (.cells #[.slice Au ds.length cu] 28 (0, 0)) :: Th.vw (.slice Au ds.length cu) ds :: [], t ∈ tt) → ∀ a b : ByteArray, Calls Tryz.prog 42 #[.agg #[.slice Au ds.length cu], .string a, .string b] W fun e w' => e = .returned (.bool (frV (vws ds) a b)) ∧ Kv C w w' [v] (tt)) := Lib.hid (fun W tt hk hs a b => (refFriends10_any (hk.is (hs _ MV.out)) HV.out a b).mono (fun e w' he => ⟨he.1, hk.later he.2⟩))
  have HSC0 : Hid (∀ W tt, Kv C w W [v] (tt) → (∀ t ∈ Th.box B10 (.cells #[.slice Au ds.length cu] 28 (0, 0)) :: Th.vw (.slice Au ds.length cu) ds :: [], t ∈ tt) → ∀ a b : ByteArray, a.size ≤ maxLen → Calls Tryz.prog 43 #[.pointer (some ⟨v.g, 0, none⟩), .string a, .string b] W fun e w' => e = .returned (.bool (shV (vws ds) a b)) ∧ Kv C w w' [v] (tt)) := Lib.hid (fun W tt hk hs a b h1 => by
    have := viewShares_any CA CR hk (i := 0) rfl a b h1
    rw [HVV.out] at this
    exact this)
  obtain ⟨rooms, peersS, fr, sh, hro, hrr, hrl, hpe, hpr, hfc, hfs, hfu, hfr, hsc, hha⟩ : ∃ (rooms peersS : ByteArray → List ByteArray) (fr sh : ByteArray → ByteArray → Bool), (∀ W tt, Kv C w W [v] (tt) → (∀ t ∈ Th.box B10 (.cells #[.slice Au ds.length cu] 28 (0, 0)) :: Th.vw (.slice Au ds.length cu) ds :: [], t ∈ tt) → ∀ a : ByteArray, a.size ≤ maxLen → Calls Tryz.prog 38 #[.pointer (some ⟨v.g, 0, none⟩), .string a] W fun e w' => ∃ v', e = .returned v' ∧ Kv C w w' [v] (Th.row LT v' (rooms a) :: tt)) ∧ (∀ W tt, Kv C w W [v] (tt) → (∀ t ∈ Th.box B10 (.cells #[.slice Au ds.length cu] 28 (0, 0)) :: Th.vw (.slice Au ds.length cu) ds :: [], t ∈ tt) → ∀ a : ByteArray, Calls Tryz.prog 39 #[.agg #[.slice Au ds.length cu], .string a] W fun e w' => ∃ v', e = .returned v' ∧ Kv C w w' [v] (Th.row LT v' (rooms a) :: tt)) ∧ (∀ W tt, Kv C w W [v] (tt) → (∀ t ∈ Th.box B10 (.cells #[.slice Au ds.length cu] 28 (0, 0)) :: Th.vw (.slice Au ds.length cu) ds :: [], t ∈ tt) → ∀ a : ByteArray, Calls Tryz.prog 39 #[.agg #[.slice Au ds.length cu], .string a] W fun e w' => ∃ A c, e = .returned (.slice A (rooms a).length c) ∧ Kv C w w' [v] (Th.row LT (.slice A (rooms a).length c) (rooms a) :: tt)) ∧ (∀ W tt, Kv C w W [v] (tt) → (∀ t ∈ Th.box B10 (.cells #[.slice Au ds.length cu] 28 (0, 0)) :: Th.vw (.slice Au ds.length cu) ds :: [], t ∈ tt) → ∀ a : ByteArray, a.size ≤ maxLen → Calls Tryz.prog 40 #[.pointer (some ⟨v.g, 0, none⟩), .string a] W fun e w' => ∃ v', e = .returned v' ∧ Kv C w w' [v] (Th.row LT v' (peersS a) :: tt)) ∧ (∀ W tt, Kv C w W [v] (tt) → (∀ t ∈ Th.box B10 (.cells #[.slice Au ds.length cu] 28 (0, 0)) :: Th.vw (.slice Au ds.length cu) ds :: [], t ∈ tt) → ∀ a : ByteArray, Calls Tryz.prog 37 #[.agg #[.slice Au ds.length cu], .string a] W fun e w' => ∃ v', e = .returned v' ∧ Kv C w w' [v] (Th.row LT v' (peersS a) :: tt)) ∧ (∀ W tt, Kv C w W [v] (tt) → (∀ t ∈ Th.box B10 (.cells #[.slice Au ds.length cu] 28 (0, 0)) :: Th.vw (.slice Au ds.length cu) ds :: [], t ∈ tt) → ∀ a b : ByteArray, a.size ≤ maxLen → b.size ≤ maxLen → Calls Tryz.prog 41 #[.pointer (some ⟨v.g, 0, none⟩), .string a, .string b] W fun e w' => e = .returned (.bool (fr a b)) ∧ Kv C w w' [v] (tt)) ∧ (∀ W tt, Kv C w W [v] (tt) → (∀ t ∈ Th.box B10 (.cells #[.slice Au ds.length cu] 28 (0, 0)) :: Th.vw (.slice Au ds.length cu) ds :: [], t ∈ tt) → ∀ a b : ByteArray, a.size ≤ maxLen → b.size ≤ maxLen → Calls Tryz.prog 41 #[.pointer (some ⟨v.g, 0, none⟩), .string b, .string a] W fun e w' => e = .returned (.bool (fr a b)) ∧ Kv C w w' [v] (tt)) ∧ (∀ W tt, Kv C w W [v] (tt) → (∀ t ∈ Th.box B10 (.cells #[.slice Au ds.length cu] 28 (0, 0)) :: Th.vw (.slice Au ds.length cu) ds :: [], t ∈ tt) → ∀ a : ByteArray, a.size ≤ maxLen → Calls Tryz.prog 41 #[.pointer (some ⟨v.g, 0, none⟩), .string a, .string a] W fun e w' => e = .returned (.bool (decide (0 < ((rooms a).length : Int)))) ∧ Kv C w w' [v] (tt)) ∧ (∀ W tt, Kv C w W [v] (tt) → (∀ t ∈ Th.box B10 (.cells #[.slice Au ds.length cu] 28 (0, 0)) :: Th.vw (.slice Au ds.length cu) ds :: [], t ∈ tt) → ∀ a b : ByteArray, Calls Tryz.prog 42 #[.agg #[.slice Au ds.length cu], .string a, .string b] W fun e w' => e = .returned (.bool (fr a b)) ∧ Kv C w w' [v] (tt)) ∧ (∀ W tt, Kv C w W [v] (tt) → (∀ t ∈ Th.box B10 (.cells #[.slice Au ds.length cu] 28 (0, 0)) :: Th.vw (.slice Au ds.length cu) ds :: [], t ∈ tt) → ∀ a b : ByteArray, a.size ≤ maxLen → Calls Tryz.prog 43 #[.pointer (some ⟨v.g, 0, none⟩), .string a, .string b] W fun e w' => e = .returned (.bool (sh a b)) ∧ Kv C w w' [v] (tt)) ∧ (∀ W tt (v' : Value) (a o : ByteArray), Kv C w W [v] (tt) → Th.row LT v' (peersS a) ∈ tt → Calls Tryz.prog 36 #[v', .string o] W fun e w' => e = .returned (.bool (sh a o)) ∧ Kv C w w' [v] (tt)) :=
    ⟨roomsV (vws ds), fun a => homesL (nearL (vws ds) (roomsV (vws ds) a)), frV (vws ds), shV (vws ds), HRO0.out, HRR0.out, HRL0.out, HPE0.out, HPR0.out, HFC0.out, fun W tt hk hs a b h1 h2 => by
      rw [frV_comm HUP.out a b]
      exact HFC0.out W tt hk hs b a h2 h1, fun W tt hk hs a h1 => by
      rw [← frV_self HUP.out a]
      exact HFC0.out W tt hk hs a a h1 h1, HFR0.out, HSC0.out, fun W tt v' a o hk hm => by
      rw [← shV_is]
      exact (refHas_any v' _ o W (hk.is hm)).mono (fun e w' he => ⟨he.1, by rw [he.2]; exact hk⟩)⟩
  have HRO := Lib.hid hro
  have HRR := Lib.hid hrr
  have HRL := Lib.hid hrl
  have HPE := Lib.hid hpe
  have HPR := Lib.hid hpr
  have HFC := Lib.hid hfc
  have HFS := Lib.hid hfs
  have HFU := Lib.hid hfu
  have HFR := Lib.hid hfr
  have HSC := Lib.hid hsc
  have HHA := Lib.hid hha
  clear hro hrr hrl hpe hpr hfc hfs hfu hfr hsc hha HRO0 HRR0 HRL0 HPE0 HPR0 HFC0 HFR0 HSC0 HV HV2 HVV HUP MV
  have HST := Lib.hid (fun W tt (v1 v2 : Value) (us : List ByteArray) (hk : Kv C w W [v] (tt)) (h1 : Th.row LT v1 us ∈ tt) (h2 : Th.row LT v2 us ∈ tt) => (show Calls Tryz.prog 17 #[v1, v2] W fun e w' => e = .returned (.bool true) ∧ Kv C w w' [v] (tt) from (sameTexts_any v1 v2 us us W (hk.is h1) (hk.is h2)).mono (fun e w' ⟨he, d, hw⟩ => ⟨by rw [he, decide_eq_true rfl], hk.later (by rw [hw]; exact ((Gr.refl W).drewN d).below)⟩)))
  have HLV := Lib.hid (fun W (hw : Kv C w W [v] (Th.box B10 (.cells #[.slice Au ds.length cu] 28 (0, 0)) :: Th.vw (.slice Au ds.length cu) ds :: [])) => lives10_any CR hw)
  go_wp2_with fail
  go_at_call 23
  refine (HFW.out _).mono ?_
  rintro e w3 ⟨rfl, rfl⟩
  clear HFW
  go_wp2_with fail
  go_loopw [11] (fun i wr => ∃ a : Nat, i = .int .i64 (a : Int) ∧ a ≤ 10 ∧ Hid (Kv C w wr [v] (Th.box B10 (.cells #[.slice Au ds.length cu] 28 (0, 0)) :: Th.vw (.slice Au ds.length cu) ds :: []))) (fun i _ => 10 - (intOf i).toNat)
  case atStart => exact ⟨0, rfl, Nat.zero_le _, HK2⟩
  case round =>
    obtain ⟨a, rfl, ha, HK⟩ := hrel
    clear HK2
    by_cases h1 : a < 10
    · have q1 : decide ((a : Int) < 10) = true := decide_eq_true (by omega)
      obtain ⟨ri, hri, hri1⟩ : ∃ ri : Int, (a : Int).tmod 9 = ri ∧ 0 ≤ ri ∧ ri < 9 := ⟨_, rfl, by rw [Int.tmod_eq_emod_of_nonneg (by omega)]; omega⟩
      have HUN := Lib.hid (fun W => userOf_any ri W (by omega) (by omega))
      have HEZ : Hid ((userS ri).size ≤ maxLen) := Lib.hid (Nat.le_trans (named_size (userS_user ri)) (by decide))
      generalize userS ri = un at HUN HEZ
      go_wp2_with fail
      go_at_call 32
      refine (HUN.out _).mono ?_
      rintro e w4 ⟨rfl, b4⟩
      have HK4 := Lib.hid (HK.out.later b4)
      clear b4 HK HUN
      by_cases h9 : a = 9
      · have q3 : ((a : Int) == 9) = true := by rw [beq_iff_eq]; omega
        have HUZ : s8.size ≤ maxLen := Nat.le_trans HS8.out (by decide)
        have bff : ∀ b : Bool, (b != b) = false := fun b => by cases b <;> rfl
        have q9 := bff (fr s8 other)
        have q10 := bff (decide (0 < ((rooms s8).length : Int)))
        have q11 := bff (sh s8 srv)
        have q12 := bff (sh s8 s8)
        go_upto_region 11 with (fail)
        go_wp2_with fail
        go_at_call 32
        refine (HUO.out _).mono ?_
        rintro e x1 ⟨rfl, b1⟩
        have HX1 := Lib.hid (HK4.out.later b1)
        clear b1 HK4
        have z1 : x1.cell? ⟨B10, 0, none⟩ = some (.slice Au ds.length cu) := cell_at (HX1.out.is List.mem_cons_self) 0
        go_wp2_with fail
        go_at_call 37
        refine (HPR.out _ _ HX1.out (fun _ ht => ht) s8).mono ?_
        rintro e x2 ⟨vp, rfl, hk⟩
        have HX2 : Hid (Kv C w x2 [v] (Th.row LT vp (peersS s8) :: Th.box B10 (.cells #[.slice Au ds.length cu] 28 (0, 0)) :: Th.vw (.slice Au ds.length cu) ds :: [])) := Lib.hid hk
        clear hk HX1 z1
        go_upto_region 13 with (fail)
        refine wp_region_held_drew (S := fun W => Kv C w W [v] (Th.row LT vp (peersS s8) :: Th.box B10 (.cells #[.slice Au ds.length cu] 28 (0, 0)) :: Th.vw (.slice Au ds.length cu) ds :: [])) (by kernel_rfl) (HX2.out.later (below_drew _)) (fun hHeld => ?_)
        clear HX2
        generalize World.drew _ = wd at hHeld ⊢
        refine wpAnyH_take (i := 0) (oi := ⟨some 40, _, _, _, _, _⟩) (v := ?vrs0_0) rfl (by kernel_rfl) (by kernel_rfl) (by kernel_rfl) (fun _ _ _ h => h) (Or.inl ⟨by rfl, ?yrs0_0⟩) hHeld ?rrs0_0
        case yrs0_0 =>
          intro wx hSx
          go_simp
          try with_reducible rfl
        try simp only [Act.put, List.setIfInBounds_toArray, List.set_cons_zero, List.set_cons_succ]
        refine wpAnyH_take (i := 1) (oi := ⟨some 41, _, _, _, _, _⟩) (v := ?vrs0_1) rfl (by kernel_rfl) (by kernel_rfl) (by kernel_rfl) (fun _ _ _ h => h) (Or.inl ⟨by rfl, ?yrs0_1⟩) hHeld ?rrs0_1
        case yrs0_1 =>
          intro wx hSx
          go_simp
          try with_reducible rfl
        try simp only [Act.put, List.setIfInBounds_toArray, List.set_cons_zero, List.set_cons_succ]
        refine wpAnyH_take (i := 3) (oi := ⟨some 43, _, _, _, _, _⟩) (v := ?vrs0_3) rfl (by kernel_rfl) (by kernel_rfl) (by kernel_rfl) (fun _ _ _ h => h) (Or.inl ⟨by rfl, ?yrs0_3⟩) hHeld ?rrs0_3
        case yrs0_3 =>
          intro wx hSx
          have z10 : wx.cell? ⟨B10, 0, none⟩ = some (.slice Au ds.length cu) := cell_at (hSx.is (List.mem_cons_of_mem _ List.mem_cons_self)) 0
          go_simp
          try with_reducible rfl
        try simp only [Act.put, List.setIfInBounds_toArray, List.set_cons_zero, List.set_cons_succ]
        refine wpAnyH_take (i := 4) (oi := ⟨some 44, _, _, _, _, _⟩) (v := ?vrs0_4) rfl (by kernel_rfl) (by kernel_rfl) (by kernel_rfl) (fun _ _ _ h => h) (Or.inl ⟨by rfl, ?yrs0_4⟩) hHeld ?rrs0_4
        case yrs0_4 =>
          intro wx hSx
          go_simp
          try with_reducible rfl
        try simp only [Act.put, List.setIfInBounds_toArray, List.set_cons_zero, List.set_cons_succ]
        refine wpAnyH_ready (rs := [2]) (by kernel_rfl) (by simp) ?_
        refine AllReadyH.cons (o := ⟨some 42, _, _, _, _, _⟩) rfl (fun K hK => ?_) AllReadyH.nil
        have HQc := Lib.hid (HRO.out wd _ hHeld (fun _ ht => (List.mem_cons_of_mem _ ht)) s8 HUZ)
        go_simp
        refine HQc.out.mono ?_
        rintro e Wr2 ⟨v2, rfl, hk⟩
        refine hK.out _ _ (hk.less (fun _ ht => List.mem_cons_of_mem _ ht)) (fun hHeld => ?_)
        clear hK K hHeld
        try simp only [Act.put, List.setIfInBounds_toArray, List.set_cons_zero, List.set_cons_succ]
        refine anyH_narrow (S' := fun W => Kv C w W [v] (Th.row LT v2 (rooms s8) :: Th.row LT vp (peersS s8) :: Th.box B10 (.cells #[.slice Au ds.length cu] 28 (0, 0)) :: Th.vw (.slice Au ds.length cu) ds :: [])) (fun _ h => h.less (fun _ ht => List.mem_cons_of_mem _ ht)) _ _ _ _ ?_
        have hHeld := hk
        clear hk HQc
        refine wpAnyH_ready (rs := [5]) (by kernel_rfl) (by simp) ?_
        refine AllReadyH.cons (o := ⟨some 45, _, _, _, _, _⟩) rfl (fun K hK => ?_) AllReadyH.nil
        have HQc := Lib.hid (HRR.out Wr2 _ hHeld (fun _ ht => (List.mem_cons_of_mem _ (List.mem_cons_of_mem _ ht))) s8)
        go_simp
        refine HQc.out.mono ?_
        rintro e Wr5 ⟨v5, rfl, hk⟩
        refine hK.out _ _ (hk.less (fun _ ht => List.mem_cons_of_mem _ ht)) (fun hHeld => ?_)
        clear hK K hHeld
        try simp only [Act.put, List.setIfInBounds_toArray, List.set_cons_zero, List.set_cons_succ]
        refine anyH_narrow (S' := fun W => Kv C w W [v] (Th.row LT v5 (rooms s8) :: Th.row LT v2 (rooms s8) :: Th.row LT vp (peersS s8) :: Th.box B10 (.cells #[.slice Au ds.length cu] 28 (0, 0)) :: Th.vw (.slice Au ds.length cu) ds :: [])) (fun _ h => h.less (fun _ ht => List.mem_cons_of_mem _ ht)) _ _ _ _ ?_
        have hHeld := hk
        clear hk HQc
        refine wpAnyH_ready (rs := [6]) (by kernel_rfl) (by simp) ?_
        refine AllReadyH.cons (o := ⟨some 46, _, _, _, _, _⟩) rfl (fun K hK => ?_) AllReadyH.nil
        have HQc := Lib.hid (HST.out Wr5 _ v2 v5 (rooms s8) hHeld (List.mem_cons_of_mem _ List.mem_cons_self) List.mem_cons_self)
        go_simp
        refine HQc.out.mono ?_
        rintro e Wr6 ⟨rfl, hk⟩
        refine hK.out _ _ hk (fun hHeld => ?_)
        clear hK K hk HQc
        try simp only [Act.put, List.setIfInBounds_toArray, List.set_cons_zero, List.set_cons_succ]
        refine wpAnyH_take (i := 7) (oi := ⟨some 47, _, _, _, _, _⟩) (v := ?vrs3_7) rfl (by kernel_rfl) (by kernel_rfl) (by kernel_rfl) (fun _ _ _ h => h) (Or.inl ⟨by rfl, ?yrs3_7⟩) hHeld ?rrs3_7
        case yrs3_7 =>
          intro wx hSx
          go_simp
          try with_reducible rfl
        try simp only [Act.put, List.setIfInBounds_toArray, List.set_cons_zero, List.set_cons_succ]
        refine wpAnyH_take (i := 8) (oi := ⟨some 48, _, _, _, _, _⟩) (v := ?vrs3_8) rfl (by kernel_rfl) (by kernel_rfl) (by kernel_rfl) (fun _ _ _ h => h) (Or.inl ⟨by rfl, ?yrs3_8⟩) hHeld ?rrs3_8
        case yrs3_8 =>
          intro wx hSx
          go_simp
          try with_reducible rfl
        try simp only [Act.put, List.setIfInBounds_toArray, List.set_cons_zero, List.set_cons_succ]
        refine wpAnyH_take (i := 9) (oi := ⟨some 49, _, _, _, _, _⟩) (v := ?vrs3_9) rfl (by kernel_rfl) (by kernel_rfl) (by kernel_rfl) (fun _ _ _ h => h) (Or.inl ⟨by rfl, ?yrs3_9⟩) hHeld ?rrs3_9
        case yrs3_9 =>
          intro wx hSx
          go_simp
          try with_reducible rfl
        try simp only [Act.put, List.setIfInBounds_toArray, List.set_cons_zero, List.set_cons_succ]
        refine wpAnyH_take (i := 10) (oi := ⟨some 50, _, _, _, _, _⟩) (v := ?vrs3_10) rfl (by kernel_rfl) (by kernel_rfl) (by kernel_rfl) (fun _ _ _ h => h) (Or.inl ⟨by rfl, ?yrs3_10⟩) hHeld ?rrs3_10
        case yrs3_10 =>
          intro wx hSx
          go_simp
          try with_reducible rfl
        try simp only [Act.put, List.setIfInBounds_toArray, List.set_cons_zero, List.set_cons_succ]
        refine wpAnyH_take (i := 12) (oi := ⟨some 52, _, _, _, _, _⟩) (v := ?vrs3_12) rfl (by kernel_rfl) (by kernel_rfl) (by kernel_rfl) (fun _ _ _ h => h) (Or.inl ⟨by rfl, ?yrs3_12⟩) hHeld ?rrs3_12
        case yrs3_12 =>
          intro wx hSx
          go_simp
          try with_reducible rfl
        try simp only [Act.put, List.setIfInBounds_toArray, List.set_cons_zero, List.set_cons_succ]
        refine wpAnyH_ready (rs := [11]) (by kernel_rfl) (by simp) ?_
        refine AllReadyH.cons (o := ⟨some 51, _, _, _, _, _⟩) rfl (fun K hK => ?_) AllReadyH.nil
        have HQc := Lib.hid (HPE.out Wr6 _ hHeld (fun _ ht => (List.mem_cons_of_mem _ (List.mem_cons_of_mem _ (List.mem_cons_of_mem _ ht)))) s8 HUZ)
        go_simp
        refine HQc.out.mono ?_
        rintro e Wr11 ⟨v11, rfl, hk⟩
        refine hK.out _ _ (hk.less (fun _ ht => List.mem_cons_of_mem _ ht)) (fun hHeld => ?_)
        clear hK K hHeld
        try simp only [Act.put, List.setIfInBounds_toArray, List.set_cons_zero, List.set_cons_succ]
        refine anyH_narrow (S' := fun W => Kv C w W [v] (Th.row LT v11 (peersS s8) :: Th.row LT v5 (rooms s8) :: Th.row LT v2 (rooms s8) :: Th.row LT vp (peersS s8) :: Th.box B10 (.cells #[.slice Au ds.length cu] 28 (0, 0)) :: Th.vw (.slice Au ds.length cu) ds :: [])) (fun _ h => h.less (fun _ ht => List.mem_cons_of_mem _ ht)) _ _ _ _ ?_
        have hHeld := hk
        clear hk HQc
        refine wpAnyH_ready (rs := [13]) (by kernel_rfl) (by simp) ?_
        refine AllReadyH.cons (o := ⟨some 53, _, _, _, _, _⟩) rfl (fun K hK => ?_) AllReadyH.nil
        have HQc := Lib.hid (HST.out Wr11 _ v11 vp (peersS s8) hHeld List.mem_cons_self (List.mem_cons_of_mem _ (List.mem_cons_of_mem _ (List.mem_cons_of_mem _ List.mem_cons_self))))
        go_simp
        refine HQc.out.mono ?_
        rintro e Wr13 ⟨rfl, hk⟩
        refine hK.out _ _ hk (fun hHeld => ?_)
        clear hK K hk HQc
        try simp only [Act.put, List.setIfInBounds_toArray, List.set_cons_zero, List.set_cons_succ]
        refine wpAnyH_take (i := 14) (oi := ⟨some 54, _, _, _, _, _⟩) (v := ?vrs5_14) rfl (by kernel_rfl) (by kernel_rfl) (by kernel_rfl) (fun _ _ _ h => h) (Or.inl ⟨by rfl, ?yrs5_14⟩) hHeld ?rrs5_14
        case yrs5_14 =>
          intro wx hSx
          go_simp
          try with_reducible rfl
        try simp only [Act.put, List.setIfInBounds_toArray, List.set_cons_zero, List.set_cons_succ]
        refine wpAnyH_take (i := 15) (oi := ⟨some 55, _, _, _, _, _⟩) (v := ?vrs5_15) rfl (by kernel_rfl) (by kernel_rfl) (by kernel_rfl) (fun _ _ _ h => h) (Or.inl ⟨by rfl, ?yrs5_15⟩) hHeld ?rrs5_15
        case yrs5_15 =>
          intro wx hSx
          go_simp
          try with_reducible rfl
        try simp only [Act.put, List.setIfInBounds_toArray, List.set_cons_zero, List.set_cons_succ]
        refine wpAnyH_take (i := 16) (oi := ⟨some 56, _, _, _, _, _⟩) (v := ?vrs5_16) rfl (by kernel_rfl) (by kernel_rfl) (by kernel_rfl) (fun _ _ _ h => h) (Or.inl ⟨by rfl, ?yrs5_16⟩) hHeld ?rrs5_16
        case yrs5_16 =>
          intro wx hSx
          go_simp
          try with_reducible rfl
        try simp only [Act.put, List.setIfInBounds_toArray, List.set_cons_zero, List.set_cons_succ]
        refine wpAnyH_take (i := 17) (oi := ⟨some 57, _, _, _, _, _⟩) (v := ?vrs5_17) rfl (by kernel_rfl) (by kernel_rfl) (by kernel_rfl) (fun _ _ _ h => h) (Or.inl ⟨by rfl, ?yrs5_17⟩) hHeld ?rrs5_17
        case yrs5_17 =>
          intro wx hSx
          go_simp
          try with_reducible rfl
        try simp only [Act.put, List.setIfInBounds_toArray, List.set_cons_zero, List.set_cons_succ]
        refine wpAnyH_take (i := 18) (oi := ⟨some 58, _, _, _, _, _⟩) (v := ?vrs5_18) rfl (by kernel_rfl) (by kernel_rfl) (by kernel_rfl) (fun _ _ _ h => h) (Or.inl ⟨by rfl, ?yrs5_18⟩) hHeld ?rrs5_18
        case yrs5_18 =>
          intro wx hSx
          go_simp
          try with_reducible rfl
        try simp only [Act.put, List.setIfInBounds_toArray, List.set_cons_zero, List.set_cons_succ]
        refine wpAnyH_take (i := 19) (oi := ⟨some 59, _, _, _, _, _⟩) (v := ?vrs5_19) rfl (by kernel_rfl) (by kernel_rfl) (by kernel_rfl) (fun _ _ _ h => h) (Or.inl ⟨by rfl, ?yrs5_19⟩) hHeld ?rrs5_19
        case yrs5_19 =>
          intro wx hSx
          go_simp
          try with_reducible rfl
        try simp only [Act.put, List.setIfInBounds_toArray, List.set_cons_zero, List.set_cons_succ]
        refine wpAnyH_take (i := 21) (oi := ⟨some 61, _, _, _, _, _⟩) (v := ?vrs5_21) rfl (by kernel_rfl) (by kernel_rfl) (by kernel_rfl) (fun _ _ _ h => h) (Or.inl ⟨by rfl, ?yrs5_21⟩) hHeld ?rrs5_21
        case yrs5_21 =>
          intro wx hSx
          have z10 : wx.cell? ⟨B10, 0, none⟩ = some (.slice Au ds.length cu) := cell_at (hSx.is (List.mem_cons_of_mem _ (List.mem_cons_of_mem _ (List.mem_cons_of_mem _ (List.mem_cons_of_mem _ List.mem_cons_self))))) 0
          go_simp
          try with_reducible rfl
        try simp only [Act.put, List.setIfInBounds_toArray, List.set_cons_zero, List.set_cons_succ]
        refine wpAnyH_take (i := 22) (oi := ⟨some 62, _, _, _, _, _⟩) (v := ?vrs5_22) rfl (by kernel_rfl) (by kernel_rfl) (by kernel_rfl) (fun _ _ _ h => h) (Or.inl ⟨by rfl, ?yrs5_22⟩) hHeld ?rrs5_22
        case yrs5_22 =>
          intro wx hSx
          go_simp
          try with_reducible rfl
        try simp only [Act.put, List.setIfInBounds_toArray, List.set_cons_zero, List.set_cons_succ]
        refine wpAnyH_take (i := 23) (oi := ⟨some 63, _, _, _, _, _⟩) (v := ?vrs5_23) rfl (by kernel_rfl) (by kernel_rfl) (by kernel_rfl) (fun _ _ _ h => h) (Or.inl ⟨by rfl, ?yrs5_23⟩) hHeld ?rrs5_23
        case yrs5_23 =>
          intro wx hSx
          go_simp
          try with_reducible rfl
        try simp only [Act.put, List.setIfInBounds_toArray, List.set_cons_zero, List.set_cons_succ]
        refine wpAnyH_ready (rs := [20]) (by kernel_rfl) (by simp) ?_
        refine AllReadyH.cons (o := ⟨some 60, _, _, _, _, _⟩) rfl (fun K hK => ?_) AllReadyH.nil
        have HQc := Lib.hid (HFC.out Wr13 _ hHeld (fun _ ht => (List.mem_cons_of_mem _ (List.mem_cons_of_mem _ (List.mem_cons_of_mem _ (List.mem_cons_of_mem _ ht))))) s8 other HUZ HOZ.out)
        go_simp
        refine HQc.out.mono ?_
        rintro e Wr20 ⟨rfl, hk⟩
        refine hK.out _ _ hk (fun hHeld => ?_)
        clear hK K hk HQc
        try simp only [Act.put, List.setIfInBounds_toArray, List.set_cons_zero, List.set_cons_succ]
        refine wpAnyH_ready (rs := [24]) (by kernel_rfl) (by simp) ?_
        refine AllReadyH.cons (o := ⟨some 64, _, _, _, _, _⟩) rfl (fun K hK => ?_) AllReadyH.nil
        have HQc := Lib.hid (HFR.out Wr20 _ hHeld (fun _ ht => (List.mem_cons_of_mem _ (List.mem_cons_of_mem _ (List.mem_cons_of_mem _ (List.mem_cons_of_mem _ ht))))) s8 other)
        go_simp
        refine HQc.out.mono ?_
        rintro e Wr24 ⟨rfl, hk⟩
        refine hK.out _ _ hk (fun hHeld => ?_)
        clear hK K hk HQc
        try simp only [Act.put, List.setIfInBounds_toArray, List.set_cons_zero, List.set_cons_succ]
        refine wpAnyH_take (i := 25) (oi := ⟨some 65, _, _, _, _, _⟩) (v := ?vrs7_25) rfl (by kernel_rfl) (by kernel_rfl) (by kernel_rfl) (fun _ _ _ h => h) (Or.inl ⟨by rfl, ?yrs7_25⟩) hHeld ?rrs7_25
        case yrs7_25 =>
          intro wx hSx
          go_simp
          try with_reducible rfl
        try simp only [Act.put, List.setIfInBounds_toArray, List.set_cons_zero, List.set_cons_succ]
        refine wpAnyH_take (i := 26) (oi := ⟨some 66, _, _, _, _, _⟩) (v := ?vrs7_26) rfl (by kernel_rfl) (by kernel_rfl) (by kernel_rfl) (fun _ _ _ h => h) (Or.inl ⟨by rfl, ?yrs7_26⟩) hHeld ?rrs7_26
        case yrs7_26 =>
          intro wx hSx
          go_simp
          try with_reducible rfl
        try simp only [Act.put, List.setIfInBounds_toArray, List.set_cons_zero, List.set_cons_succ]
        refine wpAnyH_take (i := 27) (oi := ⟨some 67, _, _, _, _, _⟩) (v := ?vrs7_27) rfl (by kernel_rfl) (by kernel_rfl) (by kernel_rfl) (fun _ _ _ h => h) (Or.inl ⟨by rfl, ?yrs7_27⟩) hHeld ?rrs7_27
        case yrs7_27 =>
          intro wx hSx
          go_simp
          try with_reducible rfl
        try simp only [Act.put, List.setIfInBounds_toArray, List.set_cons_zero, List.set_cons_succ]
        refine wpAnyH_take (i := 28) (oi := ⟨some 68, _, _, _, _, _⟩) (v := ?vrs7_28) rfl (by kernel_rfl) (by kernel_rfl) (by kernel_rfl) (fun _ _ _ h => h) (Or.inl ⟨by rfl, ?yrs7_28⟩) hHeld ?rrs7_28
        case yrs7_28 =>
          intro wx hSx
          go_simp
          try with_reducible rfl
        try simp only [Act.put, List.setIfInBounds_toArray, List.set_cons_zero, List.set_cons_succ]
        refine wpAnyH_take (i := 29) (oi := ⟨some 69, _, _, _, _, _⟩) (v := ?vrs7_29) rfl (by kernel_rfl) (by kernel_rfl) (by kernel_rfl) (fun _ _ _ h => h) (Or.inl ⟨by rfl, ?yrs7_29⟩) hHeld ?rrs7_29
        case yrs7_29 =>
          intro wx hSx
          go_simp
          try with_reducible rfl
        try simp only [Act.put, List.setIfInBounds_toArray, List.set_cons_zero, List.set_cons_succ]
        refine wpAnyH_take (i := 30) (oi := ⟨some 70, _, _, _, _, _⟩) (v := ?vrs7_30) rfl (by kernel_rfl) (by kernel_rfl) (by kernel_rfl) (fun _ _ _ h => h) (Or.inl ⟨by rfl, ?yrs7_30⟩) hHeld ?rrs7_30
        case yrs7_30 =>
          intro wx hSx
          go_simp
          try with_reducible rfl
        try simp only [Act.put, List.setIfInBounds_toArray, List.set_cons_zero, List.set_cons_succ]
        refine wpAnyH_take (i := 32) (oi := ⟨some 72, _, _, _, _, _⟩) (v := ?vrs7_32) rfl (by kernel_rfl) (by kernel_rfl) (by kernel_rfl) (fun _ _ _ h => h) (Or.inl ⟨by rfl, ?yrs7_32⟩) hHeld ?rrs7_32
        case yrs7_32 =>
          intro wx hSx
          have z10 : wx.cell? ⟨B10, 0, none⟩ = some (.slice Au ds.length cu) := cell_at (hSx.is (List.mem_cons_of_mem _ (List.mem_cons_of_mem _ (List.mem_cons_of_mem _ (List.mem_cons_of_mem _ List.mem_cons_self))))) 0
          go_simp
          try with_reducible rfl
        try simp only [Act.put, List.setIfInBounds_toArray, List.set_cons_zero, List.set_cons_succ]
        refine wpAnyH_take (i := 33) (oi := ⟨some 73, _, _, _, _, _⟩) (v := ?vrs7_33) rfl (by kernel_rfl) (by kernel_rfl) (by kernel_rfl) (fun _ _ _ h => h) (Or.inl ⟨by rfl, ?yrs7_33⟩) hHeld ?rrs7_33
        case yrs7_33 =>
          intro wx hSx
          go_simp
          try with_reducible rfl
        try simp only [Act.put, List.setIfInBounds_toArray, List.set_cons_zero, List.set_cons_succ]
        refine wpAnyH_take (i := 34) (oi := ⟨some 74, _, _, _, _, _⟩) (v := ?vrs7_34) rfl (by kernel_rfl) (by kernel_rfl) (by kernel_rfl) (fun _ _ _ h => h) (Or.inl ⟨by rfl, ?yrs7_34⟩) hHeld ?rrs7_34
        case yrs7_34 =>
          intro wx hSx
          go_simp
          try with_reducible rfl
        try simp only [Act.put, List.setIfInBounds_toArray, List.set_cons_zero, List.set_cons_succ]
        refine wpAnyH_ready (rs := [31]) (by kernel_rfl) (by simp) ?_
        refine AllReadyH.cons (o := ⟨some 71, _, _, _, _, _⟩) rfl (fun K hK => ?_) AllReadyH.nil
        have HQc := Lib.hid (HFS.out Wr24 _ hHeld (fun _ ht => (List.mem_cons_of_mem _ (List.mem_cons_of_mem _ (List.mem_cons_of_mem _ (List.mem_cons_of_mem _ ht))))) s8 other HUZ HOZ.out)
        go_simp
        refine HQc.out.mono ?_
        rintro e Wr31 ⟨rfl, hk⟩
        refine hK.out _ _ hk (fun hHeld => ?_)
        clear hK K hk HQc
        try simp only [Act.put, List.setIfInBounds_toArray, List.set_cons_zero, List.set_cons_succ]
        refine wpAnyH_ready (rs := [35]) (by kernel_rfl) (by simp) ?_
        refine AllReadyH.cons (o := ⟨some 75, _, _, _, _, _⟩) rfl (fun K hK => ?_) AllReadyH.nil
        have HQc := Lib.hid (HFR.out Wr31 _ hHeld (fun _ ht => (List.mem_cons_of_mem _ (List.mem_cons_of_mem _ (List.mem_cons_of_mem _ (List.mem_cons_of_mem _ ht))))) s8 other)
        go_simp
        refine HQc.out.mono ?_
        rintro e Wr35 ⟨rfl, hk⟩
        refine hK.out _ _ hk (fun hHeld => ?_)
        clear hK K hk HQc
        try simp only [Act.put, List.setIfInBounds_toArray, List.set_cons_zero, List.set_cons_succ]
        refine wpAnyH_take (i := 36) (oi := ⟨some 76, _, _, _, _, _⟩) (v := ?vrs9_36) rfl (by kernel_rfl) (by kernel_rfl) (by kernel_rfl) (fun _ _ _ h => h) (Or.inl ⟨by rfl, ?yrs9_36⟩) hHeld ?rrs9_36
        case yrs9_36 =>
          intro wx hSx
          go_simp
          try with_reducible rfl
        try simp only [Act.put, List.setIfInBounds_toArray, List.set_cons_zero, List.set_cons_succ]
        refine wpAnyH_take (i := 37) (oi := ⟨some 77, _, _, _, _, _⟩) (v := ?vrs9_37) rfl (by kernel_rfl) (by kernel_rfl) (by kernel_rfl) (fun _ _ _ h => h) (Or.inl ⟨by rfl, ?yrs9_37⟩) hHeld ?rrs9_37
        case yrs9_37 =>
          intro wx hSx
          go_simp
          try with_reducible rfl
        try simp only [Act.put, List.setIfInBounds_toArray, List.set_cons_zero, List.set_cons_succ]
        refine wpAnyH_take (i := 38) (oi := ⟨some 78, _, _, _, _, _⟩) (v := ?vrs9_38) rfl (by kernel_rfl) (by kernel_rfl) (by kernel_rfl) (fun _ _ _ h => h) (Or.inl ⟨by rfl, ?yrs9_38⟩) hHeld ?rrs9_38
        case yrs9_38 =>
          intro wx hSx
          go_simp
          try with_reducible rfl
        try simp only [Act.put, List.setIfInBounds_toArray, List.set_cons_zero, List.set_cons_succ]
        refine wpAnyH_take (i := 39) (oi := ⟨some 79, _, _, _, _, _⟩) (v := ?vrs9_39) rfl (by kernel_rfl) (by kernel_rfl) (by kernel_rfl) (fun _ _ _ h => h) (Or.inl ⟨by rfl, ?yrs9_39⟩) hHeld ?rrs9_39
        case yrs9_39 =>
          intro wx hSx
          go_simp
          try with_reducible rfl
        try simp only [Act.put, List.setIfInBounds_toArray, List.set_cons_zero, List.set_cons_succ]
        refine wpAnyH_take (i := 40) (oi := ⟨some 80, _, _, _, _, _⟩) (v := ?vrs9_40) rfl (by kernel_rfl) (by kernel_rfl) (by kernel_rfl) (fun _ _ _ h => h) (Or.inl ⟨by rfl, ?yrs9_40⟩) hHeld ?rrs9_40
        case yrs9_40 =>
          intro wx hSx
          go_simp
          try with_reducible rfl
        try simp only [Act.put, List.setIfInBounds_toArray, List.set_cons_zero, List.set_cons_succ]
        refine wpAnyH_take (i := 41) (oi := ⟨some 81, _, _, _, _, _⟩) (v := ?vrs9_41) rfl (by kernel_rfl) (by kernel_rfl) (by kernel_rfl) (fun _ _ _ h => h) (Or.inl ⟨by rfl, ?yrs9_41⟩) hHeld ?rrs9_41
        case yrs9_41 =>
          intro wx hSx
          go_simp
          try with_reducible rfl
        try simp only [Act.put, List.setIfInBounds_toArray, List.set_cons_zero, List.set_cons_succ]
        refine wpAnyH_take (i := 43) (oi := ⟨some 83, _, _, _, _, _⟩) (v := ?vrs9_43) rfl (by kernel_rfl) (by kernel_rfl) (by kernel_rfl) (fun _ _ _ h => h) (Or.inl ⟨by rfl, ?yrs9_43⟩) hHeld ?rrs9_43
        case yrs9_43 =>
          intro wx hSx
          have z10 : wx.cell? ⟨B10, 0, none⟩ = some (.slice Au ds.length cu) := cell_at (hSx.is (List.mem_cons_of_mem _ (List.mem_cons_of_mem _ (List.mem_cons_of_mem _ (List.mem_cons_of_mem _ List.mem_cons_self))))) 0
          go_simp
          try with_reducible rfl
        try simp only [Act.put, List.setIfInBounds_toArray, List.set_cons_zero, List.set_cons_succ]
        refine wpAnyH_take (i := 44) (oi := ⟨some 84, _, _, _, _, _⟩) (v := ?vrs9_44) rfl (by kernel_rfl) (by kernel_rfl) (by kernel_rfl) (fun _ _ _ h => h) (Or.inl ⟨by rfl, ?yrs9_44⟩) hHeld ?rrs9_44
        case yrs9_44 =>
          intro wx hSx
          go_simp
          try with_reducible rfl
        try simp only [Act.put, List.setIfInBounds_toArray, List.set_cons_zero, List.set_cons_succ]
        refine wpAnyH_ready (rs := [42]) (by kernel_rfl) (by simp) ?_
        refine AllReadyH.cons (o := ⟨some 82, _, _, _, _, _⟩) rfl (fun K hK => ?_) AllReadyH.nil
        have HQc := Lib.hid (HFU.out Wr35 _ hHeld (fun _ ht => (List.mem_cons_of_mem _ (List.mem_cons_of_mem _ (List.mem_cons_of_mem _ (List.mem_cons_of_mem _ ht))))) s8 HUZ)
        go_simp
        refine HQc.out.mono ?_
        rintro e Wr42 ⟨rfl, hk⟩
        refine hK.out _ _ hk (fun hHeld => ?_)
        clear hK K hk HQc
        try simp only [Act.put, List.setIfInBounds_toArray, List.set_cons_zero, List.set_cons_succ]
        refine wpAnyH_ready (rs := [45]) (by kernel_rfl) (by simp) ?_
        refine AllReadyH.cons (o := ⟨some 85, _, _, _, _, _⟩) rfl (fun K hK => ?_) AllReadyH.nil
        have HQc := Lib.hid (HRL.out Wr42 _ hHeld (fun _ ht => (List.mem_cons_of_mem _ (List.mem_cons_of_mem _ (List.mem_cons_of_mem _ (List.mem_cons_of_mem _ ht))))) s8)
        go_simp
        refine HQc.out.mono ?_
        rintro e Wr45 ⟨A45, c45, rfl, hk⟩
        refine hK.out _ _ (hk.less (fun _ ht => List.mem_cons_of_mem _ ht)) (fun hHeld => ?_)
        clear hK K hHeld
        try simp only [Act.put, List.setIfInBounds_toArray, List.set_cons_zero, List.set_cons_succ]
        refine anyH_narrow (S' := fun W => Kv C w W [v] (Th.row LT (.slice A45 (rooms s8).length c45) (rooms s8) :: Th.row LT v11 (peersS s8) :: Th.row LT v5 (rooms s8) :: Th.row LT v2 (rooms s8) :: Th.row LT vp (peersS s8) :: Th.box B10 (.cells #[.slice Au ds.length cu] 28 (0, 0)) :: Th.vw (.slice Au ds.length cu) ds :: [])) (fun _ h => h.less (fun _ ht => List.mem_cons_of_mem _ ht)) _ _ _ _ ?_
        have hHeld := hk
        clear hk HQc
        refine wpAnyH_take (i := 46) (oi := ⟨some 86, _, _, _, _, _⟩) (v := ?vrs11_46) rfl (by kernel_rfl) (by kernel_rfl) (by kernel_rfl) (fun _ _ _ h => h) (Or.inl ⟨by rfl, ?yrs11_46⟩) hHeld ?rrs11_46
        case yrs11_46 =>
          intro wx hSx
          go_simp
          try with_reducible rfl
        try simp only [Act.put, List.setIfInBounds_toArray, List.set_cons_zero, List.set_cons_succ]
        refine wpAnyH_take (i := 47) (oi := ⟨some 87, _, _, _, _, _⟩) (v := ?vrs11_47) rfl (by kernel_rfl) (by kernel_rfl) (by kernel_rfl) (fun _ _ _ h => h) (Or.inl ⟨by rfl, ?yrs11_47⟩) hHeld ?rrs11_47
        case yrs11_47 =>
          intro wx hSx
          go_simp
          try with_reducible rfl
        try simp only [Act.put, List.setIfInBounds_toArray, List.set_cons_zero, List.set_cons_succ]
        refine wpAnyH_take (i := 48) (oi := ⟨some 88, _, _, _, _, _⟩) (v := ?vrs11_48) rfl (by kernel_rfl) (by kernel_rfl) (by kernel_rfl) (fun _ _ _ h => h) (Or.inl ⟨by rfl, ?yrs11_48⟩) hHeld ?rrs11_48
        case yrs11_48 =>
          intro wx hSx
          go_simp
          try with_reducible rfl
        try simp only [Act.put, List.setIfInBounds_toArray, List.set_cons_zero, List.set_cons_succ]
        refine wpAnyH_take (i := 49) (oi := ⟨some 89, _, _, _, _, _⟩) (v := ?vrs11_49) rfl (by kernel_rfl) (by kernel_rfl) (by kernel_rfl) (fun _ _ _ h => h) (Or.inl ⟨by rfl, ?yrs11_49⟩) hHeld ?rrs11_49
        case yrs11_49 =>
          intro wx hSx
          go_simp
          try with_reducible rfl
        try simp only [Act.put, List.setIfInBounds_toArray, List.set_cons_zero, List.set_cons_succ]
        refine wpAnyH_done (by kernel_rfl) ?_ _
        have HKF : Hid (Kv C w Wr45 [v] (Th.row LT vp (peersS s8) :: Th.box B10 (.cells #[.slice Au ds.length cu] 28 (0, 0)) :: Th.vw (.slice Au ds.length cu) ds :: [])) := Lib.hid (hHeld.less (fun _ ht => (List.mem_cons_of_mem _ (List.mem_cons_of_mem _ (List.mem_cons_of_mem _ (List.mem_cons_of_mem _ ht))))))
        clear hHeld
        clear bff
        go_wp2_with fail
        go_at_call 35
        refine (HSO.out _).mono ?_
        rintro e y1 ⟨rfl, b1⟩
        have HY1 := Lib.hid (HKF.out.later b1)
        clear b1 HKF
        go_wp2_with fail
        go_at_call 43
        refine (HSC.out _ _ HY1.out (fun _ ht => List.mem_cons_of_mem _ ht) s8 srv HUZ).mono ?_
        rintro e y2 ⟨rfl, hk⟩
        have HY2 := Lib.hid hk
        clear hk HY1
        go_wp2_with fail
        go_at_call 35
        refine (HSO.out _).mono ?_
        rintro e y3 ⟨rfl, b1⟩
        have HY3 := Lib.hid (HY2.out.later b1)
        clear b1 HY2
        go_wp2_with fail
        go_at_call 36
        refine (HHA.out _ _ vp s8 srv HY3.out List.mem_cons_self).mono ?_
        rintro e y4 ⟨rfl, hk⟩
        have HY4 := Lib.hid hk
        clear hk HY3
        go_wp2_with fail
        go_at_call 43
        refine (HSC.out _ _ HY4.out (fun _ ht => List.mem_cons_of_mem _ ht) s8 s8 HUZ).mono ?_
        rintro e y5 ⟨rfl, hk⟩
        have HY5 := Lib.hid hk
        clear hk HY4
        go_wp2_with fail
        go_at_call 36
        refine (HHA.out _ _ vp s8 s8 HY5.out List.mem_cons_self).mono ?_
        rintro e y6 ⟨rfl, hk⟩
        have HY6 := Lib.hid (hk.less (ts' := Th.box B10 (.cells #[.slice Au ds.length cu] 28 (0, 0)) :: Th.vw (.slice Au ds.length cu) ds :: []) (fun _ ht => List.mem_cons_of_mem _ ht))
        clear hk HY5
        go_wp2_with fail
        refine ⟨⟨a + 1, by go_num, by omega, HY6⟩, ?_⟩
        simp [intOf]; omega
      · have q3 : ((a : Int) == 9) = false := by rw [beq_eq_false_iff_ne]; omega
        have HUZ : un.size ≤ maxLen := HEZ.out
        have bff : ∀ b : Bool, (b != b) = false := fun b => by cases b <;> rfl
        have q9 := bff (fr un other)
        have q10 := bff (decide (0 < ((rooms un).length : Int)))
        have q11 := bff (sh un srv)
        have q12 := bff (sh un s8)
        go_upto_region 11 with (fail)
        go_wp2_with fail
        go_at_call 32
        refine (HUO.out _).mono ?_
        rintro e x1 ⟨rfl, b1⟩
        have HX1 := Lib.hid (HK4.out.later b1)
        clear b1 HK4
        have z1 : x1.cell? ⟨B10, 0, none⟩ = some (.slice Au ds.length cu) := cell_at (HX1.out.is List.mem_cons_self) 0
        go_wp2_with fail
        go_at_call 37
        refine (HPR.out _ _ HX1.out (fun _ ht => ht) un).mono ?_
        rintro e x2 ⟨vp, rfl, hk⟩
        have HX2 : Hid (Kv C w x2 [v] (Th.row LT vp (peersS un) :: Th.box B10 (.cells #[.slice Au ds.length cu] 28 (0, 0)) :: Th.vw (.slice Au ds.length cu) ds :: [])) := Lib.hid hk
        clear hk HX1 z1
        go_upto_region 13 with (fail)
        refine wp_region_held_drew (S := fun W => Kv C w W [v] (Th.row LT vp (peersS un) :: Th.box B10 (.cells #[.slice Au ds.length cu] 28 (0, 0)) :: Th.vw (.slice Au ds.length cu) ds :: [])) (by kernel_rfl) (HX2.out.later (below_drew _)) (fun hHeld => ?_)
        clear HX2
        generalize World.drew _ = wd at hHeld ⊢
        refine wpAnyH_take (i := 0) (oi := ⟨some 40, _, _, _, _, _⟩) (v := ?vus0_0) rfl (by kernel_rfl) (by kernel_rfl) (by kernel_rfl) (fun _ _ _ h => h) (Or.inl ⟨by rfl, ?yus0_0⟩) hHeld ?rus0_0
        case yus0_0 =>
          intro wx hSx
          go_simp
          try with_reducible rfl
        try simp only [Act.put, List.setIfInBounds_toArray, List.set_cons_zero, List.set_cons_succ]
        refine wpAnyH_take (i := 1) (oi := ⟨some 41, _, _, _, _, _⟩) (v := ?vus0_1) rfl (by kernel_rfl) (by kernel_rfl) (by kernel_rfl) (fun _ _ _ h => h) (Or.inl ⟨by rfl, ?yus0_1⟩) hHeld ?rus0_1
        case yus0_1 =>
          intro wx hSx
          go_simp
          try with_reducible rfl
        try simp only [Act.put, List.setIfInBounds_toArray, List.set_cons_zero, List.set_cons_succ]
        refine wpAnyH_take (i := 3) (oi := ⟨some 43, _, _, _, _, _⟩) (v := ?vus0_3) rfl (by kernel_rfl) (by kernel_rfl) (by kernel_rfl) (fun _ _ _ h => h) (Or.inl ⟨by rfl, ?yus0_3⟩) hHeld ?rus0_3
        case yus0_3 =>
          intro wx hSx
          have z10 : wx.cell? ⟨B10, 0, none⟩ = some (.slice Au ds.length cu) := cell_at (hSx.is (List.mem_cons_of_mem _ List.mem_cons_self)) 0
          go_simp
          try with_reducible rfl
        try simp only [Act.put, List.setIfInBounds_toArray, List.set_cons_zero, List.set_cons_succ]
        refine wpAnyH_take (i := 4) (oi := ⟨some 44, _, _, _, _, _⟩) (v := ?vus0_4) rfl (by kernel_rfl) (by kernel_rfl) (by kernel_rfl) (fun _ _ _ h => h) (Or.inl ⟨by rfl, ?yus0_4⟩) hHeld ?rus0_4
        case yus0_4 =>
          intro wx hSx
          go_simp
          try with_reducible rfl
        try simp only [Act.put, List.setIfInBounds_toArray, List.set_cons_zero, List.set_cons_succ]
        refine wpAnyH_ready (rs := [2]) (by kernel_rfl) (by simp) ?_
        refine AllReadyH.cons (o := ⟨some 42, _, _, _, _, _⟩) rfl (fun K hK => ?_) AllReadyH.nil
        have HQc := Lib.hid (HRO.out wd _ hHeld (fun _ ht => (List.mem_cons_of_mem _ ht)) un HUZ)
        go_simp
        refine HQc.out.mono ?_
        rintro e Wu2 ⟨v2, rfl, hk⟩
        refine hK.out _ _ (hk.less (fun _ ht => List.mem_cons_of_mem _ ht)) (fun hHeld => ?_)
        clear hK K hHeld
        try simp only [Act.put, List.setIfInBounds_toArray, List.set_cons_zero, List.set_cons_succ]
        refine anyH_narrow (S' := fun W => Kv C w W [v] (Th.row LT v2 (rooms un) :: Th.row LT vp (peersS un) :: Th.box B10 (.cells #[.slice Au ds.length cu] 28 (0, 0)) :: Th.vw (.slice Au ds.length cu) ds :: [])) (fun _ h => h.less (fun _ ht => List.mem_cons_of_mem _ ht)) _ _ _ _ ?_
        have hHeld := hk
        clear hk HQc
        refine wpAnyH_ready (rs := [5]) (by kernel_rfl) (by simp) ?_
        refine AllReadyH.cons (o := ⟨some 45, _, _, _, _, _⟩) rfl (fun K hK => ?_) AllReadyH.nil
        have HQc := Lib.hid (HRR.out Wu2 _ hHeld (fun _ ht => (List.mem_cons_of_mem _ (List.mem_cons_of_mem _ ht))) un)
        go_simp
        refine HQc.out.mono ?_
        rintro e Wu5 ⟨v5, rfl, hk⟩
        refine hK.out _ _ (hk.less (fun _ ht => List.mem_cons_of_mem _ ht)) (fun hHeld => ?_)
        clear hK K hHeld
        try simp only [Act.put, List.setIfInBounds_toArray, List.set_cons_zero, List.set_cons_succ]
        refine anyH_narrow (S' := fun W => Kv C w W [v] (Th.row LT v5 (rooms un) :: Th.row LT v2 (rooms un) :: Th.row LT vp (peersS un) :: Th.box B10 (.cells #[.slice Au ds.length cu] 28 (0, 0)) :: Th.vw (.slice Au ds.length cu) ds :: [])) (fun _ h => h.less (fun _ ht => List.mem_cons_of_mem _ ht)) _ _ _ _ ?_
        have hHeld := hk
        clear hk HQc
        refine wpAnyH_ready (rs := [6]) (by kernel_rfl) (by simp) ?_
        refine AllReadyH.cons (o := ⟨some 46, _, _, _, _, _⟩) rfl (fun K hK => ?_) AllReadyH.nil
        have HQc := Lib.hid (HST.out Wu5 _ v2 v5 (rooms un) hHeld (List.mem_cons_of_mem _ List.mem_cons_self) List.mem_cons_self)
        go_simp
        refine HQc.out.mono ?_
        rintro e Wu6 ⟨rfl, hk⟩
        refine hK.out _ _ hk (fun hHeld => ?_)
        clear hK K hk HQc
        try simp only [Act.put, List.setIfInBounds_toArray, List.set_cons_zero, List.set_cons_succ]
        refine wpAnyH_take (i := 7) (oi := ⟨some 47, _, _, _, _, _⟩) (v := ?vus3_7) rfl (by kernel_rfl) (by kernel_rfl) (by kernel_rfl) (fun _ _ _ h => h) (Or.inl ⟨by rfl, ?yus3_7⟩) hHeld ?rus3_7
        case yus3_7 =>
          intro wx hSx
          go_simp
          try with_reducible rfl
        try simp only [Act.put, List.setIfInBounds_toArray, List.set_cons_zero, List.set_cons_succ]
        refine wpAnyH_take (i := 8) (oi := ⟨some 48, _, _, _, _, _⟩) (v := ?vus3_8) rfl (by kernel_rfl) (by kernel_rfl) (by kernel_rfl) (fun _ _ _ h => h) (Or.inl ⟨by rfl, ?yus3_8⟩) hHeld ?rus3_8
        case yus3_8 =>
          intro wx hSx
          go_simp
          try with_reducible rfl
        try simp only [Act.put, List.setIfInBounds_toArray, List.set_cons_zero, List.set_cons_succ]
        refine wpAnyH_take (i := 9) (oi := ⟨some 49, _, _, _, _, _⟩) (v := ?vus3_9) rfl (by kernel_rfl) (by kernel_rfl) (by kernel_rfl) (fun _ _ _ h => h) (Or.inl ⟨by rfl, ?yus3_9⟩) hHeld ?rus3_9
        case yus3_9 =>
          intro wx hSx
          go_simp
          try with_reducible rfl
        try simp only [Act.put, List.setIfInBounds_toArray, List.set_cons_zero, List.set_cons_succ]
        refine wpAnyH_take (i := 10) (oi := ⟨some 50, _, _, _, _, _⟩) (v := ?vus3_10) rfl (by kernel_rfl) (by kernel_rfl) (by kernel_rfl) (fun _ _ _ h => h) (Or.inl ⟨by rfl, ?yus3_10⟩) hHeld ?rus3_10
        case yus3_10 =>
          intro wx hSx
          go_simp
          try with_reducible rfl
        try simp only [Act.put, List.setIfInBounds_toArray, List.set_cons_zero, List.set_cons_succ]
        refine wpAnyH_take (i := 12) (oi := ⟨some 52, _, _, _, _, _⟩) (v := ?vus3_12) rfl (by kernel_rfl) (by kernel_rfl) (by kernel_rfl) (fun _ _ _ h => h) (Or.inl ⟨by rfl, ?yus3_12⟩) hHeld ?rus3_12
        case yus3_12 =>
          intro wx hSx
          go_simp
          try with_reducible rfl
        try simp only [Act.put, List.setIfInBounds_toArray, List.set_cons_zero, List.set_cons_succ]
        refine wpAnyH_ready (rs := [11]) (by kernel_rfl) (by simp) ?_
        refine AllReadyH.cons (o := ⟨some 51, _, _, _, _, _⟩) rfl (fun K hK => ?_) AllReadyH.nil
        have HQc := Lib.hid (HPE.out Wu6 _ hHeld (fun _ ht => (List.mem_cons_of_mem _ (List.mem_cons_of_mem _ (List.mem_cons_of_mem _ ht)))) un HUZ)
        go_simp
        refine HQc.out.mono ?_
        rintro e Wu11 ⟨v11, rfl, hk⟩
        refine hK.out _ _ (hk.less (fun _ ht => List.mem_cons_of_mem _ ht)) (fun hHeld => ?_)
        clear hK K hHeld
        try simp only [Act.put, List.setIfInBounds_toArray, List.set_cons_zero, List.set_cons_succ]
        refine anyH_narrow (S' := fun W => Kv C w W [v] (Th.row LT v11 (peersS un) :: Th.row LT v5 (rooms un) :: Th.row LT v2 (rooms un) :: Th.row LT vp (peersS un) :: Th.box B10 (.cells #[.slice Au ds.length cu] 28 (0, 0)) :: Th.vw (.slice Au ds.length cu) ds :: [])) (fun _ h => h.less (fun _ ht => List.mem_cons_of_mem _ ht)) _ _ _ _ ?_
        have hHeld := hk
        clear hk HQc
        refine wpAnyH_ready (rs := [13]) (by kernel_rfl) (by simp) ?_
        refine AllReadyH.cons (o := ⟨some 53, _, _, _, _, _⟩) rfl (fun K hK => ?_) AllReadyH.nil
        have HQc := Lib.hid (HST.out Wu11 _ v11 vp (peersS un) hHeld List.mem_cons_self (List.mem_cons_of_mem _ (List.mem_cons_of_mem _ (List.mem_cons_of_mem _ List.mem_cons_self))))
        go_simp
        refine HQc.out.mono ?_
        rintro e Wu13 ⟨rfl, hk⟩
        refine hK.out _ _ hk (fun hHeld => ?_)
        clear hK K hk HQc
        try simp only [Act.put, List.setIfInBounds_toArray, List.set_cons_zero, List.set_cons_succ]
        refine wpAnyH_take (i := 14) (oi := ⟨some 54, _, _, _, _, _⟩) (v := ?vus5_14) rfl (by kernel_rfl) (by kernel_rfl) (by kernel_rfl) (fun _ _ _ h => h) (Or.inl ⟨by rfl, ?yus5_14⟩) hHeld ?rus5_14
        case yus5_14 =>
          intro wx hSx
          go_simp
          try with_reducible rfl
        try simp only [Act.put, List.setIfInBounds_toArray, List.set_cons_zero, List.set_cons_succ]
        refine wpAnyH_take (i := 15) (oi := ⟨some 55, _, _, _, _, _⟩) (v := ?vus5_15) rfl (by kernel_rfl) (by kernel_rfl) (by kernel_rfl) (fun _ _ _ h => h) (Or.inl ⟨by rfl, ?yus5_15⟩) hHeld ?rus5_15
        case yus5_15 =>
          intro wx hSx
          go_simp
          try with_reducible rfl
        try simp only [Act.put, List.setIfInBounds_toArray, List.set_cons_zero, List.set_cons_succ]
        refine wpAnyH_take (i := 16) (oi := ⟨some 56, _, _, _, _, _⟩) (v := ?vus5_16) rfl (by kernel_rfl) (by kernel_rfl) (by kernel_rfl) (fun _ _ _ h => h) (Or.inl ⟨by rfl, ?yus5_16⟩) hHeld ?rus5_16
        case yus5_16 =>
          intro wx hSx
          go_simp
          try with_reducible rfl
        try simp only [Act.put, List.setIfInBounds_toArray, List.set_cons_zero, List.set_cons_succ]
        refine wpAnyH_take (i := 17) (oi := ⟨some 57, _, _, _, _, _⟩) (v := ?vus5_17) rfl (by kernel_rfl) (by kernel_rfl) (by kernel_rfl) (fun _ _ _ h => h) (Or.inl ⟨by rfl, ?yus5_17⟩) hHeld ?rus5_17
        case yus5_17 =>
          intro wx hSx
          go_simp
          try with_reducible rfl
        try simp only [Act.put, List.setIfInBounds_toArray, List.set_cons_zero, List.set_cons_succ]
        refine wpAnyH_take (i := 18) (oi := ⟨some 58, _, _, _, _, _⟩) (v := ?vus5_18) rfl (by kernel_rfl) (by kernel_rfl) (by kernel_rfl) (fun _ _ _ h => h) (Or.inl ⟨by rfl, ?yus5_18⟩) hHeld ?rus5_18
        case yus5_18 =>
          intro wx hSx
          go_simp
          try with_reducible rfl
        try simp only [Act.put, List.setIfInBounds_toArray, List.set_cons_zero, List.set_cons_succ]
        refine wpAnyH_take (i := 19) (oi := ⟨some 59, _, _, _, _, _⟩) (v := ?vus5_19) rfl (by kernel_rfl) (by kernel_rfl) (by kernel_rfl) (fun _ _ _ h => h) (Or.inl ⟨by rfl, ?yus5_19⟩) hHeld ?rus5_19
        case yus5_19 =>
          intro wx hSx
          go_simp
          try with_reducible rfl
        try simp only [Act.put, List.setIfInBounds_toArray, List.set_cons_zero, List.set_cons_succ]
        refine wpAnyH_take (i := 21) (oi := ⟨some 61, _, _, _, _, _⟩) (v := ?vus5_21) rfl (by kernel_rfl) (by kernel_rfl) (by kernel_rfl) (fun _ _ _ h => h) (Or.inl ⟨by rfl, ?yus5_21⟩) hHeld ?rus5_21
        case yus5_21 =>
          intro wx hSx
          have z10 : wx.cell? ⟨B10, 0, none⟩ = some (.slice Au ds.length cu) := cell_at (hSx.is (List.mem_cons_of_mem _ (List.mem_cons_of_mem _ (List.mem_cons_of_mem _ (List.mem_cons_of_mem _ List.mem_cons_self))))) 0
          go_simp
          try with_reducible rfl
        try simp only [Act.put, List.setIfInBounds_toArray, List.set_cons_zero, List.set_cons_succ]
        refine wpAnyH_take (i := 22) (oi := ⟨some 62, _, _, _, _, _⟩) (v := ?vus5_22) rfl (by kernel_rfl) (by kernel_rfl) (by kernel_rfl) (fun _ _ _ h => h) (Or.inl ⟨by rfl, ?yus5_22⟩) hHeld ?rus5_22
        case yus5_22 =>
          intro wx hSx
          go_simp
          try with_reducible rfl
        try simp only [Act.put, List.setIfInBounds_toArray, List.set_cons_zero, List.set_cons_succ]
        refine wpAnyH_take (i := 23) (oi := ⟨some 63, _, _, _, _, _⟩) (v := ?vus5_23) rfl (by kernel_rfl) (by kernel_rfl) (by kernel_rfl) (fun _ _ _ h => h) (Or.inl ⟨by rfl, ?yus5_23⟩) hHeld ?rus5_23
        case yus5_23 =>
          intro wx hSx
          go_simp
          try with_reducible rfl
        try simp only [Act.put, List.setIfInBounds_toArray, List.set_cons_zero, List.set_cons_succ]
        refine wpAnyH_ready (rs := [20]) (by kernel_rfl) (by simp) ?_
        refine AllReadyH.cons (o := ⟨some 60, _, _, _, _, _⟩) rfl (fun K hK => ?_) AllReadyH.nil
        have HQc := Lib.hid (HFC.out Wu13 _ hHeld (fun _ ht => (List.mem_cons_of_mem _ (List.mem_cons_of_mem _ (List.mem_cons_of_mem _ (List.mem_cons_of_mem _ ht))))) un other HUZ HOZ.out)
        go_simp
        refine HQc.out.mono ?_
        rintro e Wu20 ⟨rfl, hk⟩
        refine hK.out _ _ hk (fun hHeld => ?_)
        clear hK K hk HQc
        try simp only [Act.put, List.setIfInBounds_toArray, List.set_cons_zero, List.set_cons_succ]
        refine wpAnyH_ready (rs := [24]) (by kernel_rfl) (by simp) ?_
        refine AllReadyH.cons (o := ⟨some 64, _, _, _, _, _⟩) rfl (fun K hK => ?_) AllReadyH.nil
        have HQc := Lib.hid (HFR.out Wu20 _ hHeld (fun _ ht => (List.mem_cons_of_mem _ (List.mem_cons_of_mem _ (List.mem_cons_of_mem _ (List.mem_cons_of_mem _ ht))))) un other)
        go_simp
        refine HQc.out.mono ?_
        rintro e Wu24 ⟨rfl, hk⟩
        refine hK.out _ _ hk (fun hHeld => ?_)
        clear hK K hk HQc
        try simp only [Act.put, List.setIfInBounds_toArray, List.set_cons_zero, List.set_cons_succ]
        refine wpAnyH_take (i := 25) (oi := ⟨some 65, _, _, _, _, _⟩) (v := ?vus7_25) rfl (by kernel_rfl) (by kernel_rfl) (by kernel_rfl) (fun _ _ _ h => h) (Or.inl ⟨by rfl, ?yus7_25⟩) hHeld ?rus7_25
        case yus7_25 =>
          intro wx hSx
          go_simp
          try with_reducible rfl
        try simp only [Act.put, List.setIfInBounds_toArray, List.set_cons_zero, List.set_cons_succ]
        refine wpAnyH_take (i := 26) (oi := ⟨some 66, _, _, _, _, _⟩) (v := ?vus7_26) rfl (by kernel_rfl) (by kernel_rfl) (by kernel_rfl) (fun _ _ _ h => h) (Or.inl ⟨by rfl, ?yus7_26⟩) hHeld ?rus7_26
        case yus7_26 =>
          intro wx hSx
          go_simp
          try with_reducible rfl
        try simp only [Act.put, List.setIfInBounds_toArray, List.set_cons_zero, List.set_cons_succ]
        refine wpAnyH_take (i := 27) (oi := ⟨some 67, _, _, _, _, _⟩) (v := ?vus7_27) rfl (by kernel_rfl) (by kernel_rfl) (by kernel_rfl) (fun _ _ _ h => h) (Or.inl ⟨by rfl, ?yus7_27⟩) hHeld ?rus7_27
        case yus7_27 =>
          intro wx hSx
          go_simp
          try with_reducible rfl
        try simp only [Act.put, List.setIfInBounds_toArray, List.set_cons_zero, List.set_cons_succ]
        refine wpAnyH_take (i := 28) (oi := ⟨some 68, _, _, _, _, _⟩) (v := ?vus7_28) rfl (by kernel_rfl) (by kernel_rfl) (by kernel_rfl) (fun _ _ _ h => h) (Or.inl ⟨by rfl, ?yus7_28⟩) hHeld ?rus7_28
        case yus7_28 =>
          intro wx hSx
          go_simp
          try with_reducible rfl
        try simp only [Act.put, List.setIfInBounds_toArray, List.set_cons_zero, List.set_cons_succ]
        refine wpAnyH_take (i := 29) (oi := ⟨some 69, _, _, _, _, _⟩) (v := ?vus7_29) rfl (by kernel_rfl) (by kernel_rfl) (by kernel_rfl) (fun _ _ _ h => h) (Or.inl ⟨by rfl, ?yus7_29⟩) hHeld ?rus7_29
        case yus7_29 =>
          intro wx hSx
          go_simp
          try with_reducible rfl
        try simp only [Act.put, List.setIfInBounds_toArray, List.set_cons_zero, List.set_cons_succ]
        refine wpAnyH_take (i := 30) (oi := ⟨some 70, _, _, _, _, _⟩) (v := ?vus7_30) rfl (by kernel_rfl) (by kernel_rfl) (by kernel_rfl) (fun _ _ _ h => h) (Or.inl ⟨by rfl, ?yus7_30⟩) hHeld ?rus7_30
        case yus7_30 =>
          intro wx hSx
          go_simp
          try with_reducible rfl
        try simp only [Act.put, List.setIfInBounds_toArray, List.set_cons_zero, List.set_cons_succ]
        refine wpAnyH_take (i := 32) (oi := ⟨some 72, _, _, _, _, _⟩) (v := ?vus7_32) rfl (by kernel_rfl) (by kernel_rfl) (by kernel_rfl) (fun _ _ _ h => h) (Or.inl ⟨by rfl, ?yus7_32⟩) hHeld ?rus7_32
        case yus7_32 =>
          intro wx hSx
          have z10 : wx.cell? ⟨B10, 0, none⟩ = some (.slice Au ds.length cu) := cell_at (hSx.is (List.mem_cons_of_mem _ (List.mem_cons_of_mem _ (List.mem_cons_of_mem _ (List.mem_cons_of_mem _ List.mem_cons_self))))) 0
          go_simp
          try with_reducible rfl
        try simp only [Act.put, List.setIfInBounds_toArray, List.set_cons_zero, List.set_cons_succ]
        refine wpAnyH_take (i := 33) (oi := ⟨some 73, _, _, _, _, _⟩) (v := ?vus7_33) rfl (by kernel_rfl) (by kernel_rfl) (by kernel_rfl) (fun _ _ _ h => h) (Or.inl ⟨by rfl, ?yus7_33⟩) hHeld ?rus7_33
        case yus7_33 =>
          intro wx hSx
          go_simp
          try with_reducible rfl
        try simp only [Act.put, List.setIfInBounds_toArray, List.set_cons_zero, List.set_cons_succ]
        refine wpAnyH_take (i := 34) (oi := ⟨some 74, _, _, _, _, _⟩) (v := ?vus7_34) rfl (by kernel_rfl) (by kernel_rfl) (by kernel_rfl) (fun _ _ _ h => h) (Or.inl ⟨by rfl, ?yus7_34⟩) hHeld ?rus7_34
        case yus7_34 =>
          intro wx hSx
          go_simp
          try with_reducible rfl
        try simp only [Act.put, List.setIfInBounds_toArray, List.set_cons_zero, List.set_cons_succ]
        refine wpAnyH_ready (rs := [31]) (by kernel_rfl) (by simp) ?_
        refine AllReadyH.cons (o := ⟨some 71, _, _, _, _, _⟩) rfl (fun K hK => ?_) AllReadyH.nil
        have HQc := Lib.hid (HFS.out Wu24 _ hHeld (fun _ ht => (List.mem_cons_of_mem _ (List.mem_cons_of_mem _ (List.mem_cons_of_mem _ (List.mem_cons_of_mem _ ht))))) un other HUZ HOZ.out)
        go_simp
        refine HQc.out.mono ?_
        rintro e Wu31 ⟨rfl, hk⟩
        refine hK.out _ _ hk (fun hHeld => ?_)
        clear hK K hk HQc
        try simp only [Act.put, List.setIfInBounds_toArray, List.set_cons_zero, List.set_cons_succ]
        refine wpAnyH_ready (rs := [35]) (by kernel_rfl) (by simp) ?_
        refine AllReadyH.cons (o := ⟨some 75, _, _, _, _, _⟩) rfl (fun K hK => ?_) AllReadyH.nil
        have HQc := Lib.hid (HFR.out Wu31 _ hHeld (fun _ ht => (List.mem_cons_of_mem _ (List.mem_cons_of_mem _ (List.mem_cons_of_mem _ (List.mem_cons_of_mem _ ht))))) un other)
        go_simp
        refine HQc.out.mono ?_
        rintro e Wu35 ⟨rfl, hk⟩
        refine hK.out _ _ hk (fun hHeld => ?_)
        clear hK K hk HQc
        try simp only [Act.put, List.setIfInBounds_toArray, List.set_cons_zero, List.set_cons_succ]
        refine wpAnyH_take (i := 36) (oi := ⟨some 76, _, _, _, _, _⟩) (v := ?vus9_36) rfl (by kernel_rfl) (by kernel_rfl) (by kernel_rfl) (fun _ _ _ h => h) (Or.inl ⟨by rfl, ?yus9_36⟩) hHeld ?rus9_36
        case yus9_36 =>
          intro wx hSx
          go_simp
          try with_reducible rfl
        try simp only [Act.put, List.setIfInBounds_toArray, List.set_cons_zero, List.set_cons_succ]
        refine wpAnyH_take (i := 37) (oi := ⟨some 77, _, _, _, _, _⟩) (v := ?vus9_37) rfl (by kernel_rfl) (by kernel_rfl) (by kernel_rfl) (fun _ _ _ h => h) (Or.inl ⟨by rfl, ?yus9_37⟩) hHeld ?rus9_37
        case yus9_37 =>
          intro wx hSx
          go_simp
          try with_reducible rfl
        try simp only [Act.put, List.setIfInBounds_toArray, List.set_cons_zero, List.set_cons_succ]
        refine wpAnyH_take (i := 38) (oi := ⟨some 78, _, _, _, _, _⟩) (v := ?vus9_38) rfl (by kernel_rfl) (by kernel_rfl) (by kernel_rfl) (fun _ _ _ h => h) (Or.inl ⟨by rfl, ?yus9_38⟩) hHeld ?rus9_38
        case yus9_38 =>
          intro wx hSx
          go_simp
          try with_reducible rfl
        try simp only [Act.put, List.setIfInBounds_toArray, List.set_cons_zero, List.set_cons_succ]
        refine wpAnyH_take (i := 39) (oi := ⟨some 79, _, _, _, _, _⟩) (v := ?vus9_39) rfl (by kernel_rfl) (by kernel_rfl) (by kernel_rfl) (fun _ _ _ h => h) (Or.inl ⟨by rfl, ?yus9_39⟩) hHeld ?rus9_39
        case yus9_39 =>
          intro wx hSx
          go_simp
          try with_reducible rfl
        try simp only [Act.put, List.setIfInBounds_toArray, List.set_cons_zero, List.set_cons_succ]
        refine wpAnyH_take (i := 40) (oi := ⟨some 80, _, _, _, _, _⟩) (v := ?vus9_40) rfl (by kernel_rfl) (by kernel_rfl) (by kernel_rfl) (fun _ _ _ h => h) (Or.inl ⟨by rfl, ?yus9_40⟩) hHeld ?rus9_40
        case yus9_40 =>
          intro wx hSx
          go_simp
          try with_reducible rfl
        try simp only [Act.put, List.setIfInBounds_toArray, List.set_cons_zero, List.set_cons_succ]
        refine wpAnyH_take (i := 41) (oi := ⟨some 81, _, _, _, _, _⟩) (v := ?vus9_41) rfl (by kernel_rfl) (by kernel_rfl) (by kernel_rfl) (fun _ _ _ h => h) (Or.inl ⟨by rfl, ?yus9_41⟩) hHeld ?rus9_41
        case yus9_41 =>
          intro wx hSx
          go_simp
          try with_reducible rfl
        try simp only [Act.put, List.setIfInBounds_toArray, List.set_cons_zero, List.set_cons_succ]
        refine wpAnyH_take (i := 43) (oi := ⟨some 83, _, _, _, _, _⟩) (v := ?vus9_43) rfl (by kernel_rfl) (by kernel_rfl) (by kernel_rfl) (fun _ _ _ h => h) (Or.inl ⟨by rfl, ?yus9_43⟩) hHeld ?rus9_43
        case yus9_43 =>
          intro wx hSx
          have z10 : wx.cell? ⟨B10, 0, none⟩ = some (.slice Au ds.length cu) := cell_at (hSx.is (List.mem_cons_of_mem _ (List.mem_cons_of_mem _ (List.mem_cons_of_mem _ (List.mem_cons_of_mem _ List.mem_cons_self))))) 0
          go_simp
          try with_reducible rfl
        try simp only [Act.put, List.setIfInBounds_toArray, List.set_cons_zero, List.set_cons_succ]
        refine wpAnyH_take (i := 44) (oi := ⟨some 84, _, _, _, _, _⟩) (v := ?vus9_44) rfl (by kernel_rfl) (by kernel_rfl) (by kernel_rfl) (fun _ _ _ h => h) (Or.inl ⟨by rfl, ?yus9_44⟩) hHeld ?rus9_44
        case yus9_44 =>
          intro wx hSx
          go_simp
          try with_reducible rfl
        try simp only [Act.put, List.setIfInBounds_toArray, List.set_cons_zero, List.set_cons_succ]
        refine wpAnyH_ready (rs := [42]) (by kernel_rfl) (by simp) ?_
        refine AllReadyH.cons (o := ⟨some 82, _, _, _, _, _⟩) rfl (fun K hK => ?_) AllReadyH.nil
        have HQc := Lib.hid (HFU.out Wu35 _ hHeld (fun _ ht => (List.mem_cons_of_mem _ (List.mem_cons_of_mem _ (List.mem_cons_of_mem _ (List.mem_cons_of_mem _ ht))))) un HUZ)
        go_simp
        refine HQc.out.mono ?_
        rintro e Wu42 ⟨rfl, hk⟩
        refine hK.out _ _ hk (fun hHeld => ?_)
        clear hK K hk HQc
        try simp only [Act.put, List.setIfInBounds_toArray, List.set_cons_zero, List.set_cons_succ]
        refine wpAnyH_ready (rs := [45]) (by kernel_rfl) (by simp) ?_
        refine AllReadyH.cons (o := ⟨some 85, _, _, _, _, _⟩) rfl (fun K hK => ?_) AllReadyH.nil
        have HQc := Lib.hid (HRL.out Wu42 _ hHeld (fun _ ht => (List.mem_cons_of_mem _ (List.mem_cons_of_mem _ (List.mem_cons_of_mem _ (List.mem_cons_of_mem _ ht))))) un)
        go_simp
        refine HQc.out.mono ?_
        rintro e Wu45 ⟨A45, c45, rfl, hk⟩
        refine hK.out _ _ (hk.less (fun _ ht => List.mem_cons_of_mem _ ht)) (fun hHeld => ?_)
        clear hK K hHeld
        try simp only [Act.put, List.setIfInBounds_toArray, List.set_cons_zero, List.set_cons_succ]
        refine anyH_narrow (S' := fun W => Kv C w W [v] (Th.row LT (.slice A45 (rooms un).length c45) (rooms un) :: Th.row LT v11 (peersS un) :: Th.row LT v5 (rooms un) :: Th.row LT v2 (rooms un) :: Th.row LT vp (peersS un) :: Th.box B10 (.cells #[.slice Au ds.length cu] 28 (0, 0)) :: Th.vw (.slice Au ds.length cu) ds :: [])) (fun _ h => h.less (fun _ ht => List.mem_cons_of_mem _ ht)) _ _ _ _ ?_
        have hHeld := hk
        clear hk HQc
        refine wpAnyH_take (i := 46) (oi := ⟨some 86, _, _, _, _, _⟩) (v := ?vus11_46) rfl (by kernel_rfl) (by kernel_rfl) (by kernel_rfl) (fun _ _ _ h => h) (Or.inl ⟨by rfl, ?yus11_46⟩) hHeld ?rus11_46
        case yus11_46 =>
          intro wx hSx
          go_simp
          try with_reducible rfl
        try simp only [Act.put, List.setIfInBounds_toArray, List.set_cons_zero, List.set_cons_succ]
        refine wpAnyH_take (i := 47) (oi := ⟨some 87, _, _, _, _, _⟩) (v := ?vus11_47) rfl (by kernel_rfl) (by kernel_rfl) (by kernel_rfl) (fun _ _ _ h => h) (Or.inl ⟨by rfl, ?yus11_47⟩) hHeld ?rus11_47
        case yus11_47 =>
          intro wx hSx
          go_simp
          try with_reducible rfl
        try simp only [Act.put, List.setIfInBounds_toArray, List.set_cons_zero, List.set_cons_succ]
        refine wpAnyH_take (i := 48) (oi := ⟨some 88, _, _, _, _, _⟩) (v := ?vus11_48) rfl (by kernel_rfl) (by kernel_rfl) (by kernel_rfl) (fun _ _ _ h => h) (Or.inl ⟨by rfl, ?yus11_48⟩) hHeld ?rus11_48
        case yus11_48 =>
          intro wx hSx
          go_simp
          try with_reducible rfl
        try simp only [Act.put, List.setIfInBounds_toArray, List.set_cons_zero, List.set_cons_succ]
        refine wpAnyH_take (i := 49) (oi := ⟨some 89, _, _, _, _, _⟩) (v := ?vus11_49) rfl (by kernel_rfl) (by kernel_rfl) (by kernel_rfl) (fun _ _ _ h => h) (Or.inl ⟨by rfl, ?yus11_49⟩) hHeld ?rus11_49
        case yus11_49 =>
          intro wx hSx
          go_simp
          try with_reducible rfl
        try simp only [Act.put, List.setIfInBounds_toArray, List.set_cons_zero, List.set_cons_succ]
        refine wpAnyH_done (by kernel_rfl) ?_ _
        have HKF : Hid (Kv C w Wu45 [v] (Th.row LT vp (peersS un) :: Th.box B10 (.cells #[.slice Au ds.length cu] 28 (0, 0)) :: Th.vw (.slice Au ds.length cu) ds :: [])) := Lib.hid (hHeld.less (fun _ ht => (List.mem_cons_of_mem _ (List.mem_cons_of_mem _ (List.mem_cons_of_mem _ (List.mem_cons_of_mem _ ht))))))
        clear hHeld
        clear bff
        go_wp2_with fail
        go_at_call 35
        refine (HSO.out _).mono ?_
        rintro e y1 ⟨rfl, b1⟩
        have HY1 := Lib.hid (HKF.out.later b1)
        clear b1 HKF
        go_wp2_with fail
        go_at_call 43
        refine (HSC.out _ _ HY1.out (fun _ ht => List.mem_cons_of_mem _ ht) un srv HUZ).mono ?_
        rintro e y2 ⟨rfl, hk⟩
        have HY2 := Lib.hid hk
        clear hk HY1
        go_wp2_with fail
        go_at_call 35
        refine (HSO.out _).mono ?_
        rintro e y3 ⟨rfl, b1⟩
        have HY3 := Lib.hid (HY2.out.later b1)
        clear b1 HY2
        go_wp2_with fail
        go_at_call 36
        refine (HHA.out _ _ vp un srv HY3.out List.mem_cons_self).mono ?_
        rintro e y4 ⟨rfl, hk⟩
        have HY4 := Lib.hid hk
        clear hk HY3
        go_wp2_with fail
        go_at_call 43
        refine (HSC.out _ _ HY4.out (fun _ ht => List.mem_cons_of_mem _ ht) un s8 HUZ).mono ?_
        rintro e y5 ⟨rfl, hk⟩
        have HY5 := Lib.hid hk
        clear hk HY4
        go_wp2_with fail
        go_at_call 36
        refine (HHA.out _ _ vp un s8 HY5.out List.mem_cons_self).mono ?_
        rintro e y6 ⟨rfl, hk⟩
        have HY6 := Lib.hid (hk.less (ts' := Th.box B10 (.cells #[.slice Au ds.length cu] 28 (0, 0)) :: Th.vw (.slice Au ds.length cu) ds :: []) (fun _ ht => List.mem_cons_of_mem _ ht))
        clear hk HY5
        go_wp2_with fail
        refine ⟨⟨a + 1, by go_num, by omega, HY6⟩, ?_⟩
        simp [intOf]; omega
    · have q1 : decide ((a : Int) < 10) = false := decide_eq_false (by omega)
      go_wp2_with fail
      go_at_call 22
      refine (HLV.out _ HK.out).mono ?_
      rintro e w9 ⟨rfl, hk9⟩
      have HK9 := Lib.hid hk9
      clear hk9
      go_wp2_with fail
      go_ret
      exact ⟨rfl, HK9.out.below⟩
end
end Go.Proofs.YtjiecjpepiknmaaGreat
