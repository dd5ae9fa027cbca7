/-
  The heap's take: an entry is taken away.
-/
import Derived.Test.YtkbmkbmbkmeenaaHpSink
namespace Go.Proofs.Ytkbmkbmbkmeenaa
set_option maxRecDepth 20000
open Go.RowKit
set_option linter.unusedVariables false
set_option linter.unusedSimpArgs false
variable {S : Nat → Prop} {w w' w'' : World} {g mb : Nat} {v : Value} {es : List Ent} {D : Dm}

theorem sliced_zero (b off k cap : Nat) : sliced (some ⟨b, off, none⟩) 0 k cap 2 = .slice (some ⟨b, off, none⟩) k cap := by
  unfold sliced
  split <;> simp [Addr.add_lit]
/-- The row is cut short. -/
theorem HSt.short {b off n cap k : Nat} (h : HSt w g (.slice (some ⟨b, off, none⟩) n cap) mb es D) (hk : k ≤ es.length) : HSt (w.setCell ⟨g, 0, none⟩ (.slice (some ⟨b, off, none⟩) k cap)) g (.slice (some ⟨b, off, none⟩) k cap) mb (es.take k) D := by
  have a1 := (h.apart b rfl).1
  have hr := h.row.sub 0 k (Nat.zero_le _) hk
  rw [List.drop_zero, show LC.c = 2 from rfl, sliced_zero] at hr
  refine ⟨?_, hr.keep fun q hq => ?_, Own.keep h.map (Below.heap_setCell w _ _ mb (fun e => h.gm e.symm))⟩
  · rw [heap_set h.hd]; rfl
  · simp only [Value.ownBlock, Option.some.injEq] at hq
    subst hq
    exact Below.heap_setCell w _ _ _ a1
theorem Turns.cell (u : Value) (i : Nat) : Turns (own3 g v mb) w (w.setCell ⟨g, i, none⟩ u) := Turns.grown (grown_set w g i u) fun k e => by injection e with e; exact .inl e.symm
theorem Turns.cells (b off : Nat) (us : List Value) (hb : v.ownBlock = some b) : Turns (own3 g v mb) w (w.setCells b off us) := Turns.grown (sm_grown w b off us) fun k e => by injection e with e; subst e; exact .inr (.inl hb)
theorem Turns.alloc (h : Turns S w w') (o : Obj) : Turns S w (w'.alloc o) := h.trans (Turns.below (Below.alloc (Below.refl w'.heap.size w') (Nat.le_refl _) o))

set_option maxHeartbeats 800000 in
theorem take_any (h : HSt w g v mb es D) {i : Nat} (hi : i < es.length) (hn : es.length ≤ 1000) (hk : KeysE es) (hok : ∀ x ∈ es, x.key.size ≤ maxLen) (hp : Pl D es) (hh : HeapE es) :
    Calls Try.prog 33 #[.pointer (some ⟨g, 0, none⟩), .int .i64 (i : Int)] w fun e w' => e = .returned (.agg #[.int .i64 (nth es i).tick, .string (nth es i).key]) ∧ ∃ es' v' D', HSt w' g v' mb es' D' ∧ v'.ownBlock = v.ownBlock ∧ (nth es i :: es').Perm es ∧ Pl D' es' ∧ HeapE es' ∧ Turns (own3 g v mb) w w' := by
  obtain ⟨n, hnn⟩ : ∃ n, es.length = n + 1 := ⟨es.length - 1, by omega⟩
  obtain ⟨b, off, cap, rfl, hc1, hc2⟩ := h.slice hi
  unfold maxLen at hc2
  have hix := index_any (P := Try.prog) knC (by decide) (b := b) (off := off) (cap := cap) hi
  simp only [LC] at hix
  have HXI := Lib.hid (hok _ (nth_mem hi))
  have HXN := Lib.hid (hok _ (nth_mem (i := n) (by omega)))
  have HNN := Lib.hid hnn
  have HK := Lib.hid hk
  have HOK := Lib.hid hok
  have HP := Lib.hid hp
  have HH := Lib.hid hh
  have hlen : (es.length : Int) = (n : Int) + 1 := by omega
  have h1 := Lib.hid (h.alloc (.cells #[.int .i64 0, .string ⟨#[]⟩] 45))
  have T1 := Lib.hid ((Turns.refl (S := own3 g (.slice (some ⟨b, off, none⟩) es.length cap) mb) w).alloc (.cells #[.int .i64 0, .string ⟨#[]⟩] 45))
  have HB := Lib.hid (heap_alloc_new w (.cells #[.int .i64 0, .string ⟨#[]⟩] 45))
  have HO := Lib.hid h.old
  have HD := Lib.hid h.map.fine.isMap
  have HDS : Hid (∀ k, Maps.size (D.del k) ≤ 1000) := Lib.hid (fun k => by
    have h1 := (hp.hole 0).size h.map.fine
    have h2 := Maps.size_del (k := k) (h.map.tidy keyed)
    omega)
  clear hnn hk hok hp hh h
  go_enter Try.func33, Try.ntmps33
  go_upto_region 1 with (fail)
  generalize w.alloc _ = w1 at h1 T1 HB ⊢
  generalize hB0 : w.heap.size = B at HB HO ⊢
  have c0 := h1.out.c0
  obtain ⟨d0, d1⟩ := h1.out.ent hi
  have c0' := fun o => (h1.out.alloc o).c0
  have d0' := fun o => ((h1.out.alloc o).ent hi).1
  have d1' := fun o => ((h1.out.alloc o).ent hi).2
  generalize hx : nth es i = x at *
  replace hx := Lib.hid hx
  go_region
  clear c0 d0 d1 c0' d0' d1' 
  have h2 := Lib.hid (h1.out.alloc (.cells #[.int .i64 x.tick, .string x.key] 45)).drew
  have T2 := Lib.hid (T1.out.alloc (.cells #[.int .i64 x.tick, .string x.key] 45)).drew
  have HX := Lib.hid (heap_alloc_new w1 (.cells #[.int .i64 x.tick, .string x.key] 45))
  replace HX := Lib.hid (show (w1.alloc (.cells #[.int .i64 x.tick, .string x.key] 45)).drew.heap[w1.heap.size]? = _ from HX.out)
  have hBB := smem_lt HB.out
  replace HB := Lib.hid (show (w1.alloc (.cells #[.int .i64 x.tick, .string x.key] 45)).drew.heap[B]? = _ from (heap_alloc_old w1 _ hBB).trans HB.out)
  go_upto_region 2 with (fail)
  generalize w1.heap.size = B1 at HX hBB ⊢
  generalize World.drew _ = w2 at h2 T2 HB HX ⊢
  clear h1 T1
  have e1 : w2.cell? ⟨B1, 1, none⟩ = some (.string x.key) := cell_at HX.out 1
  have c1 := h2.out.c1
  obtain ⟨w3, hr, o3, t3⟩ := h2.out.drew.map.drop keyed Try.underlying58 (keyIs HXI.out) 0
  have h3 := Lib.hid (h2.out.drew.maps o3 t3)
  have T3 := Lib.hid (T2.out.drew.trans (Turns.maps t3))
  have t4 : Turns (own3 g (.slice (some ⟨b, off, none⟩) es.length cap) mb) w2 w3 := (Turns.refl w2).drew.trans (Turns.maps t3)
  replace HB := Lib.hid ((t4.block B (smem_lt HB.out) (fun q => by have := HO.out B q; omega)).trans HB.out)
  replace HX := Lib.hid ((t4.block B1 (smem_lt HX.out) (fun q => by have := HO.out B1 q; omega)).trans HX.out)
  clear t3 o3 t4
  go_region
  clear hr e1 c1 h2 T2 hix
  have hnl : n < es.length := by have := HNN.out; omega
  have hix := index_any (P := Try.prog) knC (by decide) (b := b) (off := off) (cap := cap) hnl
  simp only [LC] at hix
  have c0 := h3.out.c0
  obtain ⟨d0, d1⟩ := h3.out.ent hnl
  generalize hy : nth es n = y at *
  replace hy := Lib.hid hy
  have h4 := Lib.hid (h3.out.alloc (.cells #[.int .i64 y.tick, .string y.key] 45))
  have T4 := Lib.hid (T3.out.alloc (.cells #[.int .i64 y.tick, .string y.key] 45))
  have HY := Lib.hid (heap_alloc_new w3 (.cells #[.int .i64 y.tick, .string y.key] 45))
  have hB1 := smem_lt HX.out
  replace HB := Lib.hid ((heap_alloc_old w3 (.cells #[.int .i64 y.tick, .string y.key] 45) (smem_lt HB.out)).trans HB.out)
  replace HX := Lib.hid ((heap_alloc_old w3 (.cells #[.int .i64 y.tick, .string y.key] 45) hB1).trans HX.out)
  go_upto_region 4 with (fail)
  clear c0 d0 d1 h3 T3
  generalize w3.heap.size = B2 at HY hB1 ⊢
  generalize w3.alloc _ = w4 at h4 T4 HY HB HX ⊢
  have c0 := h4.out.c0
  obtain ⟨d0, d1⟩ := h4.out.ent hnl
  obtain ⟨f0, f1⟩ := h4.out.there hnl
  have h5 := Lib.hid (h4.out.set hnl ⟨0, ⟨#[]⟩⟩)
  have t5 : Turns (own3 g (.slice (some ⟨b, off, none⟩) es.length cap) mb) w4 (w4.setCells b (off + n * 2) [.int .i64 0, .string ⟨#[]⟩]) := Turns.cells b _ _ rfl
  have T5 := Lib.hid (T4.out.trans t5)
  replace HB := Lib.hid ((t5.block B (smem_lt HB.out) (fun q => by have := HO.out B q; omega)).trans HB.out)
  replace HX := Lib.hid ((t5.block B1 (smem_lt HX.out) (fun q => by have := HO.out B1 q; omega)).trans HX.out)
  replace HY := Lib.hid ((t5.block B2 (smem_lt HY.out) (fun q => by have := HO.out B2 q; omega)).trans HY.out)
  clear t5
  simp only [World.setCells] at h5 T5 HB HX HY
  go_upto_region 5 with (fail)
  clear c0 d0 d1 f0 f1 h4 T4 hix
  generalize World.setCell _ _ _ = w5 at h5 T5 HB HX HY ⊢
  have c0 := h5.out.c0
  have f0 := h5.out.f0
  have hs1 := slice_high (P := Try.prog) knC (some ⟨b, off, none⟩) es.length cap n (by omega)
  rw [show LC.c = 2 from rfl, sliced_zero] at hs1
  have h6 := Lib.hid (h5.out.short (k := n) (by rw [List.length_set]; omega))
  rw [List.take_set_of_le (Nat.le_refl _)] at h6
  have t6 : Turns (own3 g (.slice (some ⟨b, off, none⟩) es.length cap) mb) w5 (w5.setCell ⟨g, 0, none⟩ (.slice (some ⟨b, off, none⟩) n cap)) := Turns.cell _ _
  have T6 := Lib.hid (T5.out.trans t6)
  replace HB := Lib.hid ((t6.block B (smem_lt HB.out) (fun q => by have := HO.out B q; omega)).trans HB.out)
  replace HX := Lib.hid ((t6.block B1 (smem_lt HX.out) (fun q => by have := HO.out B1 q; omega)).trans HX.out)
  replace HY := Lib.hid ((t6.block B2 (smem_lt HY.out) (fun q => by have := HO.out B2 q; omega)).trans HY.out)
  clear t6
  go_upto_region 6 with (fail)
  clear c0 f0 hs1 h5 T5
  generalize World.setCell _ _ _ = w6 at h6 T6 HB HX HY ⊢
  by_cases hin : i < n
  · have q1 : decide ((i : Int) < (n : Int)) = true := decide_eq_true (by omega)
    have hl2 : (es.take n).length = n := by rw [List.length_take]; omega
    have b0 : w6.cell? ⟨B2, 0, none⟩ = some (.int .i64 y.tick) := cell_at HY.out 0
    have b1 : w6.cell? ⟨B2, 1, none⟩ = some (.string y.key) := cell_at HY.out 1
    have HW := Lib.hid (wrong_mid HH.out HNN.out hin)
    have HPM := Lib.hid (pl_mid HP.out HD.out HK.out HNN.out hin)
    have HPE := Lib.hid (take_mid HNN.out hin)
    rw [hx.out, hy.out] at HPM HPE
    rw [hy.out] at HW
    have HSZ := Lib.hid (HDS.out (kl x.key))
    have HL2 := Lib.hid hl2
    clear hl2
    go_wp2_with fail
    go_at_call 39
    refine (set_any h6.out (by rw [HL2.out]; exact hin) (by rw [HL2.out]; omega) HSZ.out y HXN.out).mono ?_
    rintro e' w7 ⟨rfl, s7, t7⟩
    replace HX := Lib.hid ((t7.block B1 (smem_lt HX.out) (fun q => by have := HO.out B1 q; omega)).trans HX.out)
    replace HB := Lib.hid ((t7.block B (smem_lt HB.out) (fun q => by have := HO.out B q; omega)).trans HB.out)
    have T7 := Lib.hid (T6.out.trans t7)
    have HK2 : KeysE ((es.take n).set i y) := by
      have := HK.out.perm HPE.out
      unfold KeysE at this ⊢
      rw [List.map_cons, List.nodup_cons] at this
      exact this.2
    have R := settle_any s7 (i := i) (by rw [List.length_set, HL2.out]; exact hin) (by rw [List.length_set, HL2.out]; omega) HK2 (fun z hz => HOK.out z (HPE.out.mem_iff.1 (List.mem_cons_of_mem _ hz))) HPM.out HW.out
    clear b0 b1 h6 T6 HY s7 t7 HK2 HW HPM
    go_wp2_with fail
    go_at_call 34
    refine R.mono ?_
    rintro e' w8 ⟨rfl, es8, D8, s8, p8, l8, e8, t8⟩
    clear R
    replace HX := Lib.hid ((t8.block B1 (smem_lt HX.out) (fun q => by have := HO.out B1 q; omega)).trans HX.out)
    replace HB := Lib.hid ((t8.block B (smem_lt HB.out) (fun q => by have := HO.out B q; omega)).trans HB.out)
    have T8 := Lib.hid (T7.out.trans t8)
    have b0 : w8.cell? ⟨B1, 0, none⟩ = some (.int .i64 x.tick) := cell_at HX.out 0
    have b1 : w8.cell? ⟨B1, 1, none⟩ = some (.string x.key) := cell_at HX.out 1
    have r0 : w8.cell? ⟨B, 0, none⟩ = some (.int .i64 0) := cell_at HB.out 0
    have r1 : w8.cell? ⟨B, 1, none⟩ = some (.string ⟨#[]⟩) := cell_at HB.out 1
    have f0 : w8.frozen? ⟨B, 0, none⟩ = false := free_at HB.out 0
    have f1 : w8.frozen? ⟨B, 1, none⟩ = false := free_at HB.out 1
    have S8 := Lib.hid s8
    have L8 := Lib.hid l8
    have E8 := Lib.hid e8
    have P8 := Lib.hid p8
    clear s8 p8 l8 e8 t8 T7
    go_wp2_with fail
    clear r0 r1 f0 f1 b0 b1
    have HB2 := Lib.hid (sm_at B 45 [.int .i64 x.tick, .string x.key] 0 w8 _ HB.out (Nat.le_refl 2))
    have S9 := Lib.hid (S8.out.keep (w' := w8.setCells B 0 [.int .i64 x.tick, .string x.key]) (fun k hk => sm_far B k (fun e => by have := HO.out k hk; omega) _ _ _))
    have T9 := Lib.hid (T8.out.newer (S' := fun k => k = B) (Turns.grown (sm_grown w8 B 0 [.int .i64 x.tick, .string x.key]) (fun k e => by injection e with e; exact e.symm)) (fun k e => .inr (by omega)))
    simp only [World.setCells] at S9 T9 HB2
    have r0 : ((w8.setCell ⟨B, 0, none⟩ (.int .i64 x.tick)).setCell ⟨B, 0 + 1, none⟩ (.string x.key)).cell? ⟨B, 0, none⟩ = some (.int .i64 x.tick) := by
      obtain ⟨cur, z1, z2, z3⟩ := HB2.out
      rw [cell_at z1 0, ← Array.getElem?_toList, z3]; rfl
    have r1 : ((w8.setCell ⟨B, 0, none⟩ (.int .i64 x.tick)).setCell ⟨B, 0 + 1, none⟩ (.string x.key)).cell? ⟨B, 1, none⟩ = some (.string x.key) := by
      obtain ⟨cur, z1, z2, z3⟩ := HB2.out
      rw [cell_at z1 1, ← Array.getElem?_toList, z3]; rfl
    generalize World.setCell _ _ _ = w9 at S9 T9 r0 r1 ⊢
    refine bodyPost_ret (v := .agg #[.int .i64 x.tick, .string x.key]) ?_ rfl ?_
    · simp [results, Try.results33, go_sem, r0, r1]
    · rw [hx.out]
      exact ⟨rfl, es8, _, D8, S9.out, rfl, (P8.out.cons x).trans HPE.out, L8.out, E8.out, T9.out⟩
  · have q1 : decide ((i : Int) < (n : Int)) = false := decide_eq_false (by omega)
    obtain rfl : i = n := by omega
    have b0 : w6.cell? ⟨B1, 0, none⟩ = some (.int .i64 x.tick) := cell_at HX.out 0
    have b1 : w6.cell? ⟨B1, 1, none⟩ = some (.string x.key) := cell_at HX.out 1
    have r0 : w6.cell? ⟨B, 0, none⟩ = some (.int .i64 0) := cell_at HB.out 0
    have r1 : w6.cell? ⟨B, 1, none⟩ = some (.string ⟨#[]⟩) := cell_at HB.out 1
    have f0 : w6.frozen? ⟨B, 0, none⟩ = false := free_at HB.out 0
    have f1 : w6.frozen? ⟨B, 1, none⟩ = false := free_at HB.out 1
    have S8 := h6
    have T8 := T6
    go_wp2_with fail
    clear r0 r1 f0 f1 b0 b1
    have HB2 := Lib.hid (sm_at B 45 [.int .i64 x.tick, .string x.key] 0 w6 _ HB.out (Nat.le_refl 2))
    have S9 := Lib.hid (S8.out.keep (w' := w6.setCells B 0 [.int .i64 x.tick, .string x.key]) (fun k hk => sm_far B k (fun e => by have := HO.out k hk; omega) _ _ _))
    have T9 := Lib.hid (T8.out.newer (S' := fun k => k = B) (Turns.grown (sm_grown w6 B 0 [.int .i64 x.tick, .string x.key]) (fun k e => by injection e with e; exact e.symm)) (fun k e => .inr (by omega)))
    simp only [World.setCells] at S9 T9 HB2
    have r0 : ((w6.setCell ⟨B, 0, none⟩ (.int .i64 x.tick)).setCell ⟨B, 0 + 1, none⟩ (.string x.key)).cell? ⟨B, 0, none⟩ = some (.int .i64 x.tick) := by
      obtain ⟨cur, z1, z2, z3⟩ := HB2.out
      rw [cell_at z1 0, ← Array.getElem?_toList, z3]; rfl
    have r1 : ((w6.setCell ⟨B, 0, none⟩ (.int .i64 x.tick)).setCell ⟨B, 0 + 1, none⟩ (.string x.key)).cell? ⟨B, 1, none⟩ = some (.string x.key) := by
      obtain ⟨cur, z1, z2, z3⟩ := HB2.out
      rw [cell_at z1 1, ← Array.getElem?_toList, z3]; rfl
    generalize World.setCell _ _ _ = w9 at S9 T9 r0 r1 ⊢
    refine bodyPost_ret (v := .agg #[.int .i64 x.tick, .string x.key]) ?_ rfl ?_
    · simp [results, Try.results33, go_sem, r0, r1]
    · rw [hx.out]
      have L8 := pl_end HP.out HK.out HNN.out
      have P8 := take_end HNN.out
      rw [hx.out] at L8 P8
      exact ⟨rfl, es.take i, _, _, S9.out, rfl, P8, L8, HH.out.take i, T9.out⟩
end Go.Proofs.Ytkbmkbmbkmeenaa
