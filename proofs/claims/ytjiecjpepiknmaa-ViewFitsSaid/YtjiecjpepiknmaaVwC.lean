/-
  Package view: Add.
-/
import Derived.Test.YtjiecjpepiknmaaVwB
namespace Go.Proofs.Ytjiecjpepiknmaa
set_option maxRecDepth 20000
open Go.RowKit Go.Maps Go.ChangeMaps
set_option linter.unusedVariables false
set_option linter.unusedSimpArgs false
section
variable {C : Dags} {w wr w' : World} {vs : List VI} {ts : List Th} {v : VI} {i : Nat}
theorem CVs.gm (h : CVs C w v) : v.g ≠ v.mb := fun e => by
  obtain ⟨xs, clock, hb, _⟩ := h.map
  rw [← e, h.hd] at hb
  cases hb
/-- A dag has turned, and is laid under its room. -/
theorem CVs.next {w1 w3 w4 : World} {gd : Nat} {room : ByteArray} {l' : List Ev} (h : CVs C w1 v)
    (hgd : (∃ d ∈ v.ds, d.g = gd ∧ d.room = room) ∨ ((¬ ∃ d ∈ v.ds, d.room = room) ∧ ∀ k, C.own w1 gd k → ¬ v.own C w1 k))
    (hc : C.CD w3 gd room l') (ht : TurnD C.own w1 w3 gd) (ho : OwnN w4 v.mb (v.ds.length + 1) (v.D.put (kl room) (.held (.pointer (some ⟨gd, 0, none⟩)))))
    (hg : w3.grownBy w4 (some v.mb)) (hok : VOk 100 (putK Prod.fst (room, l') v.V)) :
    CVs C w4 ⟨v.g, v.mb, putK DgI.room ⟨room, gd, l'⟩ v.ds, v.D.put (kl room) (.held (.pointer (some ⟨gd, 0, none⟩)))⟩ ∧ (∀ k, VI.own C ⟨v.g, v.mb, putK DgI.room ⟨room, gd, l'⟩ v.ds, v.D.put (kl room) (.held (.pointer (some ⟨gd, 0, none⟩)))⟩ w4 k → v.own C w1 k ∨ C.own w1 gd k ∨ w1.heap.size ≤ k) ∧ ∀ k, k < w1.heap.size → ¬ v.own C w1 k → ¬ C.own w1 gd k → w4.heap[k]? = w1.heap[k]? := by
  have hgl := smem_lt h.hd
  have hml := h.map.lt
  have hgm := h.gm
  have hnot : ∀ k, C.own w1 gd k → k ≠ v.g ∧ k ≠ v.mb := fun k hk => by
    rcases hgd with ⟨d, hd, rfl, -⟩ | ⟨-, hn⟩
    · exact (h.dag d hd).2 k hk
    · exact ⟨fun e => hn k hk (.inl e), fun e => hn k hk (.inr (.inl e))⟩
  have hoff : ∀ d ∈ v.ds, d.room ≠ room → ∀ k, C.own w1 d.g k → ¬ C.own w1 gd k := fun d hd hr k h1 h2 => by
    rcases hgd with ⟨d0, hd0, rfl, rfl⟩ | ⟨-, hn⟩
    · exact h.apart d hd d0 hd0 hr k h1 h2
    · exact hn k h2 (.inr (.inr ⟨d, hd, h1⟩))
  have h3 : ∀ d ∈ v.ds, d.room ≠ room → C.CD w3 d.g d.room d.l ∧ ∀ k, C.own w3 d.g k → C.own w1 d.g k := fun d hd hr => C.keep (h.dag d hd).1 ht.size (fun k hk => ht.block k (C.old (h.dag d hd).1 hk) (hoff d hd hr k hk))
  have own3 : ∀ k, C.own w3 gd k → k ≠ v.g ∧ k ≠ v.mb := fun k hk => by
    rcases ht.owns k hk with hh | hh
    · exact hnot k hh
    · exact ⟨by omega, by omega⟩
  have h4 : ∀ d ∈ v.ds, d.room ≠ room → C.CD w4 d.g d.room d.l ∧ ∀ k, C.own w4 d.g k → C.own w1 d.g k := fun d hd hr => by
    obtain ⟨a, b⟩ := h3 d hd hr
    obtain ⟨a', b'⟩ := C.keep a hg.size (fun k hk => hg.block k (C.old a hk) (fun e => ((h.dag d hd).2 k (b k hk)).2 (by injection e)))
    exact ⟨a', fun k hk => b k (b' k hk)⟩
  obtain ⟨hn, on⟩ := C.keep hc hg.size (fun k hk => hg.block k (C.old hc hk) (fun e => (own3 k hk).2 (by injection e)))
  have hmem : ∀ d, d ∈ putK DgI.room ⟨room, gd, l'⟩ v.ds → d = ⟨room, gd, l'⟩ ∨ (d ∈ v.ds ∧ d.room ≠ room) := fun d hd => (putK_mem h.up).1 hd
  have hV : (putK DgI.room ⟨room, gd, l'⟩ v.ds).map DgI.rl = putK Prod.fst (room, l') v.V := putK_map (key := DgI.room) Prod.fst DgI.rl (fun _ => rfl) _ _
  have his : VdM (v.D.put (kl room) (.held (.pointer (some ⟨gd, 0, none⟩)))) (putK DgI.room ⟨room, gd, l'⟩ v.ds) := h.is.put h.up ⟨room, gd, l'⟩
  have hmap := ho.tight
  rw [his.size] at hmap
  refine ⟨⟨(hg.block v.g (Nat.lt_of_lt_of_le hgl ht.size) (fun e => hgm (by injection e))).trans ((ht.block v.g hgl (fun o => (hnot _ o).1 rfl)).trans h.hd), hmap, his, fun d hd => ?_, fun d hd d' hd' hr k k1 k2 => ?_, by unfold VI.V; rw [hV]; exact hok⟩, fun k hk => ?_, fun k hk hno hno2 => ?_⟩
  · rcases hmem d hd with rfl | ⟨hd, hr⟩
    · exact ⟨hn, fun k hk => own3 k (on k hk)⟩
    · exact ⟨(h4 d hd hr).1, fun k hk => (h.dag d hd).2 k ((h4 d hd hr).2 k hk)⟩
  · rcases hmem d hd with rfl | ⟨hd, hr1⟩
    · rcases hmem d' hd' with rfl | ⟨hd', hr2⟩
      · exact hr rfl
      · have e2 := (h4 d' hd' hr2).2 k k2
        rcases ht.owns k (on k k1) with hh | hh
        · exact hoff d' hd' hr2 k e2 hh
        · have := C.old (h.dag d' hd').1 e2; omega
    · have e1 := (h4 d hd hr1).2 k k1
      rcases hmem d' hd' with rfl | ⟨hd', hr2⟩
      · rcases ht.owns k (on k k2) with hh | hh
        · exact hoff d hd hr1 k e1 hh
        · have := C.old (h.dag d hd).1 e1; omega
      · exact h.apart d hd d' hd' hr k e1 ((h4 d' hd' hr2).2 k k2)
  · rcases hk with e | e | ⟨d, hd, hk⟩
    · exact .inl (.inl e)
    · exact .inl (.inr (.inl e))
    · rcases hmem d hd with rfl | ⟨hd, hr⟩
      · rcases ht.owns k (on k hk) with hh | hh
        · exact .inr (.inl hh)
        · exact .inr (.inr hh)
      · exact .inl (.inr (.inr ⟨d, hd, (h4 d hd hr).2 k hk⟩))
  · exact (hg.block k (Nat.lt_of_lt_of_le hk ht.size) (fun e => hno (.inr (.inl (by injection e))))).trans (ht.block k hk hno2)
theorem errV_le {n : Nat} {V : Vw} {e : Ev} (h : VOk n V) (he : errV V e = 0) : VOk (n + 1) (putK Prod.fst (e.room, addA e.room (ofL V e.room) e) V) := by
  have := addV_ok (e := e) h
  unfold addV at this
  rw [if_pos he] at this
  exact this
/-- What Add tells of its view. -/
theorem Kv.added {w1 w3 w4 : World} {gd : Nat} {e : Ev} (h : Kv C w wr vs ts) (hi : vs[i]? = some v) (hd : DagOf C wr w1 v gd e.room) (hn : VOk 99 v.V) (he : errV v.V e = 0)
    (hc : C.CD w3 gd e.room (addA e.room (ofL v.V e.room) e)) (ht : TurnD C.own w1 w3 gd) (ho : OwnN w4 v.mb (v.ds.length + 1) (v.D.put (kl e.room) (.held (.pointer (some ⟨gd, 0, none⟩)))))
    (hg : w3.grownBy w4 (some v.mb)) : ∃ v', v'.g = v.g ∧ v'.V = addV v.V e ∧ Kv C w w4 (vs.set i v') ts := by
  have hcv := h.cv hi
  have hb1 : Below wr.heap.size wr w1 ∧ (∀ k, C.own w1 gd k → v.own C wr k ∨ wr.heap.size ≤ k) := by
    rcases hd with ⟨d, hd, rfl, -, rfl⟩ | ⟨-, -, hb, ho⟩
    · exact ⟨Below.refl _ _, fun k hk => .inl (.inr (.inr ⟨d, hd, hk⟩))⟩
    · exact ⟨hb, fun k hk => .inr (ho k hk)⟩
  obtain ⟨hb1, hgo⟩ := hb1
  obtain ⟨hcv1, hown1⟩ := hcv.keep hb1.size (fun k hk => hb1.block k (hcv.old hk))
  have hgd : (∃ d ∈ v.ds, d.g = gd ∧ d.room = e.room) ∨ ((¬ ∃ d ∈ v.ds, d.room = e.room) ∧ ∀ k, C.own w1 gd k → ¬ v.own C w1 k) := by
    rcases hd with ⟨d, hd, h1, h2, -⟩ | ⟨hno, -, hb, ho⟩
    · exact .inl ⟨d, hd, h1, h2⟩
    · refine .inr ⟨hno, fun k hk hh => ?_⟩
      have := hcv.old (hown1 k hh)
      have := ho k hk
      omega
  obtain ⟨h1, h2, h3⟩ := hcv1.next hgd hc ht ho hg (errV_le hn he)
  refine ⟨⟨v.g, v.mb, putK DgI.room ⟨e.room, gd, addA e.room (ofL v.V e.room) e⟩ v.ds, v.D.put (kl e.room) (.held (.pointer (some ⟨gd, 0, none⟩)))⟩, rfl, ?_, h.turn hi h1 ⟨hg.os.trans (ht.os.trans hb1.os), hg.tape.trans (ht.tape.trans hb1.tape), hg.output.trans (ht.output.trans hb1.output), Nat.le_trans hb1.size (Nat.le_trans ht.size hg.size), fun k hk hno => ?_⟩ (fun k hk => ?_)⟩
  · unfold addV
    rw [if_pos he]
    unfold VI.V
    exact putK_map (key := DgI.room) Prod.fst DgI.rl (fun _ => rfl) _ _
  · refine (h3 k (Nat.lt_of_lt_of_le hk hb1.size) (fun hh => hno (hown1 k hh)) (fun hh => ?_)).trans (hb1.block k hk)
    rcases hgo k hh with hh | hh
    · exact hno hh
    · omega
  · rcases h2 k hk with hh | hh | hh
    · exact .inl (hown1 k hh)
    · exact hgo k hh
    · exact .inr (Nat.le_trans hb1.size hh)

set_option maxHeartbeats 1600000 in
theorem viewAdd_any (CR : DagRms C) (h : Kv C w wr vs ts) (hi : vs[i]? = some v) (hn : VOk 99 v.V) (x : EvV) (hx : Th.ev x ∈ ts) (hr : x.ev.room.size ≤ 40) : Calls Try.prog 14 #[.pointer (some ⟨v.g, 0, none⟩), x.val] wr fun e w' => ∃ v', e = .returned (.int .i64 (errV v.V x.ev)) ∧ v'.g = v.g ∧ v'.V = addV v.V x.ev ∧ Kv C w w' (vs.set i v') ts := by
  have HK0 := Lib.hid h
  have HK := Lib.hid (show Kv C w (wr.alloc (.cells #[.string x.ev.id, .string x.ev.room, .slice x.A x.ev.parents.length x.cap, .string x.ev.thread, .string x.ev.user, .int .i64 x.ev.does] 42)) vs (Th.box wr.heap.size (.cells #[.string x.ev.id, .string x.ev.room, .slice x.A x.ev.parents.length x.cap, .string x.ev.thread, .string x.ev.user, .int .i64 x.ev.does] 42 (0, 0)) :: ts) from h.add (below_new wr _) (heap_alloc_new wr _) (fun k hk => .inl (Nat.le_of_eq hk.symm)))
  have HX := Lib.hid hx
  have HR := Lib.hid hr
  have HN := Lib.hid hn
  have HI := Lib.hid hi
  clear h hx hr hn
  unfold EvV.val EvV.pv
  go_enter Try.func14, Try.ntmps14
  go_upto_region 1 with (fail)
  generalize wr.alloc _ = w0 at HK ⊢
  generalize hB : wr.heap.size = B at HK ⊢
  have HB0 := Lib.hid (HK.out.is List.mem_cons_self)
  have c1 : w0.cell? ⟨B, 1, none⟩ = some (.string x.ev.room) := cell_at HB0.out 1
  have HQ := Lib.hid (dagOf_any HK.out hi x.ev.room HR.out)
  go_wp2_with fail
  go_at_call 18
  refine HQ.out.mono ?_
  rintro e w1 ⟨gd, rfl, hd⟩
  have HD := Lib.hid hd
  have HKD := Lib.hid (hd.kd HK.out hi)
  clear hd HQ c1 HB0
  have HB1 := Lib.hid (HKD.out.kv.is List.mem_cons_self)
  have HXA := Lib.hid (HKD.out.kv.is (List.mem_cons_of_mem _ HX.out))
  have r0 : w1.cell? ⟨B, 0, none⟩ = some (.string x.ev.id) := cell_at HB1.out 0
  have r1 : w1.cell? ⟨B, 1, none⟩ = some (.string x.ev.room) := cell_at HB1.out 1
  have r2 : w1.cell? ⟨B, 2, none⟩ = some (.slice x.A x.ev.parents.length x.cap) := cell_at HB1.out 2
  have r3 : w1.cell? ⟨B, 3, none⟩ = some (.string x.ev.thread) := cell_at HB1.out 3
  have r4 : w1.cell? ⟨B, 4, none⟩ = some (.string x.ev.user) := cell_at HB1.out 4
  have r5 : w1.cell? ⟨B, 5, none⟩ = some (.int .i64 x.ev.does) := cell_at HB1.out 5
  have hl99 : Hid ((ofL v.V x.ev.room).length ≤ 99) := Lib.hid (HN.out.of_ _).2
  have HA := Lib.hid (C.add x HKD.out.code (Nat.le_trans hl99.out (by decide)) HXA.out)
  unfold EvV.val EvV.pv at HA
  go_wp2_with fail
  go_at_call 24
  refine HA.out.mono ?_
  rintro e w2 ⟨rfl, hc2, ht2⟩
  have HC2 := Lib.hid hc2
  have HT2 := Lib.hid ht2
  clear hc2 ht2 HA r0 r1 r2 r3 r4 r5 HB1 HXA
  have HER : Hid (errA x.ev.room (ofL v.V x.ev.room) x.ev = errV v.V x.ev) := Lib.hid rfl
  rw [HER.out]
  by_cases he : errV v.V x.ev = 0
  · have q1 : (errV v.V x.ev == 0) = true := by rw [beq_iff_eq]; exact he
    have HE := Lib.hid he
    have hl100 : Hid ((addA x.ev.room (ofL v.V x.ev.room) x.ev).length ≤ 100) := Lib.hid (by have := addA_len x.ev.room (ofL v.V x.ev.room) x.ev; have := hl99.out; omega)
    clear he
    go_upto_region 4 with (fail)
    have HV : Hid (∀ W, C.CD W gd x.ev.room (addA x.ev.room (ofL v.V x.ev.room) x.ev) → TurnD C.own w1 W gd → W.cell? ⟨v.g, 0, none⟩ = some (.map (some v.mb)) ∧ OwnN W v.mb v.ds.length v.D) := Lib.hid (fun W hc ht => by
      have hcv := HKD.out.kv.cv HI.out
      have hno : ¬ C.own w1 gd v.g ∧ ¬ C.own w1 gd v.mb := by
        rcases HD.out with ⟨d, hd, rfl, -, rfl⟩ | ⟨-, -, hb, ho⟩
        · exact ⟨fun e => ((hcv.dag d hd).2 _ e).1 rfl, fun e => ((hcv.dag d hd).2 _ e).2 rfl⟩
        · have h0 := HK.out.cv HI.out
          exact ⟨fun e => by have := h0.old (.inl rfl); have := ho _ e; omega, fun e => by have := h0.old (.inr (.inl rfl)); have := ho _ e; omega⟩
      exact ⟨cell_at ((ht.block _ (smem_lt hcv.hd) hno.1).trans hcv.hd) 0, hcv.map.keep (ht.block _ hcv.map.lt hno.2)⟩)
    have HRM := Lib.hid (fun W (hc : C.CD W gd x.ev.room (addA x.ev.room (ofL v.V x.ev.room) x.ev)) => CR.room hc hl100.out)
    have HD2 : Hid (C.CD w2.drew gd x.ev.room (addA x.ev.room (ofL v.V x.ev.room) x.ev) ∧ TurnD C.own w1 w2.drew gd) := Lib.hid ⟨(Dags.later HC2.out (below_drew w2)).1, HT2.out.trans (Dags.later HC2.out (below_drew w2)).2⟩
    refine wp_region_held_drew (S := fun W => W.cell? ⟨v.g, 0, none⟩ = some (.map (some v.mb))) (by kernel_rfl) (HV.out _ HD2.out.1 HD2.out.2).1 (fun hHeld => ?_)
    generalize w2.drew = wd at hHeld HD2 ⊢
    refine wpAnyH_take (i := 0) (oi := ⟨some 16, _, _, _, _, _⟩) (v := ?vq0) rfl (by kernel_rfl) (by kernel_rfl) (by kernel_rfl) (fun _ _ _ h => h) (Or.inl ⟨by rfl, ?yq0⟩) hHeld ?rq0
    case yq0 =>
      intro wx hSx
      go_simp
      try with_reducible rfl
    try simp only [Act.put, List.setIfInBounds_toArray, List.set_cons_zero, List.set_cons_succ]
    refine wpAnyH_take (i := 1) (oi := ⟨some 17, _, _, _, _, _⟩) (v := ?vq1) rfl (by kernel_rfl) (by kernel_rfl) (by kernel_rfl) (fun _ _ _ h => h) (Or.inl ⟨by rfl, ?yq1⟩) hHeld ?rq1
    case yq1 =>
      intro wx hSx
      go_simp
      try with_reducible rfl
    try simp only [Act.put, List.setIfInBounds_toArray, List.set_cons_zero, List.set_cons_succ]
    refine wpAnyH_take (i := 2) (oi := ⟨some 18, _, _, _, _, _⟩) (v := ?vq2) rfl (by kernel_rfl) (by kernel_rfl) (by kernel_rfl) (fun _ _ _ h => h) (Or.inl ⟨by rfl, ?yq2⟩) hHeld ?rq2
    case yq2 =>
      intro wx hSx
      go_simp
      try with_reducible rfl
    try simp only [Act.put, List.setIfInBounds_toArray, List.set_cons_zero, List.set_cons_succ]
    refine wpAnyH_take (i := 3) (oi := ⟨some 19, _, _, _, _, _⟩) (v := ?vq3) rfl (by kernel_rfl) (by kernel_rfl) (by kernel_rfl) (fun _ _ _ h => h) (Or.inl ⟨by rfl, ?yq3⟩) hHeld ?rq3
    case yq3 =>
      intro wx hSx
      have z : wx.cell? ⟨v.g, 0, none⟩ = some (.map (some v.mb)) := hSx
      go_simp
      try with_reducible rfl
    try simp only [Act.put, List.setIfInBounds_toArray, List.set_cons_zero, List.set_cons_succ]
    refine wpAnyH_take (i := 4) (oi := ⟨some 20, _, _, _, _, _⟩) (v := ?vq4) rfl (by kernel_rfl) (by kernel_rfl) (by kernel_rfl) (fun _ _ _ h => h) (Or.inl ⟨by rfl, ?yq4⟩) hHeld ?rq4
    case yq4 =>
      intro wx hSx
      go_simp
      try with_reducible rfl
    try simp only [Act.put, List.setIfInBounds_toArray, List.set_cons_zero, List.set_cons_succ]
    refine wpAnyH_take (i := 6) (oi := ⟨some 22, _, _, _, _, _⟩) (v := ?vq6) rfl (by kernel_rfl) (by kernel_rfl) (by kernel_rfl) (fun _ _ _ h => h) (Or.inl ⟨by rfl, ?yq6⟩) hHeld ?rq6
    case yq6 =>
      intro wx hSx
      go_simp
      try with_reducible rfl
    try simp only [Act.put, List.setIfInBounds_toArray, List.set_cons_zero, List.set_cons_succ]
    refine wpAnyH_ready (rs := [5]) (by kernel_rfl) (by simp) ?_
    refine AllReadyH.cons (o := ⟨some 21, _, _, _, _, _⟩) rfl (fun K hK => ?_) AllReadyH.nil
    go_simp
    refine (HRM.out _ HD2.out.1).mono ?_
    rintro e wn ⟨rfl, hcn, htn⟩
    replace HD2 := Lib.hid (show C.CD wn gd x.ev.room (addA x.ev.room (ofL v.V x.ev.room) x.ev) ∧ TurnD C.own w1 wn gd from ⟨hcn, HD2.out.2.trans htn⟩)
    refine hK.out _ _ (HV.out _ HD2.out.1 HD2.out.2).1 (fun hHeld => ?_)
    clear hK K hcn htn
    try simp only [Act.put, List.setIfInBounds_toArray, List.set_cons_zero, List.set_cons_succ]
    refine wpAnyH_ready (rs := [7]) (by kernel_rfl) (by simp) ?_
    refine AllReadyH.cons (o := ⟨none, _, _, _, _, _⟩) rfl (fun K hK => ?_) AllReadyH.nil
    obtain ⟨w9, hru, ho9, hg9⟩ := World.ownsMap.update (HV.out _ HD2.out.1 HD2.out.2).2 keyed Try.underlying55 (by have := (HKD.out.kv.cv HI.out).len; unfold maxLen; omega) (key := .string x.ev.room) (val := .pointer (some ⟨gd, 0, none⟩)) (d := .held (.pointer (some ⟨gd, 0, none⟩))) (ps := []) (keyIs (Nat.le_trans HR.out (by decide))) rfl
    have HG9 := Lib.hid hg9
    have HO9 := Lib.hid ho9
    have hc9 : w9.cell? ⟨v.g, 0, none⟩ = some (.map (some v.mb)) := by
      have hcv := HK.out.cv HI.out
      have h1 := hHeld
      rw [World.cell?] at h1 ⊢
      rw [hg9.block v.g (by have h2 := hcv.old (.inl rfl); have h3 := HD2.out.2.size; have h4 : w0.heap.size ≤ w1.heap.size := by { rcases HD.out with ⟨d, -, -, -, rfl⟩ | ⟨-, -, hb, -⟩; exact Nat.le_refl _; exact hb.size }; omega) (fun e => hcv.gm (by injection e))]
      exact h1
    clear ho9 hg9
    go_simp
    refine hK.out _ _ hc9 (fun hHeld => ?_)
    clear hK K
    try simp only [Act.put, List.setIfInBounds_toArray, List.set_cons_zero, List.set_cons_succ]
    refine wpAnyH_done (by kernel_rfl) ?_ _
    go_wp2_with fail
    go_ret
    obtain ⟨v', g1, g2, g3⟩ := Kv.added HK.out HI.out HD.out HN.out HE.out HD2.out.1 HD2.out.2 HO9.out HG9.out
    exact ⟨v', by rw [HE.out]; rfl, g1, g2, g3.less (fun t ht => List.mem_cons_of_mem _ ht)⟩
  · have q1 : (errV v.V x.ev == 0) = false := by rw [beq_eq_false_iff_ne]; exact he
    have HE := Lib.hid he
    have hadd : Hid (addA x.ev.room (ofL v.V x.ev.room) x.ev = ofL v.V x.ev.room) := Lib.hid (by unfold addA; rw [HER.out, if_neg he])
    have hadv : Hid (addV v.V x.ev = v.V) := Lib.hid (by unfold addV; rw [if_neg he])
    clear he
    go_wp2_with fail
    go_ret
    refine ⟨v, rfl, rfl, hadv.out.symm, ?_⟩
    rw [set_same HI.out]
    have hc2 := HC2.out
    rw [hadd.out] at hc2
    exact ((HKD.out.step hc2 HT2.out).1.kv).less (fun t ht => List.mem_cons_of_mem _ ht)
end
end Go.Proofs.Ytjiecjpepiknmaa
