/-
  What the statements stand on, part ZA11.
-/
import Derived.Test.YtnnapkakbdpkaaaGreatZA10
set_option linter.unusedVariables false
set_option linter.unusedSimpArgs false
namespace Go.Proofs.YtnnapkakbdpkaaaGreat
set_option maxRecDepth 20000
open Go.RowKit
section
variable {w w' : World} {g mb : Nat} {room : ByteArray} {ns : List NdV} {D : Dv}
theorem DgS.still (h : DgS w g room mb ns D) (hb : Below w.heap.size w w') : CDc w' g room (nevs ns) ∧ TurnD ownC w w' g :=
 ⟨⟨mb, ns, D, h.below hb, rfl⟩, hb.os, hb.tape, hb.output, hb.size, fun k hk _ => hb.block k hk, fun k hk => .inl ((h.own k).2 (((h.below hb).own k).1 hk))⟩
theorem DgS.put {wq wz : World} {D' : Dv} {n : NdV} (h : DgS w g room mb ns D) (hb : Below w.heap.size w wq) (hm : LT.Mine wq w.heap.size n.x.pv n.x.ev.parents) (he : errA room (nevs ns) n.x.ev = 0) (hd : n.d = depE (nevs ns) (deps (nevs ns)) n.x.ev)
  (ho : OwnN wz mb (ns.length + 1) (D.put (kl n.x.ev.id) (.held n.val))) (hg : wq.grownBy wz (some mb)) : CDc wz g room (nevs ns ++ [n.x.ev]) ∧ TurnD ownC w wz g := by
 have hq := h.below hb
 have hmb : mb < w.heap.size := h.map.lt
 have hap : ∀ k, n.x.pv.ownBlock = some k → some k ≠ some mb := fun k hk e => by
  injection e with e
  have := (hm.lt k hk).1
  omega
 have hnew : DgS wz g room mb (ns ++ [n]) (D.put (kl n.x.ev.id) (.held n.val)) := by
  refine ⟨(hg.block g (smem_lt hq.hd) (fun e => h.gm (by injection e))).trans hq.hd, by rw [List.length_append]; exact ho, h.is.put n (err_zero he).2.2.1, fun m hmm => ?_, ?_, ?_, h.rs⟩
  ·rcases List.mem_append.1 hmm with hmm | hmm
   ·refine (hq.par m hmm).grown hg (fun k hk e => ?_)
    injection e with e
    subst e
    have h1 := hq.par m hmm
    rcases h1 with ⟨h1, _⟩ | ⟨gg, off, cap, cur, h1, _, hh, _⟩
    ·rw [h1] at hk; cases hk
    ·rw [h1] at hk
     simp only [Value.ownBlock, Option.some.injEq] at hk
     subst hk
     obtain ⟨xs, clock, hb', _⟩ := hq.map
     rw [hb'] at hh
     cases hh
   ·rw [List.mem_singleton] at hmm
    subst hmm
    exact (hm.grown hg hap).mono (Nat.zero_le _)
  ·rw [show nevs (ns ++ [n]) = nevs ns ++ [n.x.ev] by simp [nevs], deps_snoc, ← hd, List.map_append, h.dep]
   rfl
  ·rw [show nevs (ns ++ [n]) = nevs ns ++ [n.x.ev] by simp [nevs]]
   exact valid_snoc h.val he
 refine ⟨⟨mb, ns ++ [n], _, hnew, by simp [nevs]⟩, hg.os.trans hb.os, hg.tape.trans hb.tape, hg.output.trans hb.output, Nat.le_trans hb.size hg.size, fun k hk hno => ?_, fun k hk => ?_⟩
 ·exact (hg.block k (Nat.lt_of_lt_of_le hk hb.size) (fun e => hno (by injection e with e; subst e; exact (h.own k).2 (.inr (.inl rfl))))).trans (hb.block k hk)
 ·rcases (hnew.own k).1 hk with e | e | ⟨m, hmm, hk'⟩
  ·exact .inl ((h.own k).2 (.inl e))
  ·exact .inl ((h.own k).2 (.inr (.inl e)))
  ·rcases List.mem_append.1 hmm with hmm | hmm
   ·exact .inl ((h.own k).2 (.inr (.inr ⟨m, hmm, hk'⟩)))
   ·rw [List.mem_singleton] at hmm
    subst hmm
    exact .inr (hm.lt k hk').1
set_option maxHeartbeats 3200000 in
theorem add_any7 (h : DgS w g room mb ns D) (hl : ns.length ≤ 1000) (x : EvV) (hx : x.at w) :
  Calls Tryz.prog 48 #[.pointer (some ⟨g, 0, none⟩), x.val] w fun e w' => e = .returned (.int .i64 (errA room (nevs ns) x.ev)) ∧ CDc w' g room (addA room (nevs ns) x.ev) ∧ TurnD ownC w w' g := by
 have HX := Lib.hid hx
 have HW := Lib.hid (heap_alloc_new w (.cells #[.string x.ev.id, .string x.ev.room, .slice x.A x.ev.parents.length x.cap, .string x.ev.thread, .string x.ev.user, .int .i64 x.ev.does] 52))
 have HB := Lib.hid (below_new w (.cells #[.string x.ev.id, .string x.ev.room, .slice x.A x.ev.parents.length x.cap, .string x.ev.thread, .string x.ev.user, .int .i64 x.ev.does] 52))
 have HD := Lib.hid h
 have HE := Lib.hid (errA_stand room (nevs ns) x.ev)
 have HNO : Hid (∀ {W : World} {c : Int}, Below w.heap.size w W → errA room (nevs ns) x.ev = c → c ≠ 0 → (Ending.returned (.int .i64 c) = Ending.returned (.int .i64 (errA room (nevs ns) x.ev)) ∧ CDc W g room (addA room (nevs ns) x.ev) ∧ TurnD ownC w W g)) := Lib.hid (fun hb he hc => by
  refine ⟨by rw [he], ?_⟩
  rw [show addA room (nevs ns) x.ev = nevs ns by unfold addA; rw [he, if_neg hc]]
  exact h.still hb)
 have HMY := Lib.hid (fun W (hb : Below w.heap.size w W) => may_any x W (hx.below hb))
 clear h hx
 unfold EvV.val EvV.pv at *
 go_enter Tryz.func48, Tryz.ntmps48
 go_upto_region 1 with (fail)
 generalize w.alloc _ = w1 at HW HB ⊢
 generalize hBB : w.heap.size = B at HW ⊢
 refine wp_region_held_drew (S := fun w' => Below w.heap.size w w' ∧ w'.heap[B]? = some (.cells #[.string x.ev.id, .string x.ev.room, .slice x.A x.ev.parents.length x.cap, .string x.ev.thread, .string x.ev.user, .int .i64 x.ev.does] 52 (0, 0))) (by kernel_rfl) ⟨HB.out.drew, HW.out⟩ (fun hHeld => ?_)
 clear HB HW
 generalize w1.drew = wd at hHeld ⊢
 refine wpAnyH_take (i := 0) (oi := ⟨some 7, _, _, _, _, _⟩) (v := ?va0) rfl (by kernel_rfl) (by kernel_rfl) (by kernel_rfl) (fun _ _ _ h => h) (Or.inl ⟨by rfl, ?ya0⟩) hHeld ?ra0
 case ya0 =>
  intro wx hSx
  have p0 := cell_at hSx.2 0
  have p1 := cell_at hSx.2 1
  have p2 := cell_at hSx.2 2
  have p3 := cell_at hSx.2 3
  have p4 := cell_at hSx.2 4
  have p5 := cell_at hSx.2 5
  simp only [List.getElem?_toArray, List.getElem?_cons_succ, List.getElem?_cons_zero] at p0 p1 p2 p3 p4 p5
  go_simp
  try with_reducible rfl
 try simp only [actS]
 refine wpAnyH_ready (rs := [1]) (by kernel_rfl) (by simp) ?_
 refine AllReadyH.cons (o := ⟨some 8, _, _, _, _, _⟩) rfl (fun K hK => ?_) AllReadyH.nil
 go_simp
 refine (HMY.out _ hHeld.1).mono ?_
 rintro e wn ⟨rfl, hbn⟩
 refine hK.out _ _ ⟨hHeld.1.trans (hbn.mono hHeld.1.size), (hbn.block B (smem_lt hHeld.2)).trans hHeld.2⟩ (fun hHeld => ?_)
 clear hK K hbn HMY
 try simp only [actS]
 refine wpAnyH_take (i := 2) (oi := ⟨some 9, _, _, _, _, _⟩) (v := ?va2) rfl (by kernel_rfl) (by kernel_rfl) (by kernel_rfl) (fun _ _ _ h => h) (Or.inl ⟨by rfl, ?ya2⟩) hHeld ?ra2
 case ya2 =>
  intro wx hSx
  go_simp
  try with_reducible rfl
 try simp only [actS]
 refine wpAnyH_take (i := 3) (oi := ⟨some 10, _, _, _, _, _⟩) (v := ?va3) rfl (by kernel_rfl) (by kernel_rfl) (by kernel_rfl) (fun _ _ _ h => h) (Or.inl ⟨by rfl, ?ya3⟩) hHeld ?ra3
 case ya3 =>
  intro wx hSx
  go_simp
  try with_reducible rfl
 try simp only [actS]
 generalize hmay : mayE x.ev = my at HE ⊢
 cases my
 ·refine wpAnyH_take (i := 4) (oi := ⟨some 11, _, _, _, _, _⟩) (v := undef) rfl (by kernel_rfl) (by kernel_rfl) (by kernel_rfl) (fun _ _ _ h => h) (Or.inr ⟨by rfl, rfl⟩) hHeld ?rb4
  try simp only [actS]
  refine wpAnyH_take (i := 5) (oi := ⟨some 12, _, _, _, _, _⟩) (v := undef) rfl (by kernel_rfl) (by kernel_rfl) (by kernel_rfl) (fun _ _ _ h => h) (Or.inr ⟨by rfl, rfl⟩) hHeld ?rb5
  try simp only [actS]
  refine wpAnyH_take (i := 6) (oi := ⟨some 13, _, _, _, _, _⟩) (v := undef) rfl (by kernel_rfl) (by kernel_rfl) (by kernel_rfl) (fun _ _ _ h => h) (Or.inr ⟨by rfl, rfl⟩) hHeld ?rb6
  try simp only [actS]
  refine wpAnyH_take (i := 7) (oi := ⟨some 14, _, _, _, _, _⟩) (v := undef) rfl (by kernel_rfl) (by kernel_rfl) (by kernel_rfl) (fun _ _ _ h => h) (Or.inr ⟨by rfl, rfl⟩) hHeld ?rb7
  try simp only [actS]
  refine wpAnyH_take (i := 8) (oi := ⟨some 15, _, _, _, _, _⟩) (v := undef) rfl (by kernel_rfl) (by kernel_rfl) (by kernel_rfl) (fun _ _ _ h => h) (Or.inr ⟨by rfl, rfl⟩) hHeld ?rb8
  try simp only [actS]
  refine wpAnyH_take (i := 9) (oi := ⟨some 16, _, _, _, _, _⟩) (v := undef) rfl (by kernel_rfl) (by kernel_rfl) (by kernel_rfl) (fun _ _ _ h => h) (Or.inr ⟨by rfl, rfl⟩) hHeld ?rb9
  try simp only [actS]
  refine wpAnyH_take (i := 10) (oi := ⟨some 17, _, _, _, _, _⟩) (v := undef) rfl (by kernel_rfl) (by kernel_rfl) (by kernel_rfl) (fun _ _ _ h => h) (Or.inr ⟨by rfl, rfl⟩) hHeld ?rb10
  try simp only [actS]
  refine wpAnyH_take (i := 11) (oi := ⟨some 18, _, _, _, _, _⟩) (v := ?vb11) rfl (by kernel_rfl) (by kernel_rfl) (by kernel_rfl) (fun _ _ _ h => h) (Or.inl ⟨by rfl, ?yb11⟩) hHeld ?rb11
  case yb11 =>
   intro wx hSx
   go_simp
   try with_reducible rfl
  try simp only [actS]
  refine wpAnyH_done (by kernel_rfl) ?_ _
  go_wp2_with fail
  go_ret
  exact HNO.out hHeld.1 (by rw [HE.out]; rfl) (by decide)
 ·generalize hroom : (x.ev.room.toList == room.toList) = rb
  rw [keyB] at hroom
  refine wpAnyH_take (i := 4) (oi := ⟨some 11, _, _, _, _, _⟩) (v := ?vc4) rfl (by kernel_rfl) (by kernel_rfl) (by kernel_rfl) (fun _ _ _ h => h) (Or.inl ⟨by rfl, ?yc4⟩) hHeld ?rc4
  case yc4 =>
   intro wx hSx
   go_simp
   try with_reducible rfl
  try simp only [actS]
  refine wpAnyH_take (i := 5) (oi := ⟨some 12, _, _, _, _, _⟩) (v := ?vc5) rfl (by kernel_rfl) (by kernel_rfl) (by kernel_rfl) (fun _ _ _ h => h) (Or.inl ⟨by rfl, ?yc5⟩) hHeld ?rc5
  case yc5 =>
   intro wx hSx
   have z := cell_at hSx.2 1
   simp only [List.getElem?_toArray, List.getElem?_cons_succ, List.getElem?_cons_zero] at z
   go_simp
   try with_reducible rfl
  try simp only [actS]
  refine wpAnyH_take (i := 6) (oi := ⟨some 13, _, _, _, _, _⟩) (v := ?vc6) rfl (by kernel_rfl) (by kernel_rfl) (by kernel_rfl) (fun _ _ _ h => h) (Or.inl ⟨by rfl, ?yc6⟩) hHeld ?rc6
  case yc6 =>
   intro wx hSx
   go_simp
   try with_reducible rfl
  try simp only [actS]
  refine wpAnyH_take (i := 7) (oi := ⟨some 14, _, _, _, _, _⟩) (v := ?vc7) rfl (by kernel_rfl) (by kernel_rfl) (by kernel_rfl) (fun _ _ _ h => h) (Or.inl ⟨by rfl, ?yc7⟩) hHeld ?rc7
  case yc7 =>
   intro wx hSx
   go_simp
   try with_reducible rfl
  try simp only [actS]
  refine wpAnyH_take (i := 8) (oi := ⟨some 15, _, _, _, _, _⟩) (v := ?vc8) rfl (by kernel_rfl) (by kernel_rfl) (by kernel_rfl) (fun _ _ _ h => h) (Or.inl ⟨by rfl, ?yc8⟩) hHeld ?rc8
  case yc8 =>
   intro wx hSx
   go_simp
   try with_reducible rfl
  try simp only [actS]
  refine wpAnyH_take (i := 9) (oi := ⟨some 16, _, _, _, _, _⟩) (v := ?vc9) rfl (by kernel_rfl) (by kernel_rfl) (by kernel_rfl) (fun _ _ _ h => h) (Or.inl ⟨by rfl, ?yc9⟩) hHeld ?rc9
  case yc9 =>
   intro wx hSx
   have z := (HD.out.below hSx.1).c0
   go_simp
   try with_reducible rfl
  try simp only [actS]
  refine wpAnyH_take (i := 10) (oi := ⟨some 17, _, _, _, _, _⟩) (v := ?vc10) rfl (by kernel_rfl) (by kernel_rfl) (by kernel_rfl) (fun _ _ _ h => h) (Or.inl ⟨by rfl, ?yc10⟩) hHeld ?rc10
  case yc10 =>
   intro wx hSx
   go_simp
   try with_reducible rfl
  try simp only [actS]
  refine wpAnyH_take (i := 11) (oi := ⟨some 18, _, _, _, _, _⟩) (v := ?vc11) rfl (by kernel_rfl) (by kernel_rfl) (by kernel_rfl) (fun _ _ _ h => h) (Or.inl ⟨by rfl, ?yc11⟩) hHeld ?rc11
  case yc11 =>
   intro wx hSx
   go_simp
   try with_reducible rfl
  try simp only [actS]
  refine wpAnyH_done (by kernel_rfl) ?_ _
  cases rb
  ·have q1 : (x.ev.room.toList == room.toList) = false := by rw [keyB]; exact hroom
   simp only [q1, Bool.not_false]
   go_wp2_with fail
   go_ret
   exact HNO.out hHeld.1 (by rw [HE.out, hroom]; rfl) (by decide)
  ·have q1 : (x.ev.room.toList == room.toList) = true := by rw [keyB]; exact hroom
   simp only [q1, Bool.not_true]
   rw [hroom, Bool.true_and, if_neg (by decide)] at HE
   have HDN := Lib.hid (HD.out.below hHeld.1)
   have HBN := Lib.hid hHeld.1
   have HWN := Lib.hid hHeld.2
   have p0 : wn.cell? ⟨B, 0, none⟩ = some (.string x.ev.id) := cell_at HWN.out 0
   have HH := Lib.hid (has_code HDN.out x.ev.id HX.out.2.1)
   clear hHeld
   go_wp2_with fail
   go_at_call 77
   refine HH.out.mono ?_
   rintro e w2 ⟨rfl, b2⟩
   replace HWN := Lib.hid ((b2.block B (smem_lt HWN.out)).trans HWN.out)
   replace HBN := Lib.hid (HBN.out.trans (b2.mono HBN.out.size))
   clear b2 p0 HH HDN
   generalize hhas : hasE (nevs ns) x.ev.id = hb at HE ⊢
   cases hb
   rotate_left
   ·go_wp2_with fail
    go_ret
    exact HNO.out HBN.out (by rw [HE.out]; rfl) (by decide)
   ·rw [if_neg (by decide)] at HE
    have HDN := Lib.hid (HD.out.below HBN.out)
    have HS := Lib.hid (stands_any7 HDN.out x (HX.out.below HBN.out))
    unfold EvV.val EvV.pv at HS
    have p0 : w2.cell? ⟨B, 0, none⟩ = some (.string x.ev.id) := cell_at HWN.out 0
    have p1 : w2.cell? ⟨B, 1, none⟩ = some (.string x.ev.room) := cell_at HWN.out 1
    have p2 : w2.cell? ⟨B, 2, none⟩ = some (.slice x.A x.ev.parents.length x.cap) := cell_at HWN.out 2
    have p3 : w2.cell? ⟨B, 3, none⟩ = some (.string x.ev.thread) := cell_at HWN.out 3
    have p4 : w2.cell? ⟨B, 4, none⟩ = some (.string x.ev.user) := cell_at HWN.out 4
    have p5 : w2.cell? ⟨B, 5, none⟩ = some (.int .i64 x.ev.does) := cell_at HWN.out 5
    go_wp2_with fail
    go_at_call 78
    refine HS.out.mono ?_
    rintro e w3 ⟨rfl, b3⟩
    replace HWN := Lib.hid ((b3.block B (smem_lt HWN.out)).trans HWN.out)
    replace HBN := Lib.hid (HBN.out.trans (b3.mono HBN.out.size))
    clear b3 p0 p1 p2 p3 p4 p5 HS HDN
    by_cases hz : standA (nevs ns) x.ev = 0
    rotate_left
    ·have q4 : (standA (nevs ns) x.ev != 0) = true := by rw [bne_iff_ne]; exact hz
     go_wp2_with fail
     go_ret
     exact HNO.out HBN.out (by rw [HE.out]) hz
    ·have HE0 := Lib.hid (HE.out.trans hz)
     rw [hz]
     clear HNO HE hz
     have HMA := Lib.hid (err_zero HE0.out)
     go_upto_region 8 with (fail)
     refine wp_region_held_drew (S := fun w' => Below w.heap.size w w' ∧ w'.heap[B]? = some (.cells #[.string x.ev.id, .string x.ev.room, .slice x.A x.ev.parents.length x.cap, .string x.ev.thread, .string x.ev.user, .int .i64 x.ev.does] 52 (0, 0))) (by kernel_rfl) ⟨HBN.out.drew, HWN.out⟩ (fun hHeld => ?_)
     clear HBN HWN
     generalize w3.drew = wd at hHeld ⊢
     refine wpAnyH_take (i := 0) (oi := ⟨some 29, _, _, _, _, _⟩) (v := ?vd0) rfl (by kernel_rfl) (by kernel_rfl) (by kernel_rfl) (fun _ _ _ h => h) (Or.inl ⟨by rfl, ?yd0⟩) hHeld ?rd0
     case yd0 =>
      intro wx hSx
      have p0 := cell_at hSx.2 0
      have p1 := cell_at hSx.2 1
      have p2 := cell_at hSx.2 2
      have p3 := cell_at hSx.2 3
      have p4 := cell_at hSx.2 4
      have p5 := cell_at hSx.2 5
      simp only [List.getElem?_toArray, List.getElem?_cons_succ, List.getElem?_cons_zero] at p0 p1 p2 p3 p4 p5
      go_simp
      try with_reducible rfl
     try simp only [actS]
     refine wpAnyH_take (i := 2) (oi := ⟨some 31, _, _, _, _, _⟩) (v := ?vd2) rfl (by kernel_rfl) (by kernel_rfl) (by kernel_rfl) (fun _ _ _ h => h) (Or.inl ⟨by rfl, ?yd2⟩) hHeld ?rd2
     case yd2 =>
      intro wx hSx
      go_simp
      try with_reducible rfl
     try simp only [actS]
     refine wpAnyH_take (i := 3) (oi := ⟨some 32, _, _, _, _, _⟩) (v := ?vd3) rfl (by kernel_rfl) (by kernel_rfl) (by kernel_rfl) (fun _ _ _ h => h) (Or.inl ⟨by rfl, ?yd3⟩) hHeld ?rd3
     case yd3 =>
      intro wx hSx
      go_simp
      try with_reducible rfl
     try simp only [actS]
     refine wpAnyH_take (i := 4) (oi := ⟨some 33, _, _, _, _, _⟩) (v := ?vd4) rfl (by kernel_rfl) (by kernel_rfl) (by kernel_rfl) (fun _ _ _ h => h) (Or.inl ⟨by rfl, ?yd4⟩) hHeld ?rd4
     case yd4 =>
      intro wx hSx
      have z := cell_at hSx.2 2
      simp only [List.getElem?_toArray, List.getElem?_cons_succ, List.getElem?_cons_zero] at z
      go_simp
      try with_reducible rfl
     try simp only [actS]
     have HOW := Lib.hid (fun W (hb : Below w.heap.size w W) => own_any x W (HX.out.below hb).1 HMA.out.1)
     have HDB := Lib.hid (fun W (hb : Below w.heap.size w W) => depthBehind_any (HD.out.below hb) (.slice x.A x.ev.parents.length x.cap) x.ev.parents (HX.out.below hb).1 (fun p hp => ⟨HX.out.2.2.2.2.2.1 p hp, HMA.out.2.2.2.1 p hp⟩) (by omega))
     have HDD := Lib.hid (dpTo_all HMA.out.2.2.2.1)
     generalize dpTo (nevs ns) x.ev.parents x.ev.parents.length = dd at HDB HDD
     unfold EvV.val EvV.pv at HOW
     refine wpAnyH_ready (rs := [1, 7]) (by kernel_rfl) (by simp) ?_
     refine AllReadyH.cons (o := ⟨some 30, _, _, _, _, _⟩) rfl (fun K hK => ?wayA) (AllReadyH.cons (o := ⟨some 6, _, _, _, _, _⟩) rfl (fun K hK => ?wayB) AllReadyH.nil)
     case wayA =>
      go_simp
      refine (HOW.out _ hHeld.1).mono ?_
      rintro e wo ⟨y, rfl, hy, hm, hbo⟩
      have HY := Lib.hid hy
      clear hy
      have HMY := Lib.hid (show LT.Mine wo w.heap.size y.pv y.ev.parents from hm.mono hHeld.1.size)
      clear hm
      refine hK.out _ _ ⟨hHeld.1.trans (hbo.mono hHeld.1.size), (hbo.block B (smem_lt hHeld.2)).trans hHeld.2⟩ (fun hHeld => ?_)
      clear hK K hbo
      try simp only [actS]
      refine anyH_asks (i := 5) (oi := ⟨some 34, _, _, _, _, _⟩) (v := .int .i64 ((dd : Nat) : Int)) rfl (by kernel_rfl) (by kernel_rfl) (by kernel_rfl) (fun _ _ _ h => h) ⟨by rfl, fun wx hSx => ⟨_, _, ?ee5, (HDB.out wx hSx.1).mono (fun _ _ h => ⟨h.1, h.2.symm⟩)⟩⟩ hHeld ?re5
      case ee5 => go_simp
      try simp only [actS]
      refine wpAnyH_take (i := 6) (oi := ⟨some 35, _, _, _, _, _⟩) (v := ?ve6) rfl (by kernel_rfl) (by kernel_rfl) (by kernel_rfl) (fun _ _ _ h => h) (Or.inl ⟨by rfl, ?ye6⟩) hHeld ?re6
      case ye6 =>
       intro wx hSx
       go_simp
       try with_reducible rfl
      try simp only [actS]
      refine wpAnyH_ready (rs := [7]) (by kernel_rfl) (by simp) ?_
      refine AllReadyH.cons (o := ⟨some 6, _, _, _, _, _⟩) rfl (fun K hK => ?_) AllReadyH.nil
      have hbn := below_new wo (.cells #[.string ⟨#[]⟩, .string ⟨#[]⟩, .slice none 0 0, .string ⟨#[]⟩, .string ⟨#[]⟩, .int .i64 0, .int .i64 0] 161)
      have hnw := heap_alloc_new wo (.cells #[.string ⟨#[]⟩, .string ⟨#[]⟩, .slice none 0 0, .string ⟨#[]⟩, .string ⟨#[]⟩, .int .i64 0, .int .i64 0] 161)
      have hbl := smem_lt hHeld.2
      have hsz := hHeld.1.size
      replace HMY := Lib.hid (HMY.out.below hbn)
      go_simp
      refine hK.out _ _ ⟨hHeld.1.trans (hbn.mono hHeld.1.size), (hbn.block B (smem_lt hHeld.2)).trans hHeld.2⟩ (fun hHeld => ?_)
      clear hK K hbn
      try simp only [actS]
      generalize wo.alloc _ = we at hHeld hnw HMY ⊢
      generalize wo.heap.size = B7 at hnw hbl hsz ⊢
      refine wpAnyH_ready (rs := [8]) (by kernel_rfl) (by simp) ?_
      refine AllReadyH.cons (o := ⟨none, _, _, _, _, _⟩) rfl (fun K hK => ?_) AllReadyH.nil
      have y0 : we.cell? ⟨B7, 0, none⟩ = some (.string ⟨#[]⟩) := cell_at hnw 0
      have z0 : we.frozen? ⟨B7, 0, none⟩ = false := free_at hnw 0
      have y1 : we.cell? ⟨B7, 1, none⟩ = some (.string ⟨#[]⟩) := cell_at hnw 1
      have z1 : we.frozen? ⟨B7, 1, none⟩ = false := free_at hnw 1
      have y2 : we.cell? ⟨B7, 2, none⟩ = some (.slice none 0 0) := cell_at hnw 2
      have z2 : we.frozen? ⟨B7, 2, none⟩ = false := free_at hnw 2
      have y3 : we.cell? ⟨B7, 3, none⟩ = some (.string ⟨#[]⟩) := cell_at hnw 3
      have z3 : we.frozen? ⟨B7, 3, none⟩ = false := free_at hnw 3
      have y4 : we.cell? ⟨B7, 4, none⟩ = some (.string ⟨#[]⟩) := cell_at hnw 4
      have z4 : we.frozen? ⟨B7, 4, none⟩ = false := free_at hnw 4
      have y5 : we.cell? ⟨B7, 5, none⟩ = some (.int .i64 0) := cell_at hnw 5
      have z5 : we.frozen? ⟨B7, 5, none⟩ = false := free_at hnw 5
      have y6 : we.cell? ⟨B7, 6, none⟩ = some (.int .i64 0) := cell_at hnw 6
      have z6 : we.frozen? ⟨B7, 6, none⟩ = false := free_at hnw 6
      have HAN := nd_stored hnw (.string y.ev.id) (.string y.ev.room) (.slice y.A y.ev.parents.length y.cap) (.string y.ev.thread) (.string y.ev.user) (.int .i64 y.ev.does) (.int .i64 ((dd : Nat) : Int)) rfl _ rfl
      simp only [World.setCells] at HAN
      have HNE := Lib.hid (mine_ne HMY.out hnw (by decide))
      go_simp
      generalize World.setCell _ _ _ = w9 at HAN ⊢
      obtain ⟨k0, k6⟩ := HAN
      replace HMY := Lib.hid (HMY.out.grown k6 (fun j hj e => by injection e with e; exact HNE.out j hj e))
      refine hK.out _ _ ⟨hHeld.1.grown k6 hHeld.1.size (fun j hj => by injection hj with hj; omega), (k6.block B (smem_lt hHeld.2) (fun e => by injection e with e; omega)).trans hHeld.2⟩ (fun hHeld => ?_)
      clear hK K hnw HNE y0 z0 y1 z1 y2 z2 y3 z3 y4 z4 y5 z5 y6 z6
      try simp only [actS]
      refine wpAnyH_done (by kernel_rfl) ?_ _
      have HBN := Lib.hid hHeld.1
      have HDN := Lib.hid (HD.out.below hHeld.1)
      go_upto_region 9 with (fail)
      refine wp_region_held_drew (S := fun w' => w'.heap[g]? = some (.cells #[.string room, .map (some mb)] 157 (0, 0)) ∧ w'.heap[B7]? = some (.cells #[.string y.ev.id, .string y.ev.room, .slice y.A y.ev.parents.length y.cap, .string y.ev.thread, .string y.ev.user, .int .i64 y.ev.does, .int .i64 ((dd : Nat) : Int)] 161 (0, 0))) (by kernel_rfl) ⟨HDN.out.hd, k0⟩ (fun hHeld => ?_)
      replace HBN := Lib.hid HBN.out.drew
      replace HDN := Lib.hid HDN.out.drew
      replace HMY := Lib.hid (show LT.Mine w9.drew w.heap.size y.pv y.ev.parents from HMY.out)
      clear k0
      generalize w9.drew = wq at HBN HDN HMY hHeld ⊢
      obtain ⟨wz, hrun, howz, hgz⟩ := World.ownsMap.update HDN.out.map keyed Tryz.underlying155 (n := ns.length) (by unfold maxLen; omega) (key := .string y.ev.id) (val := NdV.val ⟨y, dd⟩) (d := .held (NdV.val ⟨y, dd⟩)) (ps := []) (keyIs (by rw [HY.out]; exact HX.out.2.1)) rfl
      have HPUT := Lib.hid (DgS.put (n := ⟨y, dd⟩) (D' := D) HD.out HBN.out HMY.out (by simp only; rw [HY.out]; exact HE0.out) (by simp only; rw [HY.out]; exact HDD.out) howz hgz)
      unfold NdV.val EvV.pv at hrun
      clear howz
      refine wpAnyH_take (i := 0) (oi := ⟨some 36, _, _, _, _, _⟩) (v := ?vf0) rfl (by kernel_rfl) (by kernel_rfl) (by kernel_rfl) (fun _ _ _ h => h) (Or.inl ⟨by rfl, ?yf0⟩) hHeld ?rf0
      case yf0 =>
       intro wx hSx
       go_simp
       try with_reducible rfl
      try simp only [actS]
      refine wpAnyH_take (i := 1) (oi := ⟨some 37, _, _, _, _, _⟩) (v := ?vf1) rfl (by kernel_rfl) (by kernel_rfl) (by kernel_rfl) (fun _ _ _ h => h) (Or.inl ⟨by rfl, ?yf1⟩) hHeld ?rf1
      case yf1 =>
       intro wx hSx
       go_simp
       try with_reducible rfl
      try simp only [actS]
      refine wpAnyH_take (i := 2) (oi := ⟨some 38, _, _, _, _, _⟩) (v := ?vf2) rfl (by kernel_rfl) (by kernel_rfl) (by kernel_rfl) (fun _ _ _ h => h) (Or.inl ⟨by rfl, ?yf2⟩) hHeld ?rf2
      case yf2 =>
       intro wx hSx
       go_simp
       try with_reducible rfl
      try simp only [actS]
      refine wpAnyH_take (i := 4) (oi := ⟨some 40, _, _, _, _, _⟩) (v := ?vf4) rfl (by kernel_rfl) (by kernel_rfl) (by kernel_rfl) (fun _ _ _ h => h) (Or.inl ⟨by rfl, ?yf4⟩) hHeld ?rf4
      case yf4 =>
       intro wx hSx
       go_simp
       try with_reducible rfl
      try simp only [actS]
      refine wpAnyH_take (i := 5) (oi := ⟨some 41, _, _, _, _, _⟩) (v := ?vf5) rfl (by kernel_rfl) (by kernel_rfl) (by kernel_rfl) (fun _ _ _ h => h) (Or.inl ⟨by rfl, ?yf5⟩) hHeld ?rf5
      case yf5 =>
       intro wx hSx
       go_simp
       try with_reducible rfl
      try simp only [actS]
      refine wpAnyH_take (i := 3) (oi := ⟨some 39, _, _, _, _, _⟩) (v := ?vf3) rfl (by kernel_rfl) (by kernel_rfl) (by kernel_rfl) (fun _ _ _ h => h) (Or.inl ⟨by rfl, ?yf3⟩) hHeld ?rf3
      case yf3 =>
       intro wx hSx
       have z := cell_at hSx.1 1
       simp only [List.getElem?_toArray, List.getElem?_cons_succ, List.getElem?_cons_zero] at z
       go_simp
       try with_reducible rfl
      try simp only [actS]
      refine wpAnyH_take (i := 6) (oi := ⟨some 42, _, _, _, _, _⟩) (v := ?vf6) rfl (by kernel_rfl) (by kernel_rfl) (by kernel_rfl) (fun _ _ _ h => h) (Or.inl ⟨by rfl, ?yf6⟩) hHeld ?rf6
      case yf6 =>
       intro wx hSx
       have z := cell_at hSx.2 0
       simp only [List.getElem?_toArray, List.getElem?_cons_succ, List.getElem?_cons_zero] at z
       go_simp
       try with_reducible rfl
      try simp only [actS]
      refine wpAnyH_take (i := 7) (oi := ⟨some 43, _, _, _, _, _⟩) (v := ?vf7) rfl (by kernel_rfl) (by kernel_rfl) (by kernel_rfl) (fun _ _ _ h => h) (Or.inl ⟨by rfl, ?yf7⟩) hHeld ?rf7
      case yf7 =>
       intro wx hSx
       have p0 := cell_at hSx.2 0
       have p1 := cell_at hSx.2 1
       have p2 := cell_at hSx.2 2
       have p3 := cell_at hSx.2 3
       have p4 := cell_at hSx.2 4
       have p5 := cell_at hSx.2 5
       have p6 := cell_at hSx.2 6
       simp only [List.getElem?_toArray, List.getElem?_cons_succ, List.getElem?_cons_zero] at p0 p1 p2 p3 p4 p5 p6
       go_simp
       try with_reducible rfl
      try simp only [actS]
      refine wpAnyH_ready (rs := [8]) (by kernel_rfl) (by simp) ?_
      refine AllReadyH.cons (o := ⟨none, _, _, _, _, _⟩) rfl (fun K hK => ?_) AllReadyH.nil
      have hg1 : g ≠ mb := HD.out.gm
      have hb7 : B7 ≠ mb := fun e => by
       have := HD.out.map.lt
       omega
      go_simp
      refine hK.out _ _ ⟨(hgz.block g (smem_lt hHeld.1) (fun e => hg1 (by injection e))).trans hHeld.1, (hgz.block B7 (smem_lt hHeld.2) (fun e => hb7 (by injection e))).trans hHeld.2⟩ (fun hHeld => ?_)
      clear hK K
      try simp only [actS]
      refine wpAnyH_done (by kernel_rfl) ?_ _
      go_wp2_with fail
      go_ret
      refine ⟨by rw [HE0.out]; rfl, ?_⟩
      have hadd : addA room (nevs ns) x.ev = nevs ns ++ [x.ev] := by unfold addA; rw [HE0.out, if_pos rfl]
      have hput := HPUT.out
      rw [HY.out] at hput
      rw [hadd]
      exact hput
     case wayB =>
      have hbn := below_new wd (.cells #[.string ⟨#[]⟩, .string ⟨#[]⟩, .slice none 0 0, .string ⟨#[]⟩, .string ⟨#[]⟩, .int .i64 0, .int .i64 0] 161)
      have hnw := heap_alloc_new wd (.cells #[.string ⟨#[]⟩, .string ⟨#[]⟩, .slice none 0 0, .string ⟨#[]⟩, .string ⟨#[]⟩, .int .i64 0, .int .i64 0] 161)
      have hbl := smem_lt hHeld.2
      have hsz := hHeld.1.size
      go_simp
      refine hK.out _ _ ⟨hHeld.1.trans (hbn.mono hHeld.1.size), (hbn.block B (smem_lt hHeld.2)).trans hHeld.2⟩ (fun hHeld => ?_)
      clear hK K hbn
      try simp only [actS]
      generalize wd.alloc _ = we at hHeld hnw ⊢
      generalize wd.heap.size = B7 at hnw hbl hsz ⊢
      refine wpAnyH_ready (rs := [1]) (by kernel_rfl) (by simp) ?_
      refine AllReadyH.cons (o := ⟨some 30, _, _, _, _, _⟩) rfl (fun K hK => ?_) AllReadyH.nil
      go_simp
      refine (HOW.out _ hHeld.1).mono ?_
      rintro e wo ⟨y, rfl, hy, hm, hbo⟩
      have HY := Lib.hid hy
      clear hy
      have HMY := Lib.hid (show LT.Mine wo w.heap.size y.pv y.ev.parents from hm.mono hHeld.1.size)
      clear hm
      replace hnw := (hbo.block B7 (smem_lt hnw)).trans hnw
      refine hK.out _ _ ⟨hHeld.1.trans (hbo.mono hHeld.1.size), (hbo.block B (smem_lt hHeld.2)).trans hHeld.2⟩ (fun hHeld => ?_)
      clear hK K hbo
      try simp only [actS]
      refine anyH_asks (i := 5) (oi := ⟨some 34, _, _, _, _, _⟩) (v := .int .i64 ((dd : Nat) : Int)) rfl (by kernel_rfl) (by kernel_rfl) (by kernel_rfl) (fun _ _ _ h => h) ⟨by rfl, fun wx hSx => ⟨_, _, ?eg5, (HDB.out wx hSx.1).mono (fun _ _ h => ⟨h.1, h.2.symm⟩)⟩⟩ hHeld ?rg5
      case eg5 => go_simp
      try simp only [actS]
      refine wpAnyH_take (i := 6) (oi := ⟨some 35, _, _, _, _, _⟩) (v := ?vg6) rfl (by kernel_rfl) (by kernel_rfl) (by kernel_rfl) (fun _ _ _ h => h) (Or.inl ⟨by rfl, ?yg6⟩) hHeld ?rg6
      case yg6 =>
       intro wx hSx
       go_simp
       try with_reducible rfl
      try simp only [actS]
      refine wpAnyH_ready (rs := [8]) (by kernel_rfl) (by simp) ?_
      refine AllReadyH.cons (o := ⟨none, _, _, _, _, _⟩) rfl (fun K hK => ?_) AllReadyH.nil
      have y0 : wo.cell? ⟨B7, 0, none⟩ = some (.string ⟨#[]⟩) := cell_at hnw 0
      have z0 : wo.frozen? ⟨B7, 0, none⟩ = false := free_at hnw 0
      have y1 : wo.cell? ⟨B7, 1, none⟩ = some (.string ⟨#[]⟩) := cell_at hnw 1
      have z1 : wo.frozen? ⟨B7, 1, none⟩ = false := free_at hnw 1
      have y2 : wo.cell? ⟨B7, 2, none⟩ = some (.slice none 0 0) := cell_at hnw 2
      have z2 : wo.frozen? ⟨B7, 2, none⟩ = false := free_at hnw 2
      have y3 : wo.cell? ⟨B7, 3, none⟩ = some (.string ⟨#[]⟩) := cell_at hnw 3
      have z3 : wo.frozen? ⟨B7, 3, none⟩ = false := free_at hnw 3
      have y4 : wo.cell? ⟨B7, 4, none⟩ = some (.string ⟨#[]⟩) := cell_at hnw 4
      have z4 : wo.frozen? ⟨B7, 4, none⟩ = false := free_at hnw 4
      have y5 : wo.cell? ⟨B7, 5, none⟩ = some (.int .i64 0) := cell_at hnw 5
      have z5 : wo.frozen? ⟨B7, 5, none⟩ = false := free_at hnw 5
      have y6 : wo.cell? ⟨B7, 6, none⟩ = some (.int .i64 0) := cell_at hnw 6
      have z6 : wo.frozen? ⟨B7, 6, none⟩ = false := free_at hnw 6
      have HAN := nd_stored hnw (.string y.ev.id) (.string y.ev.room) (.slice y.A y.ev.parents.length y.cap) (.string y.ev.thread) (.string y.ev.user) (.int .i64 y.ev.does) (.int .i64 ((dd : Nat) : Int)) rfl _ rfl
      simp only [World.setCells] at HAN
      have HNE := Lib.hid (mine_ne HMY.out hnw (by decide))
      go_simp
      generalize World.setCell _ _ _ = w9 at HAN ⊢
      obtain ⟨k0, k6⟩ := HAN
      replace HMY := Lib.hid (HMY.out.grown k6 (fun j hj e => by injection e with e; exact HNE.out j hj e))
      refine hK.out _ _ ⟨hHeld.1.grown k6 hHeld.1.size (fun j hj => by injection hj with hj; omega), (k6.block B (smem_lt hHeld.2) (fun e => by injection e with e; omega)).trans hHeld.2⟩ (fun hHeld => ?_)
      clear hK K hnw HNE y0 z0 y1 z1 y2 z2 y3 z3 y4 z4 y5 z5 y6 z6
      try simp only [actS]
      refine wpAnyH_done (by kernel_rfl) ?_ _
      have HBN := Lib.hid hHeld.1
      have HDN := Lib.hid (HD.out.below hHeld.1)
      go_upto_region 9 with (fail)
      refine wp_region_held_drew (S := fun w' => w'.heap[g]? = some (.cells #[.string room, .map (some mb)] 157 (0, 0)) ∧ w'.heap[B7]? = some (.cells #[.string y.ev.id, .string y.ev.room, .slice y.A y.ev.parents.length y.cap, .string y.ev.thread, .string y.ev.user, .int .i64 y.ev.does, .int .i64 ((dd : Nat) : Int)] 161 (0, 0))) (by kernel_rfl) ⟨HDN.out.hd, k0⟩ (fun hHeld => ?_)
      replace HBN := Lib.hid HBN.out.drew
      replace HDN := Lib.hid HDN.out.drew
      replace HMY := Lib.hid (show LT.Mine w9.drew w.heap.size y.pv y.ev.parents from HMY.out)
      clear k0
      generalize w9.drew = wq at HBN HDN HMY hHeld ⊢
      obtain ⟨wz, hrun, howz, hgz⟩ := World.ownsMap.update HDN.out.map keyed Tryz.underlying155 (n := ns.length) (by unfold maxLen; omega) (key := .string y.ev.id) (val := NdV.val ⟨y, dd⟩) (d := .held (NdV.val ⟨y, dd⟩)) (ps := []) (keyIs (by rw [HY.out]; exact HX.out.2.1)) rfl
      have HPUT := Lib.hid (DgS.put (n := ⟨y, dd⟩) (D' := D) HD.out HBN.out HMY.out (by simp only; rw [HY.out]; exact HE0.out) (by simp only; rw [HY.out]; exact HDD.out) howz hgz)
      unfold NdV.val EvV.pv at hrun
      clear howz
      refine wpAnyH_take (i := 0) (oi := ⟨some 36, _, _, _, _, _⟩) (v := ?vh0) rfl (by kernel_rfl) (by kernel_rfl) (by kernel_rfl) (fun _ _ _ h => h) (Or.inl ⟨by rfl, ?yh0⟩) hHeld ?rh0
      case yh0 =>
       intro wx hSx
       go_simp
       try with_reducible rfl
      try simp only [actS]
      refine wpAnyH_take (i := 1) (oi := ⟨some 37, _, _, _, _, _⟩) (v := ?vh1) rfl (by kernel_rfl) (by kernel_rfl) (by kernel_rfl) (fun _ _ _ h => h) (Or.inl ⟨by rfl, ?yh1⟩) hHeld ?rh1
      case yh1 =>
       intro wx hSx
       go_simp
       try with_reducible rfl
      try simp only [actS]
      refine wpAnyH_take (i := 2) (oi := ⟨some 38, _, _, _, _, _⟩) (v := ?vh2) rfl (by kernel_rfl) (by kernel_rfl) (by kernel_rfl) (fun _ _ _ h => h) (Or.inl ⟨by rfl, ?yh2⟩) hHeld ?rh2
      case yh2 =>
       intro wx hSx
       go_simp
       try with_reducible rfl
      try simp only [actS]
      refine wpAnyH_take (i := 4) (oi := ⟨some 40, _, _, _, _, _⟩) (v := ?vh4) rfl (by kernel_rfl) (by kernel_rfl) (by kernel_rfl) (fun _ _ _ h => h) (Or.inl ⟨by rfl, ?yh4⟩) hHeld ?rh4
      case yh4 =>
       intro wx hSx
       go_simp
       try with_reducible rfl
      try simp only [actS]
      refine wpAnyH_take (i := 5) (oi := ⟨some 41, _, _, _, _, _⟩) (v := ?vh5) rfl (by kernel_rfl) (by kernel_rfl) (by kernel_rfl) (fun _ _ _ h => h) (Or.inl ⟨by rfl, ?yh5⟩) hHeld ?rh5
      case yh5 =>
       intro wx hSx
       go_simp
       try with_reducible rfl
      try simp only [actS]
      refine wpAnyH_take (i := 3) (oi := ⟨some 39, _, _, _, _, _⟩) (v := ?vh3) rfl (by kernel_rfl) (by kernel_rfl) (by kernel_rfl) (fun _ _ _ h => h) (Or.inl ⟨by rfl, ?yh3⟩) hHeld ?rh3
      case yh3 =>
       intro wx hSx
       have z := cell_at hSx.1 1
       simp only [List.getElem?_toArray, List.getElem?_cons_succ, List.getElem?_cons_zero] at z
       go_simp
       try with_reducible rfl
      try simp only [actS]
      refine wpAnyH_take (i := 6) (oi := ⟨some 42, _, _, _, _, _⟩) (v := ?vh6) rfl (by kernel_rfl) (by kernel_rfl) (by kernel_rfl) (fun _ _ _ h => h) (Or.inl ⟨by rfl, ?yh6⟩) hHeld ?rh6
      case yh6 =>
       intro wx hSx
       have z := cell_at hSx.2 0
       simp only [List.getElem?_toArray, List.getElem?_cons_succ, List.getElem?_cons_zero] at z
       go_simp
       try with_reducible rfl
      try simp only [actS]
      refine wpAnyH_take (i := 7) (oi := ⟨some 43, _, _, _, _, _⟩) (v := ?vh7) rfl (by kernel_rfl) (by kernel_rfl) (by kernel_rfl) (fun _ _ _ h => h) (Or.inl ⟨by rfl, ?yh7⟩) hHeld ?rh7
      case yh7 =>
       intro wx hSx
       have p0 := cell_at hSx.2 0
       have p1 := cell_at hSx.2 1
       have p2 := cell_at hSx.2 2
       have p3 := cell_at hSx.2 3
       have p4 := cell_at hSx.2 4
       have p5 := cell_at hSx.2 5
       have p6 := cell_at hSx.2 6
       simp only [List.getElem?_toArray, List.getElem?_cons_succ, List.getElem?_cons_zero] at p0 p1 p2 p3 p4 p5 p6
       go_simp
       try with_reducible rfl
      try simp only [actS]
      refine wpAnyH_ready (rs := [8]) (by kernel_rfl) (by simp) ?_
      refine AllReadyH.cons (o := ⟨none, _, _, _, _, _⟩) rfl (fun K hK => ?_) AllReadyH.nil
      have hg1 : g ≠ mb := HD.out.gm
      have hb7 : B7 ≠ mb := fun e => by
       have := HD.out.map.lt
       omega
      go_simp
      refine hK.out _ _ ⟨(hgz.block g (smem_lt hHeld.1) (fun e => hg1 (by injection e))).trans hHeld.1, (hgz.block B7 (smem_lt hHeld.2) (fun e => hb7 (by injection e))).trans hHeld.2⟩ (fun hHeld => ?_)
      clear hK K
      try simp only [actS]
      refine wpAnyH_done (by kernel_rfl) ?_ _
      go_wp2_with fail
      go_ret
      refine ⟨by rw [HE0.out]; rfl, ?_⟩
      have hadd : addA room (nevs ns) x.ev = nevs ns ++ [x.ev] := by unfold addA; rw [HE0.out, if_pos rfl]
      have hput := HPUT.out
      rw [HY.out] at hput
      rw [hadd]
      exact hput
end
end Go.Proofs.YtnnapkakbdpkaaaGreat
