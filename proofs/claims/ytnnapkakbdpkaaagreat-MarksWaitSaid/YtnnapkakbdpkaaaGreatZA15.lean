/-
  What the statements stand on, part ZA15.
-/
import Derived.Test.YtnnapkakbdpkaaaGreatZA14
set_option linter.unusedVariables false
set_option linter.unusedSimpArgs false
namespace Go.Proofs.YtnnapkakbdpkaaaGreat
set_option maxRecDepth 20000
open Go.RowKit Go.Maps Go.ChangeMaps
structure TbS (w wr : World) (r : RI) (B1 : Nat) (o1 : Obj) (B2 : Nat) (o2 : Obj) : Prop where
 ct : CRs wr r
 b1 : wr.heap[B1]? = some o1
 b2 : wr.heap[B2]? = some o2
 below : Below w.heap.size w wr
section
variable {w wr w2 : World} {r : RI} {B B1 B2 : Nat} {o1 o2 : Obj}
theorem TbS.on (h : TbS w wr r B1 o1 B2 o2) (hb : Below wr.heap.size wr w2) : TbS w w2 r B1 o1 B2 o2 := ⟨h.ct.below hb, (hb.block B1 (smem_lt h.b1)).trans h.b1, (hb.block B2 (smem_lt h.b2)).trans h.b2, h.below.trans (hb.mono h.below.size)⟩
theorem TbS.put {cur : Array Value} {t : TypeId} (h : TbS w wr r B1 o1 B2 o2) (hg : wr.grownBy w2 (some B)) (hb : wr.heap[B]? = some (.cells cur t (0, 0))) (ht : t ≠ 142) (h1 : B ≠ B1) (h2 : B ≠ B2) (hlo : w.heap.size ≤ B) : TbS w w2 r B1 o1 B2 o2 := by
 refine ⟨h.ct.keep (fun k hk => hg.block k (h.ct.old hk) (fun e => ?_)), (hg.block B1 (smem_lt h.b1) (fun e => h1 (by injection e with e; exact e.symm))).trans h.b1, (hg.block B2 (smem_lt h.b2) (fun e => h2 (by injection e with e; exact e.symm))).trans h.b2, h.below.grown hg h.below.size (fun k hk => by injection hk with hk; omega)⟩
 injection e with e
 subst e
 rcases hk with rfl | rfl
 ·rw [h.ct.hd] at hb
  injection hb with hb
  injection hb with _ hb
  exact ht hb.symm
 ·obtain ⟨xs, clock, hb', _⟩ := h.ct.map
  rw [hb'] at hb
  cases hb
end
theorem CRs.start {w : World} {r : RI} (h : CRs w r) (o1 o2 : Obj) : TbS w ((w.alloc o1).alloc o2) r w.heap.size o1 (w.heap.size + 1) o2 := by
 have ht := TwoB.start w o1 o2
 exact ⟨h.below ht.gr.below, ht.bo.box, ht.res, ht.gr.below⟩
theorem gotP_ok {l : List Mk} {k : Rk} (h : ∀ m ∈ l, m.ok) : (gotP l k).id.size ≤ 281474976710656 := by
 unfold gotP
 cases hg : getM l k with
 | none => exact Nat.zero_le _
 | some p => exact (h _ (getM_mem hg)).2
set_option maxHeartbeats 1600000 in
theorem rcGet_any {w : World} {r : RI} (h : CRs w r) (k : Rk) (hk : k.ok) :
  Calls Tryz.prog 157 #[.pointer (some ⟨r.g, 0, none⟩), k.val] w fun e w' => e = .returned (.tuple #[(gotP r.l k).val, .bool (getM r.l k).isSome]) ∧ Below w.heap.size w w' := by
 have HT := Lib.hid (h.start (.cells #[.string k.room, .string k.user, .string k.thread, .bool k.priv] 87 (0, 0)) (.cells #[.int .i64 0, .string ⟨#[]⟩] 83 (0, 0)))
 have HLK := Lib.hid (fun W (hc : CRs W r) => hc.look hk)
 have HOW := Lib.hid (fun W => ownPos_any (gotP r.l k) W (gotP_ok h.ok))
 clear h hk
 generalize gotP r.l k = q at HLK HOW ⊢
 generalize (getM r.l k).isSome = bb at HLK ⊢
 unfold Rk.val at HLK ⊢
 unfold Po.val at *
 go_enter Tryz.func157, Tryz.ntmps157
 go_upto_region 1 with (fail)
 generalize World.alloc _ _ = w1 at HT ⊢
 have hne : w.heap.size + 1 ≠ w.heap.size := by omega
 have hlo2 : w.heap.size ≤ w.heap.size + 1 := by omega
 have hlo1 : w.heap.size ≤ w.heap.size := Nat.le_refl _
 generalize w.heap.size + 1 = B2 at HT hne hlo2 ⊢
 generalize hB1 : w.heap.size = B1 at HT hne ⊢
 refine wp_region_held_drew (S := fun W => TbS w W r B1 (.cells #[.string k.room, .string k.user, .string k.thread, .bool k.priv] 87 (0, 0)) B2 (.cells #[.int .i64 0, .string ⟨#[]⟩] 83 (0, 0))) (by kernel_rfl) (HT.out.on (below_drew w1)) (fun hHeld => ?_)
 clear HT
 generalize w1.drew = wd at hHeld ⊢
 refine wpAnyH_take (i := 0) (oi := ⟨some 9, _, _, _, _, _⟩) (v := ?vg0) rfl (by kernel_rfl) (by kernel_rfl) (by kernel_rfl) (fun _ _ _ h => h) (Or.inl ⟨by rfl, ?yg0⟩) hHeld ?rg0
 case yg0 =>
  intro wx hSx
  go_simp
  try with_reducible rfl
 try simp only [actS]
 refine wpAnyH_take (i := 1) (oi := ⟨some 10, _, _, _, _, _⟩) (v := ?vg1) rfl (by kernel_rfl) (by kernel_rfl) (by kernel_rfl) (fun _ _ _ h => h) (Or.inl ⟨by rfl, ?yg1⟩) hHeld ?rg1
 case yg1 =>
  intro wx hSx
  go_simp
  try with_reducible rfl
 try simp only [actS]
 refine wpAnyH_take (i := 2) (oi := ⟨some 11, _, _, _, _, _⟩) (v := ?vg2) rfl (by kernel_rfl) (by kernel_rfl) (by kernel_rfl) (fun _ _ _ h => h) (Or.inl ⟨by rfl, ?yg2⟩) hHeld ?rg2
 case yg2 =>
  intro wx hSx
  go_simp
  try with_reducible rfl
 try simp only [actS]
 refine wpAnyH_take (i := 3) (oi := ⟨some 12, _, _, _, _, _⟩) (v := ?vg3) rfl (by kernel_rfl) (by kernel_rfl) (by kernel_rfl) (fun _ _ _ h => h) (Or.inl ⟨by rfl, ?yg3⟩) hHeld ?rg3
 case yg3 =>
  intro wx hSx
  have z : wx.cell? ⟨r.g, 0, none⟩ = some (.map (some r.mb)) := cell_at hSx.ct.hd 0
  go_simp
  try with_reducible rfl
 try simp only [actS]
 refine wpAnyH_take (i := 4) (oi := ⟨some 13, _, _, _, _, _⟩) (v := ?vg4) rfl (by kernel_rfl) (by kernel_rfl) (by kernel_rfl) (fun _ _ _ h => h) (Or.inl ⟨by rfl, ?yg4⟩) hHeld ?rg4
 case yg4 =>
  intro wx hSx
  have z0 := cell_at hSx.b1 0
  have z1 := cell_at hSx.b1 1
  have z2 := cell_at hSx.b1 2
  have z3 := cell_at hSx.b1 3
  simp only [List.getElem?_toArray, List.getElem?_cons_succ, List.getElem?_cons_zero] at z0 z1 z2 z3
  go_simp
  try with_reducible rfl
 try simp only [actS]
 refine wpAnyH_take (i := 5) (oi := ⟨some 14, _, _, _, _, _⟩) (v := ?vg5) rfl (by kernel_rfl) (by kernel_rfl) (by kernel_rfl) (fun _ _ _ h => h) (Or.inl ⟨by rfl, ?yg5⟩) hHeld ?rg5
 case yg5 =>
  intro wx hSx
  have z := HLK.out wx hSx.ct
  go_simp
  try with_reducible rfl
 try simp only [actS]
 refine wpAnyH_take (i := 6) (oi := ⟨some 8, _, _, _, _, _⟩) (v := ?vg6) rfl (by kernel_rfl) (by kernel_rfl) (by kernel_rfl) (fun _ _ _ h => h) (Or.inl ⟨by rfl, ?yg6⟩) hHeld ?rg6
 case yg6 =>
  intro wx hSx
  go_simp
  try with_reducible rfl
 try simp only [actS]
 refine wpAnyH_take (i := 7) (oi := ⟨some 15, _, _, _, _, _⟩) (v := ?vg7) rfl (by kernel_rfl) (by kernel_rfl) (by kernel_rfl) (fun _ _ _ h => h) (Or.inl ⟨by rfl, ?yg7⟩) hHeld ?rg7
 case yg7 =>
  intro wx hSx
  go_simp
  try with_reducible rfl
 try simp only [actS]
 refine wpAnyH_take (i := 8) (oi := ⟨some 16, _, _, _, _, _⟩) (v := ?vg8) rfl (by kernel_rfl) (by kernel_rfl) (by kernel_rfl) (fun _ _ _ h => h) (Or.inl ⟨by rfl, ?yg8⟩) hHeld ?rg8
 case yg8 =>
  intro wx hSx
  go_simp
  try with_reducible rfl
 try simp only [actS]
 refine wpAnyH_ready (rs := [9]) (by kernel_rfl) (by simp) ?_
 refine AllReadyH.cons (o := ⟨some 6, _, _, _, _, _⟩) rfl (fun K hK => ?_) AllReadyH.nil
 have hnw := heap_alloc_new wd (.cells #[.int .i64 0, .string ⟨#[]⟩] 83)
 have hNW := hHeld.on (below_new wd (.cells #[.int .i64 0, .string ⟨#[]⟩] 83))
 have hlt1 := smem_lt hHeld.b1
 have hlt2 := smem_lt hHeld.b2
 have hlo3 := hHeld.below.size
 go_simp
 generalize hq3 : wd.heap.size = B3 at hnw hlt1 hlt2 hlo3 ⊢
 generalize World.alloc _ _ = we at hnw hNW ⊢
 refine hK.out _ _ hNW (fun hHeld => ?_)
 clear hK K hNW
 try simp only [actS]
 refine wpAnyH_ready (rs := [10]) (by kernel_rfl) (by simp) ?_
 refine AllReadyH.cons (o := ⟨none, _, _, _, _, _⟩) rfl (fun K hK => ?_) AllReadyH.nil
 have r0 : we.cell? ⟨B3, 0, none⟩ = some (.int .i64 0) := cell_at hnw 0
 have r1 : we.cell? ⟨B3, 1, none⟩ = some (.string ⟨#[]⟩) := cell_at hnw 1
 have z0 : we.frozen? ⟨B3, 0, none⟩ = false := free_at hnw 0
 have z1 : we.frozen? ⟨B3, 1, none⟩ = false := free_at hnw 1
 have HAN := stored hnw [.int .i64 q.depth, .string q.id] rfl _ rfl
 simp only [World.setCells] at HAN
 go_simp
 generalize World.setCell _ _ _ = w9 at HAN ⊢
 refine hK.out _ _ (hHeld.put HAN.2 hnw (by decide) (by omega) (by omega) hlo3) (fun hHeld => ?_)
 clear hK K r0 z0 r1 z1
 have k0 := cell_at HAN.1 0
 have k1 := cell_at HAN.1 1
 simp only [List.getElem?_toArray, List.getElem?_cons_succ, List.getElem?_cons_zero] at k0 k1
 refine wpAnyH_take (i := 11) (oi := ⟨some 7, _, _, _, _, _⟩) (v := ?vg11) rfl (by kernel_rfl) (by kernel_rfl) (by kernel_rfl) (fun _ _ _ h => h) (Or.inl ⟨by rfl, ?yg11⟩) hHeld ?rg11
 case yg11 =>
  intro wx hSx
  go_simp
  try with_reducible rfl
 try simp only [actS]
 refine wpAnyH_done (by kernel_rfl) ?_ _
 have c0 : w9.cell? ⟨B3, 0, none⟩ = some (.int .i64 q.depth) := k0
 have c1 : w9.cell? ⟨B3, 1, none⟩ = some (.string q.id) := k1
 go_wp2_with fail
 go_at_call 116
 refine (HOW.out _).mono ?_
 rintro e w2 ⟨rfl, hb2⟩
 have HH := Lib.hid (hHeld.on hb2)
 clear hb2 k0 k1 c0 c1 HAN
 have hres := HH.out.b2
 have r0 : w2.cell? ⟨B2, 0, none⟩ = some (.int .i64 0) := cell_at hres 0
 have r1 : w2.cell? ⟨B2, 1, none⟩ = some (.string ⟨#[]⟩) := cell_at hres 1
 have z0 : w2.frozen? ⟨B2, 0, none⟩ = false := free_at hres 0
 have z1 : w2.frozen? ⟨B2, 1, none⟩ = false := free_at hres 1
 have HAN := stored hres [.int .i64 q.depth, .string q.id] rfl _ rfl
 simp only [World.setCells] at HAN
 go_wp2_with fail
 generalize World.setCell _ _ _ = wf at HAN ⊢
 have k0 := cell_at HAN.1 0
 have k1 := cell_at HAN.1 1
 simp only [List.getElem?_toArray, List.getElem?_cons_succ, List.getElem?_cons_zero] at k0 k1
 refine bodyPost_ret (v := .tuple #[.agg #[.int .i64 q.depth, .string q.id], .bool bb]) ?_ rfl ⟨rfl, HH.out.below.grown HAN.2 HH.out.below.size (fun k hk => by injection hk with hk; omega)⟩
 simp [results, Tryz.results157, go_sem, k0, k1]
def RI.on (r : RI) (x : Mk) : RI := ⟨r.g, r.mb, putM r.l x, r.D.put (kk x.k) (.held x.po.val)⟩
theorem CRs.store {w : World} {r : RI} (h : CRs w r) (hl : r.l.length ≤ 1000000) {x : Mk} (hx : x.ok) (ho : onM r.l x = true) : ∃ w', (Instr.mapUpdate 140 (.map (some r.mb)) x.k.val x.po.val).run Tryz.prog w = .ok () w' ∧ CRs w' (r.on x) ∧ w.grownBy w' (some r.mb) := by
 obtain ⟨w', hr, hm, hg⟩ := World.ownsMap.update h.map keyedK Tryz.underlying140 (by unfold maxLen; omega) (key := x.k.val) (val := x.po.val) (d := .held x.po.val) (ps := []) (keyIsK hx.1) rfl
 have hmd := h.is.put h.row h.okk hx.1 ho
 refine ⟨w', hr, ⟨(hg.block r.g (smem_lt h.hd) (fun e => h.gm (by injection e))).trans h.hd, ?_, hmd, row_putM h.row, put_allM h.ok hx⟩, hg⟩
 have := OwnK.tight hm
 rw [hmd.size] at this
 exact this
theorem cmp_geP (a b : Po) : decide (0 ≤ cmpP a b) = !beforeP a b := by
 unfold cmpP
 cases h : beforeP a b
 ·cases beforeP b a <;> decide
 ·rw [cond_true]; decide
theorem onM_look (l : List Mk) (x : Mk) : onM l x = !((getM l x.k).isSome && decide (0 ≤ cmpP (gotP l x.k) x.po)) := by
 unfold onM gotP
 cases hg : getM l x.k with
 | none => rfl
 | some p =>
  rw [cmp_geP]
  simp
def PutP (w w' : World) (r : RI) (x : Mk) : Prop := ∃ r' : RI, r'.g = r.g ∧ r'.mb = r.mb ∧ r'.l = putM r.l x ∧ CRs w' r' ∧ TurnP r.own w w'
theorem put_kept {w w' : World} {r : RI} {x : Mk} (h : CRs w r) (ho : onM r.l x = false) (hb : Below w.heap.size w w') : PutP w w' r x :=
 ⟨r, rfl, rfl, (putM_off ho).symm, h.below hb, hb.os, hb.tape, hb.output, hb.size, fun k hk _ => hb.block k hk⟩
theorem put_on {w w1 w' : World} {r : RI} {x : Mk} (hb : Below w.heap.size w w1) (hc : CRs w' (r.on x)) (hg : w1.grownBy w' (some r.mb)) : PutP w w' r x :=
 ⟨r.on x, rfl, rfl, rfl, hc, hg.os.trans hb.os, hg.tape.trans hb.tape, hg.output.trans hb.output, Nat.le_trans hb.size hg.size, fun k hk hn => (hg.block k (Nat.lt_of_lt_of_le hk hb.size) (fun e => hn (.inr (by injection e)))).trans (hb.block k hk)⟩
set_option maxHeartbeats 3200000 in
theorem rcPut_any {w : World} {r : RI} (h : CRs w r) (hl : r.l.length ≤ 1000000) (k : Rk) (p : Po) (hx : (⟨k, p⟩ : Mk).ok) :
  Calls Tryz.prog 71 #[.pointer (some ⟨r.g, 0, none⟩), k.val, p.val] w fun e w' => e = .returned (.bool (onM r.l ⟨k, p⟩)) ∧ PutP w w' r ⟨k, p⟩ := by
 have HT := Lib.hid (h.start (.cells #[.string k.room, .string k.user, .string k.thread, .bool k.priv] 87 (0, 0)) (.cells #[.int .i64 p.depth, .string p.id] 83 (0, 0)))
 have HCR := Lib.hid h
 have HLK := Lib.hid (fun W (hc : CRs W r) => hc.look hx.1)
 have HOW := Lib.hid (fun W => rcOwn_any ⟨k, p⟩ W hx)
 have HST := Lib.hid (fun W (hc : CRs W r) (ho : onM r.l ⟨k, p⟩ = true) => hc.store hl hx ho)
 have HCM := Lib.hid (fun W => compare_gr (gotP r.l k) p W)
 have HON := Lib.hid (onM_look r.l ⟨k, p⟩)
 clear h hx
 simp only at HST HON
 generalize gotP r.l k = q at HLK HCM HON
 generalize (getM r.l k).isSome = bb at HLK HON
 generalize hro : onM r.l ⟨k, p⟩ = on at HON HST ⊢
 have HRO := Lib.hid hro
 clear hro
 generalize hcm : cmpP q p = cm at HCM HON
 clear hcm
 unfold Rk.val at HLK HST ⊢
 unfold Mk.val at HOW
 unfold Po.val at *
 go_enter Tryz.func71, Tryz.ntmps71
 go_upto_region 1 with (fail)
 generalize World.alloc _ _ = w1 at HT ⊢
 have hne : w.heap.size + 1 ≠ w.heap.size := by omega
 have hlo2 : w.heap.size ≤ w.heap.size + 1 := by omega
 generalize w.heap.size + 1 = B2 at HT hne hlo2 ⊢
 generalize hB1 : w.heap.size = B1 at HT hne ⊢
 refine wp_region_held_drew (S := fun W => TbS w W r B1 (.cells #[.string k.room, .string k.user, .string k.thread, .bool k.priv] 87 (0, 0)) B2 (.cells #[.int .i64 p.depth, .string p.id] 83 (0, 0))) (by kernel_rfl) (HT.out.on (below_drew w1)) (fun hHeld => ?_)
 clear HT
 generalize w1.drew = wd at hHeld ⊢
 refine wpAnyH_take (i := 0) (oi := ⟨some 11, _, _, _, _, _⟩) (v := ?vg0) rfl (by kernel_rfl) (by kernel_rfl) (by kernel_rfl) (fun _ _ _ h => h) (Or.inl ⟨by rfl, ?yg0⟩) hHeld ?rg0
 case yg0 =>
  intro wx hSx
  go_simp
  try with_reducible rfl
 try simp only [actS]
 refine wpAnyH_take (i := 1) (oi := ⟨some 12, _, _, _, _, _⟩) (v := ?vg1) rfl (by kernel_rfl) (by kernel_rfl) (by kernel_rfl) (fun _ _ _ h => h) (Or.inl ⟨by rfl, ?yg1⟩) hHeld ?rg1
 case yg1 =>
  intro wx hSx
  go_simp
  try with_reducible rfl
 try simp only [actS]
 refine wpAnyH_take (i := 2) (oi := ⟨some 13, _, _, _, _, _⟩) (v := ?vg2) rfl (by kernel_rfl) (by kernel_rfl) (by kernel_rfl) (fun _ _ _ h => h) (Or.inl ⟨by rfl, ?yg2⟩) hHeld ?rg2
 case yg2 =>
  intro wx hSx
  go_simp
  try with_reducible rfl
 try simp only [actS]
 refine wpAnyH_take (i := 3) (oi := ⟨some 14, _, _, _, _, _⟩) (v := ?vg3) rfl (by kernel_rfl) (by kernel_rfl) (by kernel_rfl) (fun _ _ _ h => h) (Or.inl ⟨by rfl, ?yg3⟩) hHeld ?rg3
 case yg3 =>
  intro wx hSx
  have z : wx.cell? ⟨r.g, 0, none⟩ = some (.map (some r.mb)) := cell_at hSx.ct.hd 0
  go_simp
  try with_reducible rfl
 try simp only [actS]
 refine wpAnyH_take (i := 4) (oi := ⟨some 15, _, _, _, _, _⟩) (v := ?vg4) rfl (by kernel_rfl) (by kernel_rfl) (by kernel_rfl) (fun _ _ _ h => h) (Or.inl ⟨by rfl, ?yg4⟩) hHeld ?rg4
 case yg4 =>
  intro wx hSx
  have z0 := cell_at hSx.b1 0
  have z1 := cell_at hSx.b1 1
  have z2 := cell_at hSx.b1 2
  have z3 := cell_at hSx.b1 3
  simp only [List.getElem?_toArray, List.getElem?_cons_succ, List.getElem?_cons_zero] at z0 z1 z2 z3
  go_simp
  try with_reducible rfl
 try simp only [actS]
 refine wpAnyH_take (i := 5) (oi := ⟨some 16, _, _, _, _, _⟩) (v := ?vg5) rfl (by kernel_rfl) (by kernel_rfl) (by kernel_rfl) (fun _ _ _ h => h) (Or.inl ⟨by rfl, ?yg5⟩) hHeld ?rg5
 case yg5 =>
  intro wx hSx
  have z := HLK.out wx hSx.ct
  go_simp
  try with_reducible rfl
 try simp only [actS]
 refine wpAnyH_take (i := 6) (oi := ⟨some 10, _, _, _, _, _⟩) (v := ?vg6) rfl (by kernel_rfl) (by kernel_rfl) (by kernel_rfl) (fun _ _ _ h => h) (Or.inl ⟨by rfl, ?yg6⟩) hHeld ?rg6
 case yg6 =>
  intro wx hSx
  go_simp
  try with_reducible rfl
 try simp only [actS]
 refine wpAnyH_take (i := 7) (oi := ⟨some 17, _, _, _, _, _⟩) (v := ?vg7) rfl (by kernel_rfl) (by kernel_rfl) (by kernel_rfl) (fun _ _ _ h => h) (Or.inl ⟨by rfl, ?yg7⟩) hHeld ?rg7
 case yg7 =>
  intro wx hSx
  go_simp
  try with_reducible rfl
 try simp only [actS]
 refine wpAnyH_take (i := 8) (oi := ⟨some 18, _, _, _, _, _⟩) (v := ?vg8) rfl (by kernel_rfl) (by kernel_rfl) (by kernel_rfl) (fun _ _ _ h => h) (Or.inl ⟨by rfl, ?yg8⟩) hHeld ?rg8
 case yg8 =>
  intro wx hSx
  go_simp
  try with_reducible rfl
 try simp only [actS]
 refine wpAnyH_ready (rs := [9]) (by kernel_rfl) (by simp) ?_
 refine AllReadyH.cons (o := ⟨some 7, _, _, _, _, _⟩) rfl (fun K hK => ?_) AllReadyH.nil
 have hnw := heap_alloc_new wd (.cells #[.int .i64 0, .string ⟨#[]⟩] 83)
 have hNW := hHeld.on (below_new wd (.cells #[.int .i64 0, .string ⟨#[]⟩] 83))
 have hlt1 := smem_lt hHeld.b1
 have hlt2 := smem_lt hHeld.b2
 have hlo3 := hHeld.below.size
 go_simp
 generalize hq3 : wd.heap.size = B3 at hnw hlt1 hlt2 hlo3 ⊢
 generalize World.alloc _ _ = we at hnw hNW ⊢
 refine hK.out _ _ hNW (fun hHeld => ?_)
 clear hK K hNW
 try simp only [actS]
 refine wpAnyH_ready (rs := [10]) (by kernel_rfl) (by simp) ?_
 refine AllReadyH.cons (o := ⟨none, _, _, _, _, _⟩) rfl (fun K hK => ?_) AllReadyH.nil
 have r0 : we.cell? ⟨B3, 0, none⟩ = some (.int .i64 0) := cell_at hnw 0
 have r1 : we.cell? ⟨B3, 1, none⟩ = some (.string ⟨#[]⟩) := cell_at hnw 1
 have z0 : we.frozen? ⟨B3, 0, none⟩ = false := free_at hnw 0
 have z1 : we.frozen? ⟨B3, 1, none⟩ = false := free_at hnw 1
 have HAN := stored hnw [.int .i64 q.depth, .string q.id] rfl _ rfl
 simp only [World.setCells] at HAN
 go_simp
 generalize World.setCell _ _ _ = w9 at HAN ⊢
 refine hK.out _ _ (hHeld.put HAN.2 hnw (by decide) (by omega) (by omega) hlo3) (fun hHeld => ?_)
 clear hK K r0 z0 r1 z1
 have k0 := cell_at HAN.1 0
 have k1 := cell_at HAN.1 1
 simp only [List.getElem?_toArray, List.getElem?_cons_succ, List.getElem?_cons_zero] at k0 k1
 refine wpAnyH_take (i := 11) (oi := ⟨some 8, _, _, _, _, _⟩) (v := ?vg11) rfl (by kernel_rfl) (by kernel_rfl) (by kernel_rfl) (fun _ _ _ h => h) (Or.inl ⟨by rfl, ?yg11⟩) hHeld ?rg11
 case yg11 =>
  intro wx hSx
  go_simp
  try with_reducible rfl
 try simp only [actS]
 refine wpAnyH_done (by kernel_rfl) ?_ _
 have c0 : w9.cell? ⟨B3, 0, none⟩ = some (.int .i64 q.depth) := k0
 have c1 : w9.cell? ⟨B3, 1, none⟩ = some (.string q.id) := k1
 have d0 : w9.cell? ⟨B2, 0, none⟩ = some (.int .i64 p.depth) := cell_at hHeld.b2 0
 have d1 : w9.cell? ⟨B2, 1, none⟩ = some (.string p.id) := cell_at hHeld.b2 1
 have HH := Lib.hid hHeld
 clear k0 k1 HAN hHeld hq3
 cases bb
 ·have hon : on = true := by rw [HON.out]; simp
  subst hon
  clear HON HCM c0 c1 d0 d1
  have e0 : w9.cell? ⟨B1, 0, none⟩ = some (.string k.room) := cell_at HH.out.b1 0
  have e1 : w9.cell? ⟨B1, 1, none⟩ = some (.string k.user) := cell_at HH.out.b1 1
  have e2 : w9.cell? ⟨B1, 2, none⟩ = some (.string k.thread) := cell_at HH.out.b1 2
  have e3 : w9.cell? ⟨B1, 3, none⟩ = some (.bool k.priv) := cell_at HH.out.b1 3
  have d0 : w9.cell? ⟨B2, 0, none⟩ = some (.int .i64 p.depth) := cell_at HH.out.b2 0
  have d1 : w9.cell? ⟨B2, 1, none⟩ = some (.string p.id) := cell_at HH.out.b2 1
  go_wp2_with fail
  go_at_call 103
  refine (HOW.out _).mono ?_
  rintro e w3 ⟨rfl, hb3⟩
  have HH3 := Lib.hid (HH.out.on hb3)
  clear hb3 e0 e1 e2 e3 d0 d1 HOW
  go_upto_region 5 with (fail)
  have hn5 := Lib.hid (heap_alloc_new w3 (.cells #[.string k.room, .string k.user, .string k.thread, .bool k.priv, .int .i64 p.depth, .string p.id] 130))
  have HH5 := Lib.hid (HH3.out.on (below_new w3 (.cells #[.string k.room, .string k.user, .string k.thread, .bool k.priv, .int .i64 p.depth, .string p.id] 130)))
  generalize World.alloc _ _ = w5 at hn5 HH5 ⊢
  generalize w3.heap.size = B4 at hn5 ⊢
  refine wp_region_held_drew (S := fun W => W.heap[r.g]? = some (.cells #[.map (some r.mb)] 142 (0, 0)) ∧ W.heap[B4]? = some (.cells #[.string k.room, .string k.user, .string k.thread, .bool k.priv, .int .i64 p.depth, .string p.id] 130 (0, 0))) (by kernel_rfl) ⟨HH5.out.ct.hd, hn5.out⟩ (fun hHeld => ?_)
  have HC5 := Lib.hid (HH5.out.on (below_drew w5))
  clear hn5 HH5
  generalize w5.drew = wd5 at HC5 hHeld ⊢
  obtain ⟨w7, hru, hc7, hg7⟩ := HST.out _ HC5.out.ct trivial
  have HC7 := Lib.hid hc7
  have HG7 := Lib.hid hg7
  have hS7 : w7.heap[r.g]? = some (.cells #[.map (some r.mb)] 142 (0, 0)) ∧ w7.heap[B4]? = some (.cells #[.string k.room, .string k.user, .string k.thread, .bool k.priv, .int .i64 p.depth, .string p.id] 130 (0, 0)) := by
   refine ⟨hc7.hd, (hg7.block B4 (smem_lt hHeld.2) (fun e => ?_)).trans hHeld.2⟩
   injection e with e
   obtain ⟨xs, clock, hb', _⟩ := HC5.out.ct.map
   rw [← e, hHeld.2] at hb'
   cases hb'
  clear hc7 hg7
  refine wpAnyH_take (i := 0) (oi := ⟨some 30, _, _, _, _, _⟩) (v := ?vta0) rfl (by kernel_rfl) (by kernel_rfl) (by kernel_rfl) (fun _ _ _ h => h) (Or.inl ⟨by rfl, ?yta0⟩) hHeld ?rta0
  case yta0 =>
   intro wx hSx
   go_simp
   try with_reducible rfl
  try simp only [actS]
  refine wpAnyH_take (i := 1) (oi := ⟨some 31, _, _, _, _, _⟩) (v := ?vta1) rfl (by kernel_rfl) (by kernel_rfl) (by kernel_rfl) (fun _ _ _ h => h) (Or.inl ⟨by rfl, ?yta1⟩) hHeld ?rta1
  case yta1 =>
   intro wx hSx
   go_simp
   try with_reducible rfl
  try simp only [actS]
  refine wpAnyH_take (i := 2) (oi := ⟨some 32, _, _, _, _, _⟩) (v := ?vta2) rfl (by kernel_rfl) (by kernel_rfl) (by kernel_rfl) (fun _ _ _ h => h) (Or.inl ⟨by rfl, ?yta2⟩) hHeld ?rta2
  case yta2 =>
   intro wx hSx
   go_simp
   try with_reducible rfl
  try simp only [actS]
  refine wpAnyH_take (i := 3) (oi := ⟨some 33, _, _, _, _, _⟩) (v := ?vta3) rfl (by kernel_rfl) (by kernel_rfl) (by kernel_rfl) (fun _ _ _ h => h) (Or.inl ⟨by rfl, ?yta3⟩) hHeld ?rta3
  case yta3 =>
   intro wx hSx
   have z : wx.cell? ⟨r.g, 0, none⟩ = some (.map (some r.mb)) := cell_at hSx.1 0
   go_simp
   try with_reducible rfl
  try simp only [actS]
  refine wpAnyH_take (i := 4) (oi := ⟨some 34, _, _, _, _, _⟩) (v := ?vta4) rfl (by kernel_rfl) (by kernel_rfl) (by kernel_rfl) (fun _ _ _ h => h) (Or.inl ⟨by rfl, ?yta4⟩) hHeld ?rta4
  case yta4 =>
   intro wx hSx
   go_simp
   try with_reducible rfl
  try simp only [actS]
  refine wpAnyH_take (i := 5) (oi := ⟨some 35, _, _, _, _, _⟩) (v := ?vta5) rfl (by kernel_rfl) (by kernel_rfl) (by kernel_rfl) (fun _ _ _ h => h) (Or.inl ⟨by rfl, ?yta5⟩) hHeld ?rta5
  case yta5 =>
   intro wx hSx
   have z0 := cell_at hSx.2 0
   have z1 := cell_at hSx.2 1
   have z2 := cell_at hSx.2 2
   have z3 := cell_at hSx.2 3
   simp only [List.getElem?_toArray, List.getElem?_cons_succ, List.getElem?_cons_zero] at z0 z1 z2 z3
   go_simp
   try with_reducible rfl
  try simp only [actS]
  refine wpAnyH_take (i := 6) (oi := ⟨some 36, _, _, _, _, _⟩) (v := ?vta6) rfl (by kernel_rfl) (by kernel_rfl) (by kernel_rfl) (fun _ _ _ h => h) (Or.inl ⟨by rfl, ?yta6⟩) hHeld ?rta6
  case yta6 =>
   intro wx hSx
   go_simp
   try with_reducible rfl
  try simp only [actS]
  refine wpAnyH_take (i := 7) (oi := ⟨some 37, _, _, _, _, _⟩) (v := ?vta7) rfl (by kernel_rfl) (by kernel_rfl) (by kernel_rfl) (fun _ _ _ h => h) (Or.inl ⟨by rfl, ?yta7⟩) hHeld ?rta7
  case yta7 =>
   intro wx hSx
   have z4 := cell_at hSx.2 4
   have z5 := cell_at hSx.2 5
   simp only [List.getElem?_toArray, List.getElem?_cons_succ, List.getElem?_cons_zero] at z4 z5
   go_simp
   try with_reducible rfl
  try simp only [actS]
  refine wpAnyH_ready (rs := [8]) (by kernel_rfl) (by simp) ?_
  refine AllReadyH.cons (o := ⟨none, _, _, _, _, _⟩) rfl (fun K hK => ?_) AllReadyH.nil
  go_simp
  refine hK.out _ _ hS7 (fun hHeld => ?_)
  clear hK K
  try simp only [actS]
  refine wpAnyH_done (by kernel_rfl) ?_ _
  go_wp2_with fail
  go_ret
  exact ⟨rfl, put_on HC5.out.below HC7.out HG7.out⟩
 ·have HON2 : Hid (on = !decide (0 ≤ cm)) := Lib.hid (by rw [HON.out]; simp)
  clear HON
  go_wp2_with fail
  go_at_call 102
  refine (HCM.out _).mono ?_
  rintro e wc ⟨rfl, hgc⟩
  replace HH := Lib.hid (HH.out.on hgc.below)
  clear hgc c0 c1 d0 d1 HCM
  cases hcd : decide (0 ≤ cm)
  ·have hon : on = true := by rw [HON2.out, hcd]; rfl
   subst hon
   clear HON2
   have e0 : wc.cell? ⟨B1, 0, none⟩ = some (.string k.room) := cell_at HH.out.b1 0
   have e1 : wc.cell? ⟨B1, 1, none⟩ = some (.string k.user) := cell_at HH.out.b1 1
   have e2 : wc.cell? ⟨B1, 2, none⟩ = some (.string k.thread) := cell_at HH.out.b1 2
   have e3 : wc.cell? ⟨B1, 3, none⟩ = some (.bool k.priv) := cell_at HH.out.b1 3
   have d0 : wc.cell? ⟨B2, 0, none⟩ = some (.int .i64 p.depth) := cell_at HH.out.b2 0
   have d1 : wc.cell? ⟨B2, 1, none⟩ = some (.string p.id) := cell_at HH.out.b2 1
   go_wp2_with fail
   go_at_call 103
   refine (HOW.out _).mono ?_
   rintro e w3 ⟨rfl, hb3⟩
   have HH3 := Lib.hid (HH.out.on hb3)
   clear hb3 e0 e1 e2 e3 d0 d1 HOW
   go_upto_region 5 with (fail)
   have hn5 := Lib.hid (heap_alloc_new w3 (.cells #[.string k.room, .string k.user, .string k.thread, .bool k.priv, .int .i64 p.depth, .string p.id] 130))
   have HH5 := Lib.hid (HH3.out.on (below_new w3 (.cells #[.string k.room, .string k.user, .string k.thread, .bool k.priv, .int .i64 p.depth, .string p.id] 130)))
   generalize World.alloc _ _ = w5 at hn5 HH5 ⊢
   generalize w3.heap.size = B4 at hn5 ⊢
   refine wp_region_held_drew (S := fun W => W.heap[r.g]? = some (.cells #[.map (some r.mb)] 142 (0, 0)) ∧ W.heap[B4]? = some (.cells #[.string k.room, .string k.user, .string k.thread, .bool k.priv, .int .i64 p.depth, .string p.id] 130 (0, 0))) (by kernel_rfl) ⟨HH5.out.ct.hd, hn5.out⟩ (fun hHeld => ?_)
   have HC5 := Lib.hid (HH5.out.on (below_drew w5))
   clear hn5 HH5
   generalize w5.drew = wd5 at HC5 hHeld ⊢
   obtain ⟨w7, hru, hc7, hg7⟩ := HST.out _ HC5.out.ct trivial
   have HC7 := Lib.hid hc7
   have HG7 := Lib.hid hg7
   have hS7 : w7.heap[r.g]? = some (.cells #[.map (some r.mb)] 142 (0, 0)) ∧ w7.heap[B4]? = some (.cells #[.string k.room, .string k.user, .string k.thread, .bool k.priv, .int .i64 p.depth, .string p.id] 130 (0, 0)) := by
    refine ⟨hc7.hd, (hg7.block B4 (smem_lt hHeld.2) (fun e => ?_)).trans hHeld.2⟩
    injection e with e
    obtain ⟨xs, clock, hb', _⟩ := HC5.out.ct.map
    rw [← e, hHeld.2] at hb'
    cases hb'
   clear hc7 hg7
   refine wpAnyH_take (i := 0) (oi := ⟨some 30, _, _, _, _, _⟩) (v := ?vtb0) rfl (by kernel_rfl) (by kernel_rfl) (by kernel_rfl) (fun _ _ _ h => h) (Or.inl ⟨by rfl, ?ytb0⟩) hHeld ?rtb0
   case ytb0 =>
    intro wx hSx
    go_simp
    try with_reducible rfl
   try simp only [actS]
   refine wpAnyH_take (i := 1) (oi := ⟨some 31, _, _, _, _, _⟩) (v := ?vtb1) rfl (by kernel_rfl) (by kernel_rfl) (by kernel_rfl) (fun _ _ _ h => h) (Or.inl ⟨by rfl, ?ytb1⟩) hHeld ?rtb1
   case ytb1 =>
    intro wx hSx
    go_simp
    try with_reducible rfl
   try simp only [actS]
   refine wpAnyH_take (i := 2) (oi := ⟨some 32, _, _, _, _, _⟩) (v := ?vtb2) rfl (by kernel_rfl) (by kernel_rfl) (by kernel_rfl) (fun _ _ _ h => h) (Or.inl ⟨by rfl, ?ytb2⟩) hHeld ?rtb2
   case ytb2 =>
    intro wx hSx
    go_simp
    try with_reducible rfl
   try simp only [actS]
   refine wpAnyH_take (i := 3) (oi := ⟨some 33, _, _, _, _, _⟩) (v := ?vtb3) rfl (by kernel_rfl) (by kernel_rfl) (by kernel_rfl) (fun _ _ _ h => h) (Or.inl ⟨by rfl, ?ytb3⟩) hHeld ?rtb3
   case ytb3 =>
    intro wx hSx
    have z : wx.cell? ⟨r.g, 0, none⟩ = some (.map (some r.mb)) := cell_at hSx.1 0
    go_simp
    try with_reducible rfl
   try simp only [actS]
   refine wpAnyH_take (i := 4) (oi := ⟨some 34, _, _, _, _, _⟩) (v := ?vtb4) rfl (by kernel_rfl) (by kernel_rfl) (by kernel_rfl) (fun _ _ _ h => h) (Or.inl ⟨by rfl, ?ytb4⟩) hHeld ?rtb4
   case ytb4 =>
    intro wx hSx
    go_simp
    try with_reducible rfl
   try simp only [actS]
   refine wpAnyH_take (i := 5) (oi := ⟨some 35, _, _, _, _, _⟩) (v := ?vtb5) rfl (by kernel_rfl) (by kernel_rfl) (by kernel_rfl) (fun _ _ _ h => h) (Or.inl ⟨by rfl, ?ytb5⟩) hHeld ?rtb5
   case ytb5 =>
    intro wx hSx
    have z0 := cell_at hSx.2 0
    have z1 := cell_at hSx.2 1
    have z2 := cell_at hSx.2 2
    have z3 := cell_at hSx.2 3
    simp only [List.getElem?_toArray, List.getElem?_cons_succ, List.getElem?_cons_zero] at z0 z1 z2 z3
    go_simp
    try with_reducible rfl
   try simp only [actS]
   refine wpAnyH_take (i := 6) (oi := ⟨some 36, _, _, _, _, _⟩) (v := ?vtb6) rfl (by kernel_rfl) (by kernel_rfl) (by kernel_rfl) (fun _ _ _ h => h) (Or.inl ⟨by rfl, ?ytb6⟩) hHeld ?rtb6
   case ytb6 =>
    intro wx hSx
    go_simp
    try with_reducible rfl
   try simp only [actS]
   refine wpAnyH_take (i := 7) (oi := ⟨some 37, _, _, _, _, _⟩) (v := ?vtb7) rfl (by kernel_rfl) (by kernel_rfl) (by kernel_rfl) (fun _ _ _ h => h) (Or.inl ⟨by rfl, ?ytb7⟩) hHeld ?rtb7
   case ytb7 =>
    intro wx hSx
    have z4 := cell_at hSx.2 4
    have z5 := cell_at hSx.2 5
    simp only [List.getElem?_toArray, List.getElem?_cons_succ, List.getElem?_cons_zero] at z4 z5
    go_simp
    try with_reducible rfl
   try simp only [actS]
   refine wpAnyH_ready (rs := [8]) (by kernel_rfl) (by simp) ?_
   refine AllReadyH.cons (o := ⟨none, _, _, _, _, _⟩) rfl (fun K hK => ?_) AllReadyH.nil
   go_simp
   refine hK.out _ _ hS7 (fun hHeld => ?_)
   clear hK K
   try simp only [actS]
   refine wpAnyH_done (by kernel_rfl) ?_ _
   go_wp2_with fail
   go_ret
   exact ⟨rfl, put_on HC5.out.below HC7.out HG7.out⟩
  ·have hon : on = false := by rw [HON2.out, hcd]; rfl
   subst hon
   go_wp2_with fail
   go_ret
   exact ⟨rfl, put_kept HCR.out (by rw [HRO.out]) HH.out.below⟩
end Go.Proofs.YtnnapkakbdpkaaaGreat

namespace Go.Proofs.YtnnapkakbdpkaaaGreat
set_option maxRecDepth 20000
open Go.RowKit
variable {w w' : World} {l : List Mk}
instance : Inhabited Mk := ⟨⟨⟨⟨#[]⟩, ⟨#[]⟩, ⟨#[]⟩, false⟩, ⟨0, ⟨#[]⟩⟩⟩⟩
def cmpM (x y : Mk) : Int := cmpK x.k y.k
theorem lt_cmpM (x y : Mk) : ltOf cmpM x y = beforeK x.k y.k := cmpK_lt x.k y.k
theorem swo_cmpM : Sort.SWO (ltOf cmpM) where
 irrefl x := by rw [lt_cmpM]; exact bk_irrefl x.k
 trans x y z h1 h2 := by rw [lt_cmpM] at *; exact bk_trans h1 h2
 ntrans x y z h1 h2 := by
  rw [lt_cmpM] at *
  exact cmpK_le.1 (le_transK (cmpK_le.2 h2) (cmpK_le.2 h1))
theorem flat_vsR (d : Array Mk) (j : Nat) (hj : j < d.size * 6) : (LR.vs d.toList)[j]? = some (Sort.flatK LR.cl 6 d)[j]! := by
 rw [Sort.get_flatK _ _ _ _ hj]
 have h1 : d.toList[j / 6]? = some d[j / 6]! := by
  rw [Array.getElem?_toList, getElem!_pos d (j / 6) (by omega), Array.getElem?_eq_getElem (by omega)]
 have h2 : (LR.cl d[j / 6]!)[j % 6]? = some (LR.cl d[j / 6]!)[j % 6]! := by
  have : j % 6 < (LR.cl d[j / 6]!).length := by rw [LR.len]; exact Nat.mod_lt _ (by decide)
  rw [List.getElem?_eq_getElem this, getElem!_pos (LR.cl d[j / 6]!) (j % 6) this]
 have := LR.vs_get h1 h2
 rw [show j / 6 * LR.c + j % 6 = j by rw [show LR.c = 6 from rfl]; omega] at this
 exact this
theorem holds_mineR {B b off n cap : Nat} {xs : List Mk} (h : LR.Mine w B (.slice (some ⟨b, off, none⟩) n cap) xs) : Sort.HoldsK LR.cl 6 w b off xs.toArray := by
 intro j hj
 rw [Sort.size_flatK, List.size_toArray] at hj
 have hv := flat_vsR xs.toArray j (by rw [List.size_toArray]; exact hj)
 rw [List.toList_toArray] at hv
 rcases h with ⟨hv', _⟩ | ⟨g', off', cap', cur, hv', hg, hh, h1, h2, h3, h4⟩
 ·cases hv'
 ·injection hv' with e1 e2 e3
  injection e1 with e1
  injection e1 with e4 e5 _
  subst e4 e5 e3
  refine ⟨?_, by simp [World.frozen?, hh]⟩
  rw [cell_of_row w b (off + j) cur _ _ hh, ← Array.getElem?_toList]
  rw [← h4, List.getElem?_take, if_pos (by rw [show LR.c = 6 from rfl]; exact hj), List.getElem?_drop] at hv
  exact hv
theorem mine_sortedR {B b off n cap q : Nat} {xs : List Mk} (h : LR.Mine w B (.slice (some ⟨b, off, none⟩) n cap) xs) (d : Array Mk) (hd : d.size = xs.length) (os : Array Obj) : LR.Mine (sortWorldK LR.cl 6 w b off q d os) B (.slice (some ⟨b, off, none⟩) n cap) d.toList ∧ Below B w (sortWorldK LR.cl 6 w b off q d os) := by
 rcases h with ⟨hv', _⟩ | ⟨g', off', cap', cur, hv', hg, hh, h1, h2, h3, h4⟩
 ·cases hv'
 ·injection hv' with e1 e2 e3
  injection e1 with e1
  injection e1 with e4 e5 _
  subst e4 e5 e3
  have hb := smem_lt hh
  have hp : ∀ k, (Sort.putRowK LR.cl 6 (Sort.ahead w q) b off d).heap[k]? = if k = b then some (.cells (Sort.putCells id off (Sort.flatK LR.cl 6 d) cur) LR.e (0, 0)) else w.heap[k]? := by
   intro k
   show (w.heap.modify b _)[k]? = _
   rw [Array.getElem?_modify]
   by_cases e : b = k
   ·subst e
    rw [if_pos rfl, if_pos rfl, hh]
    rfl
   ·rw [if_neg e, if_neg (fun e' => e e'.symm)]
  have hsz : (Sort.putRowK LR.cl 6 (Sort.ahead w q) b off d).heap.size = w.heap.size := by
   show (w.heap.modify b _).size = _
   simp
  have hall : ∀ k, k < w.heap.size → (sortWorldK LR.cl 6 w b off q d os).heap[k]? = if k = b then some (.cells (Sort.putCells id off (Sort.flatK LR.cl 6 d) cur) LR.e (0, 0)) else w.heap[k]? := fun k hk => by
   rw [← hp k]
   exact Sort.heap_grow_old _ _ (by rw [hsz]; exact hk)
  constructor
  ·refine .inr ⟨b, off, cap, _, by rw [Array.length_toList, hd, e2], hg, by rw [hall b hb, if_pos rfl], by rw [Array.length_toList, hd]; exact h1, h2, by simpa [Sort.putCells] using h3, ?_⟩
   have hc : LR.c = 6 := rfl
   rw [Array.length_toList]
   apply List.ext_getElem?
   intro j
   rw [List.getElem?_take]
   by_cases hj : j < d.size * 6
   ·rw [hc, if_pos hj, flat_vsR d j hj, List.getElem?_drop, Array.getElem?_toList]
    have hlt : off + j < cur.size := by
     rw [hc] at h3
     have : xs.length * 6 ≤ cap * 6 := Nat.mul_le_mul_right _ h1
     omega
    simp only [Sort.putCells, Array.getElem?_mapIdx, Array.getElem?_eq_getElem hlt, Option.map_some, Sort.size_flatK]
    rw [if_pos ⟨by omega, by omega⟩, show off + j - off = j by omega]
    rfl
   ·rw [hc, if_neg hj, List.getElem?_eq_none (by rw [LR.vs_len, Array.length_toList, hc]; omega)]
  ·refine ⟨rfl, rfl, rfl, ?_, fun k hk => ?_⟩
   ·show w.heap.size ≤ (Sort.grow _ _).heap.size
    rw [Sort.size_grow, hsz]
    exact Nat.le_add_right _ _
   ·rw [hall k (by omega), if_neg (by omega)]
theorem sorted_rowR {d d' : Array Mk} (hp : Sort.PermIn 0 d.size d d') (hs : Sort.SortedIn (ltOf cmpM) 0 d.size d') (hd : d.toList.Perm l) (hr : RowM l) : d'.size = d.size ∧ d'.toList = l := by
 obtain ⟨h1, _, h3⟩ := hp
 have e1 : (d.extract 0 d.size) = d := by simp
 have e2 : (d'.extract 0 d.size) = d' := by rw [← h1]; simp
 rw [e1, e2] at h3
 have hpl := h3.trans hd
 have hn : (l.map Mk.k).Nodup := by
  rw [List.nodup_iff_pairwise_ne, List.pairwise_map]
  exact hr.imp bk_ne
 have hk : (d'.toList.map Mk.k).Nodup := (hpl.map Mk.k).nodup_iff.2 hn
 refine ⟨h1, rowM_unique ?_ hr (fun x => hpl.mem_iff)⟩
 unfold RowM
 rw [List.pairwise_iff_getElem]
 intro i j hi hj hij
 have hi' : i < d'.size := by simpa using hi
 have hj' : j < d'.size := by simpa using hj
 have hle := hs i j (Nat.zero_le _) hij (by omega)
 rw [lt_cmpM, getElem!_pos d' j hj', getElem!_pos d' i hi'] at hle
 have ne : d'.toList[i].k ≠ d'.toList[j].k := by
  rw [List.nodup_iff_pairwise_ne, List.pairwise_map, List.pairwise_iff_getElem] at hk
  exact hk i j hi hj hij
 rcases bk_total ne with h | h
 ·exact h
 ·simp only [Array.getElem_toList] at h
  rw [hle] at h
  cases h
theorem cmp_laysR (blk off size : Nat) (w : World) : CmpLays Tryz.prog 161 #[] LR.cl 6 cmpM blk off size w := fun _ _ _ _ x y => all1_any x y _
theorem sortR_any {B b off n cap : Nat} {xs : List Mk} (h : LR.Mine w B (.slice (some ⟨b, off, none⟩) n cap) xs) (hn : xs.length = n) (hl : n ≤ 1000) (hp : xs.Perm l) (hr : RowM l) :
  Calls Tryz.prog 160 #[.slice (some ⟨b, off, none⟩) n cap, .func (.func 161) #[] #[]] w fun e w' => e = .returned (.tuple #[]) ∧ LR.Mine w' B (.slice (some ⟨b, off, none⟩) n cap) l ∧ Below B w w' := by
 have eg : ∀ args w, (callFunc 161 args).run Tryz.prog w = .ok (.enter 161 args) w := enters_of Tryz.func161 (by kernel_rfl) rfl
 have hb : b < w.heap.size := (h.lt b rfl).2
 have hsz : xs.toArray.size = n := by rw [List.size_toArray]; exact hn
 have hcon := AnyQ.slices_SortFunc Tryz.sortE 6 Tryz.isAgg130 Tryz.sizeOf130 LR.cl LR.len LR.one cmpM swo_cmpM 161 #[] b off cap xs.toArray w eg (cmp_laysR b off xs.toArray.size w) (holds_mineR h) hb (by omega)
 rw [hsz] at hcon
 refine hcon.mono ?_
 rintro e w' ⟨rfl, d', q, os, p1, p2, rfl⟩
 rw [← hsz] at p1 p2
 obtain ⟨e1, e2⟩ := sorted_rowR p1 p2 (by rw [List.toList_toArray]; exact hp) hr
 have := mine_sortedR (q := q) h d' (by rw [e1, hsz, hn]) os
 rw [e2] at this
 exact ⟨rfl, this.1, this.2⟩
end Go.Proofs.YtnnapkakbdpkaaaGreat
