/-
  Package dag: row, All.
-/
import Derived.Test.YtfbfdkibdjinaaaGreatDgX
import Derived.Test.YtfbfdkibdjinaaaGreatDgF
import Derived.Shelf.SlSortCmp.NoneTotal
namespace Go.Proofs.YtfbfdkibdjinaaaGreat
set_option maxRecDepth 20000
open Go.RowKit
set_option linter.unusedVariables false
set_option linter.unusedSimpArgs false
section
variable {w : World} {g mb : Nat} {room : ByteArray} {ns : List NdV} {D : Dv}
theorem collect_any (h : DgS w g room mb ns D) (hl : ns.length ≤ 1000) (Bm : Nat) (hBm : w.cell? ⟨Bm, 0, none⟩ = some (.map (some mb))) :
    Calls Tryz.prog 105 #[.func (.func 107) #[] #[.pointer (some ⟨Bm, 0, none⟩)]] w fun e w' => ∃ A cap xs, e = .returned (.slice A xs.length cap) ∧ xs.Perm ns ∧ LN.Mine w' w.heap.size (.slice A xs.length cap) xs ∧ Below w.heap.size w w' := by
  have hsz : Maps.size D ≤ 1000 := by
    obtain ⟨es, rfl, hp⟩ := h.is
    rw [Maps.size_eq, hp.length_eq, List.length_map]
    exact hl
  have HA := Lib.hid (callsIn_wide.1 (appendSeq_in (ns := ns) Fence.wide 3 trivial trivial rfl (Nat.le_refl _) Bm mb ns.length D w (World.block_lt_of_cell? _ _ hBm) hBm (h.map.nodes h.is) hsz))
  have HP := Lib.hid (fun ps => all_perm (ps := ps) h.is h.ids)
  clear h hBm
  go_enter Tryz.func105, Tryz.ntmps105
  go_wp2_with fail
  go_at_call 124
  refine HA.out.mono ?_
  rintro e w1 ⟨v, ps, rfl, hall, hm, hb⟩
  have HX := Lib.hid (HP.out ps hall)
  generalize ps.map (fun p => p.2.1) = xs at HX hm
  obtain ⟨A, cap, rfl, -⟩ := id hm.shape
  go_wp2_with fail
  go_ret
  exact ⟨A, cap, xs, rfl, HX.out, hm, hb⟩
theorem sortedFunc_any (h : DgS w g room mb ns D) (hl : ns.length ≤ 1000) (Bm : Nat) (hBm : w.cell? ⟨Bm, 0, none⟩ = some (.map (some mb))) :
    Calls Tryz.prog 85 #[.func (.func 107) #[] #[.pointer (some ⟨Bm, 0, none⟩)], .func (.func 87) #[] #[]] w fun e w' => ∃ A cap xs, e = .returned (.slice A xs.length cap) ∧ xs.Perm ns ∧ xs.Pairwise (fun x y => beforeP y.po x.po = false) ∧ LN.Mine w' w.heap.size (.slice A xs.length cap) xs ∧ Below w.heap.size w w' := by
  have HC := Lib.hid (collect_any h hl Bm hBm)
  have HL := Lib.hid hl
  clear h hBm hl
  go_enter Tryz.func85, Tryz.ntmps85
  go_wp2_with fail
  go_at_call 105
  refine HC.out.mono ?_
  rintro e w1 ⟨A, cap, xs, rfl, hp, hm, hb⟩
  have HX := Lib.hid hp
  have HB := Lib.hid hb
  have HM := Lib.hid hm
  have hlen : xs.length ≤ 1000 := by rw [hp.length_eq]; exact HL.out
  clear hp hm hb HC
  rcases id HM.out with ⟨hv, hxs⟩ | ⟨gg, off, cp, cur, hv, -⟩
  · subst hxs
    clear hv
    have HN := Lib.hid (fun W => AnyF.slices_SortFunc_none Tryz.sortE A cap (.func (.func 87) #[] #[]) W)
    go_wp2_with fail
    go_at_call 106
    refine (HN.out _).mono ?_
    rintro e w2 ⟨rfl, rfl⟩
    go_wp2_with fail
    go_ret
    exact ⟨A, cap, [], rfl, HX.out, List.Pairwise.nil, HM.out, HB.out⟩
  · injection hv with hA _ hcp
    subst hA
    clear hcp
    have HS := Lib.hid (sort_nodes (n := xs.length) (cap := cap) (xs := xs) HM.out rfl hlen)
    go_wp2_with fail
    go_at_call 106
    refine HS.out.mono ?_
    rintro e w2 ⟨rfl, ys, hp2, hpw, hm2, hb2⟩
    go_wp2_with fail
    go_ret
    have hle := hp2.length_eq
    exact ⟨some ⟨gg, off, none⟩, cap, ys, by rw [hle]; rfl, hp2.trans HX.out, hpw, by rw [hle]; exact hm2, HB.out.trans hb2⟩
theorem row_any (h : DgS w g room mb ns D) (hl : ns.length ≤ 1000) : Calls Tryz.prog 73 #[.pointer (some ⟨g, 0, none⟩)] w fun e w' => ∃ A cap xs, e = .returned (.slice A xs.length cap) ∧ xs.Perm ns ∧ xs.Pairwise (fun x y => beforeP y.po x.po = false) ∧ LN.Mine w' w.heap.size (.slice A xs.length cap) xs ∧ Below w.heap.size w w' := by
  have c1 := h.c1
  have HV := Lib.hid (callsIn_wide.1 (values_in Fence.wide 1 trivial rfl (some mb) w))
  have hb := below_new w (.cells #[.map (some mb)] 70)
  have HS := Lib.hid (sortedFunc_any (h.below hb) hl w.heap.size (cell_at (heap_alloc_new w (.cells #[.map (some mb)] 70)) 0))
  have HB := Lib.hid hb
  clear h hb
  go_enter Tryz.func73, Tryz.ntmps73
  go_wp2_with fail
  go_at_call 86
  refine HV.out.mono ?_
  rintro e w1 ⟨rfl, rfl⟩
  go_wp2_with fail
  go_at_call 85
  refine HS.out.mono ?_
  rintro e w2 ⟨A, cap, xs, rfl, hp, hpw, hm, hb2⟩
  go_wp2_with fail
  go_ret
  have hsz := HB.out.size
  exact ⟨A, cap, xs, rfl, hp, hpw, hm.mono hsz, HB.out.trans (hb2.mono hsz)⟩
theorem row_all (h : DgS w g room mb ns D) {xs : List NdV} (hp : xs.Perm ns) (hpw : xs.Pairwise (fun x y => beforeP y.po x.po = false)) : nevs xs = allL (nevs ns) := by
  obtain ⟨h1, h2⟩ := allL_row h.val
  refine sorted_unique (l := nevs ns) ?_ h1 (fun e => ?_)
  · unfold Sorted
    rw [List.pairwise_map]
    have hnd : (xs.map (fun n => n.x.ev.id)).Nodup := by
      have h3 := h.ids
      rw [List.map_map] at h3
      exact ((hp.map _).nodup_iff).2 h3
    rw [List.nodup_iff_pairwise_ne, List.pairwise_map] at hnd
    refine (hpw.and hnd).imp_of_mem (fun {a b} ha hb hab => ?_)
    have ea : posL (nevs ns) a.x.ev.id = a.po := by
      unfold posL NdV.po
      rw [← h.depth (hp.mem_iff.1 ha)]
    have eb : posL (nevs ns) b.x.ev.id = b.po := by
      unfold posL NdV.po
      rw [← h.depth (hp.mem_iff.1 hb)]
    rw [ea, eb]
    have hne : a.po ≠ b.po := fun e => hab.2 (by unfold NdV.po at e; injection e)
    rcases pos_total hne with k | k
    · exact k
    · rw [hab.1] at k; cases k
  · rw [h2 e]
    constructor
    · intro he
      obtain ⟨n, hn, rfl⟩ := List.mem_map.1 he
      exact List.mem_map.2 ⟨n, hp.mem_iff.1 hn, rfl⟩
    · intro he
      obtain ⟨n, hn, rfl⟩ := List.mem_map.1 he
      exact List.mem_map.2 ⟨n, hp.mem_iff.2 hn, rfl⟩
end
theorem make_evs (n : Nat) (hn : n ≤ 1000) : ∃ cs : Array Value, cs.size = n * 6 ∧ ∀ w, (Instr.makeSlice 24 (.int .i64 0) (.int .i64 (n : Int))).run Tryz.prog w = .ok (.slice (some ⟨w.heap.size, 0, none⟩) 0 n) (w.alloc (.cells cs 33)) := by
  obtain ⟨i0, hi0, hz0, hz1, hz2⟩ := info_parts knV.info
  have hb : (i0.bytes : Int) * (n : Int) ≤ 281474976710656 := by rw [hz2]; omega
  refine ⟨madeCells (Value.agg #[.string ⟨#[]⟩, .string ⟨#[]⟩, .slice none 0 0, .string ⟨#[]⟩, .string ⟨#[]⟩, .int .i64 0]).cells (n * 6), size_madeCells _ _, fun w => ?_⟩
  have hr := run_make (P := Tryz.prog) w 24 33 i0 _ Tryz.underlying24 hi0 hz0 .i64 .i64 0 (n : Int) (Int.le_refl _) (by omega) hb (by omega)
  rw [hz1, Int.toNat_natCast] at hr
  exact hr
theorem mine_evs (w : World) (n : Nat) (hn : n ≤ 1000) (cs : Array Value) (hc : cs.size = n * 6) : LV.Mine (w.alloc (.cells cs 33)) w.heap.size (.slice (some ⟨w.heap.size, 0, none⟩) 0 n) [] :=
  .inr ⟨w.heap.size, 0, n, cs, rfl, Nat.le_refl _, heap_alloc_new w _, Nat.zero_le _, by unfold maxLen; omega, by rw [show LV.c = 6 from rfl]; omega, by simp [Lies.vs]⟩
/-- While copies are gathered. -/
structure AlS (w wr : World) (u : Value) (ys : List EvV) : Prop where
  below : Below w.heap.size w wr
  row : LV.Mine wr w.heap.size u ys
  each : ∀ y ∈ ys, LT.Mine wr w.heap.size y.pv y.ev.parents
theorem AlS.on {w wr w2 : World} {u : Value} {ys : List EvV} (h : AlS w wr u ys) (hb : Below wr.heap.size wr w2) : AlS w w2 u ys :=
  ⟨h.below.trans (hb.mono h.below.size), h.row.below hb, fun y hy => (h.each y hy).below hb⟩
theorem AlS.put {w wr w2 : World} {u u' : Value} {ys : List EvV} {y : EvV} (h : AlS w wr u ys) (hy : LT.Mine wr w.heap.size y.pv y.ev.parents) (hm : LV.Mine w2 w.heap.size u' (ys ++ [y])) (hg : wr.grownBy w2 u.ownBlock) : AlS w w2 u' (ys ++ [y]) := by
  refine ⟨h.below.grown hg h.below.size (fun k hk => (h.row.lt k hk).1), hm, fun z hz => ?_⟩
  rcases List.mem_append.1 hz with hz | hz
  · exact (h.each z hz).grown hg (fun k hk => (h.each z hz).apart h.row (by decide) k hk)
  · rw [List.mem_singleton.1 hz]
    exact hy.grown hg (fun k hk => hy.apart h.row (by decide) k hk)
theorem nd_at {w : World} {A : Option Addr} {k cap i : Nat} {xs : List NdV} {n : NdV} (h : LN.Slice w (.slice A k cap) xs) (hi : xs[i]? = some n) : ∃ b off, A = some ⟨b, off, none⟩ ∧ b < w.heap.size ∧ w.rangeAt b (off + i * 7) n.cells := h.at hi

set_option maxHeartbeats 1600000 in
theorem all_any7 {w : World} {g mb : Nat} {room : ByteArray} {ns : List NdV} {D : Dv} (h : DgS w g room mb ns D) (hl : ns.length ≤ 1000) : Calls Tryz.prog 53 #[.pointer (some ⟨g, 0, none⟩)] w fun e w' => ∃ v ys, e = .returned v ∧ AlS w w' v ys ∧ evs ys = allL (nevs ns) := by
  have c1 := h.c1
  have hs : Maps.size D = ns.length := by
    obtain ⟨es, rfl, hp⟩ := h.is
    rw [Maps.size_eq, hp.length_eq, List.length_map]
  have hlen : ∀ ty, (Builtin.len_ #[70] ty #[.map (some mb)]).run Tryz.prog w = .ok (.int .i64 (ns.length : Int)) w := fun ty => by
    rw [← hs]
    exact World.ownsMap.len h.map Tryz.underlying70 ty
  obtain ⟨cs, hcs, hmk⟩ := make_evs ns.length hl
  have HA0 := Lib.hid (show AlS w (w.alloc (.cells cs 33)) (.slice (some ⟨w.heap.size, 0, none⟩) 0 ns.length) [] from ⟨below_new w _, mine_evs w ns.length hl cs hcs, fun y hy => by cases hy⟩)
  have HD := Lib.hid h
  have HR := Lib.hid (row_any (h.below (below_new w (.cells cs 33))) hl)
  clear h hs hcs
  go_enter Tryz.func53, Tryz.ntmps53
  go_upto_region 2 with (fail)
  clear hlen hmk c1
  generalize w.alloc _ = w1 at HA0 HR ⊢
  generalize Value.slice (some ⟨w.heap.size, 0, none⟩) 0 ns.length = u0 at HA0 ⊢
  go_wp2_with fail
  go_at_call 73
  refine HR.out.mono ?_
  rintro e w2 ⟨A, cap, xs, rfl, hp, hpw, hm, hb2⟩
  have HX := Lib.hid (row_all HD.out hp hpw)
  have HPM := Lib.hid hp
  have hxl : xs.length ≤ 1000 := by rw [hp.length_eq]; exact hl
  have HW1 := Lib.hid HA0.out.below
  have hw1 : w.heap.size ≤ w1.heap.size := HA0.out.below.size
  replace HA0 := Lib.hid (HA0.out.on hb2)
  have HM := Lib.hid hm
  have hcap : xs.length ≤ cap ∧ cap ≤ 9223372036854775807 := by
    obtain ⟨_, _, he, h5, hm5, -⟩ := hm.shape
    injection he with _ he2 he3
    unfold maxLen at hm5
    omega
  clear hp hpw hm hb2 HR
  obtain ⟨A0, c0, hu, -⟩ := id HA0.out.row.shape
  have hu0 : u0 = .slice A0 0 c0 := hu
  clear hu
  subst hu0
  go_wp2_with fail
  go_loopw [3, 15] (fun u i wr => ∃ (a : Nat) (ys : List EvV) (Ao : Option Addr) (co : Nat), u = .slice Ao ys.length co ∧ i = .int .i64 (a : Int) ∧ a ≤ xs.length ∧ ys.length ≤ a ∧ Hid (AlS w wr u ys) ∧ Hid (evs ys = (nevs xs).take a) ∧ Hid (LN.Mine wr w.heap.size (.slice A xs.length cap) xs)) (fun _ i _ => xs.length - (intOf i).toNat)
  case atStart => exact ⟨0, [], A0, c0, rfl, rfl, Nat.zero_le _, Nat.le_refl _, HA0, Lib.hid rfl, Lib.hid (HM.out.mono hw1)⟩
  case round =>
    obtain ⟨a, ys, Ao, co, rfl, rfl, ha, hya, HAR, HTK, HBR⟩ := hrel
    by_cases hlt : a < xs.length
    · have q1 : decide ((a : Int) < (xs.length : Int)) = true := decide_eq_true (by omega)
      have hn : xs[a]? = some xs[a] := List.getElem?_eq_getElem hlt
      generalize xs[a] = n at hn
      have hmem : n ∈ ns := HPM.out.mem_iff.1 (List.mem_of_getElem? hn)
      have HTS : Hid ((nevs xs).take (a + 1) = (nevs xs).take a ++ [n.x.ev]) := Lib.hid (by rw [List.take_add_one, List.getElem?_map, hn]; rfl)
      obtain ⟨bx, ox, hA, hbx, hrx⟩ := nd_at HBR.out.slice hn
      have hix := index_any (P := Tryz.prog) knN (by decide) (b := bx) (off := ox) (cap := cap) hlt
      simp only [LN] at hix
      have hr0 := hrx
      rw [hA]
      have x0 : wr.cell? ⟨bx, ox + a * 7, none⟩ = some (.string n.x.ev.id) := hr0 0 _ rfl
      have x1 : wr.cell? ⟨bx, ox + a * 7 + 1, none⟩ = some (.string n.x.ev.room) := hr0 1 _ rfl
      have x2 : wr.cell? ⟨bx, ox + a * 7 + 2, none⟩ = some (.slice n.x.A n.x.ev.parents.length n.x.cap) := hr0 2 _ rfl
      have x3 : wr.cell? ⟨bx, ox + a * 7 + 3, none⟩ = some (.string n.x.ev.thread) := hr0 3 _ rfl
      have x4 : wr.cell? ⟨bx, ox + a * 7 + 4, none⟩ = some (.string n.x.ev.user) := hr0 4 _ rfl
      have x5 : wr.cell? ⟨bx, ox + a * 7 + 5, none⟩ = some (.int .i64 n.x.ev.does) := hr0 5 _ rfl
      have x6 : wr.cell? ⟨bx, ox + a * 7 + 6, none⟩ = some (.int .i64 (n.d : Int)) := hr0 6 _ rfl
      have HMY := Lib.hid (HD.out.node hmem).1
      have HPA := Lib.hid (HD.out.par n hmem)
      have HWR : Hid (Below w.heap.size w wr) := Lib.hid HAR.out.below
      have HBX := Lib.hid (heap_alloc_new wr (.cells #[.string n.x.ev.id, .string n.x.ev.room, .slice n.x.A n.x.ev.parents.length n.x.cap, .string n.x.ev.thread, .string n.x.ev.user, .int .i64 n.x.ev.does, .int .i64 (n.d : Int)] 78))
      have HB4 := Lib.hid (below_new wr (.cells #[.string n.x.ev.id, .string n.x.ev.room, .slice n.x.A n.x.ev.parents.length n.x.cap, .string n.x.ev.thread, .string n.x.ev.user, .int .i64 n.x.ev.does, .int .i64 (n.d : Int)] 78))
      clear hr0 hrx hn hmem
      go_upto_region 5 with (fail)
      generalize wr.alloc _ = w4 at HBX HB4 ⊢
      have HA4 := Lib.hid (HAR.out.on HB4.out)
      have HBR4 := Lib.hid (HBR.out.below HB4.out)
      have HOW := Lib.hid (own_any n.x w4 ((HPA.out.slice.below HWR.out).below HB4.out) HMY.out)
      generalize wr.heap.size = B5 at HBX ⊢
      clear x0 x1 x2 x3 x4 x5 x6 HB4 HAR HBR HWR
      have s0 : w4.cell? ⟨B5, 0, none⟩ = some (.string n.x.ev.id) := cell_at HBX.out 0
      have s1 : w4.cell? ⟨B5, 1, none⟩ = some (.string n.x.ev.room) := cell_at HBX.out 1
      have s2 : w4.cell? ⟨B5, 2, none⟩ = some (.slice n.x.A n.x.ev.parents.length n.x.cap) := cell_at HBX.out 2
      have s3 : w4.cell? ⟨B5, 3, none⟩ = some (.string n.x.ev.thread) := cell_at HBX.out 3
      have s4 : w4.cell? ⟨B5, 4, none⟩ = some (.string n.x.ev.user) := cell_at HBX.out 4
      have s5 : w4.cell? ⟨B5, 5, none⟩ = some (.int .i64 n.x.ev.does) := cell_at HBX.out 5
      have s6 : w4.cell? ⟨B5, 6, none⟩ = some (.int .i64 (n.d : Int)) := cell_at HBX.out 6
      unfold EvV.val EvV.pv at HOW
      go_wp2_with fail
      go_at_call 48
      refine HOW.out.mono ?_
      rintro e w5 ⟨y, rfl, hy, hmy, b5⟩
      have HY := Lib.hid hy
      have hsz4 := HA4.out.below.size
      have HMYY := Lib.hid (show LT.Mine w5 w.heap.size y.pv y.ev.parents from hmy.mono hsz4)
      have HA5 := Lib.hid (HA4.out.on b5)
      have HBR5 := Lib.hid (HBR4.out.below b5)
      clear hy hmy b5 HOW s0 s1 s2 s3 s4 s5 s6 HA4 HBR4
      have hlit := Lib.hid (show LV.Slice (w5.alloc (.cells #[.string y.ev.id, .string y.ev.room, .slice y.A y.ev.parents.length y.cap, .string y.ev.thread, .string y.ev.user, .int .i64 y.ev.does] 33)) (.slice (some ⟨w5.heap.size, 0, none⟩) 1 1) [y] from lit_slice (L := LV) w5 y w5.heap.size rfl #[.string y.ev.id, .string y.ev.room, .slice y.A y.ev.parents.length y.cap, .string y.ev.thread, .string y.ev.user, .int .i64 y.ev.does] rfl)
      have hb6 := below_new w5 (.cells #[.string y.ev.id, .string y.ev.room, .slice y.A y.ev.parents.length y.cap, .string y.ev.thread, .string y.ev.user, .int .i64 y.ev.does] 33)
      have HA6 := Lib.hid (HA5.out.on hb6)
      have HMY6 := Lib.hid (HMYY.out.below hb6)
      have HBR6 := Lib.hid (HBR5.out.below hb6)
      have hsz6 : w.heap.size ≤ (w5.alloc (.cells #[.string y.ev.id, .string y.ev.room, .slice y.A y.ev.parents.length y.cap, .string y.ev.thread, .string y.ev.user, .int .i64 y.ev.does] 33)).heap.size := HA6.out.below.size
      clear hb6 HA5 HMYY HBR5
      go_wp2_with (at_builtin; refine wpList_puts rfl knV (.tmp 19) (.tmp 23) 24 rfl (v := .slice Ao ys.length co) rfl HA6.out.row hsz6 (.slice (some ⟨w5.heap.size, 0, none⟩) 1 1) [y] 1 rfl rfl (hlit.out.srcN knV rfl) (by omega) ?_; intro A7 cap7 w7 hm7 hg7 hb7; have HA7 := Lib.hid (HA6.out.put HMY6.out hm7 hg7); have HM7 := Lib.hid (HBR6.out.grown hg7 (fun k hk => HBR6.out.apart HA6.out.row (by decide) k hk)); clear hm7 hg7 hb7)
      rw [hA] at HM7
      refine ⟨⟨a + 1, ys ++ [y], A7, cap7, by rw [List.length_append]; rfl, by go_num, by omega, by rw [List.length_append]; simp only [List.length_cons, List.length_nil]; omega, HA7, Lib.hid (by rw [HTS.out, ← HTK.out, evs, List.map_append, List.map_cons, List.map_nil, HY.out]), HM7⟩, ?_⟩
      simp [intOf]; omega
    · have q1 : decide ((a : Int) < (xs.length : Int)) = false := decide_eq_false (by omega)
      have HEND : Hid (evs ys = allL (nevs ns)) := Lib.hid (by rw [HTK.out, ← HX.out, List.take_of_length_le (by rw [List.length_map]; omega)])
      go_wp2_with fail
      go_ret
      exact ⟨_, ys, rfl, HAR.out, HEND.out⟩
end Go.Proofs.YtfbfdkibdjinaaaGreat
