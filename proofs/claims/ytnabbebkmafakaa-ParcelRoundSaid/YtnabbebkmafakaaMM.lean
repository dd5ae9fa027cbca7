/-
  The document's bytes of an EDU, and its Read; what statements share.
-/
import Derived.Test.YtnabbebkmafakaaMJ
import Derived.Test.YtnabbebkmafakaaMD
import Derived.Test.YtnabbebkmafakaaMK
import Derived.Test.YtnabbebkmafakaaML
namespace Go.Proofs.Ytnabbebkmafakaa
open Go.RowKit
set_option linter.unusedVariables false
set_option linter.unusedSimpArgs false
set_option maxRecDepth 20000

set_option maxHeartbeats 3200000 in
theorem refBytes_any (e : Edu) (w : World) (hf : e.fits) (hs : e.short) : Calls Try.prog 38 #[e.val] w (PutPost w (bytesB e)) := by
  have HH := Lib.hid (head_len hf hs)
  have HT := Lib.hid (tail_len hf hs)
  have HA := Lib.hid (tail_all e)
  obtain ⟨⟨k0, k1⟩, ⟨s0, s1⟩, ⟨z0, z1⟩, ⟨c0, c1⟩, ⟨m0, m1⟩⟩ := hf
  obtain ⟨x1, x2, x3, x4⟩ := hs
  have H0 := Lib.hid (show headB e 0 = digs (natI e.kind) from rfl)
  have Hr := Lib.hid (show headB e 0 ++ textB e.room = headB e 1 from rfl)
  have Hu := Lib.hid (show headB e 1 ++ textB e.user = headB e 2 from rfl)
  have Hv := Lib.hid (show headB e 2 ++ textB e.event = headB e 3 from rfl)
  have Ht := Lib.hid (show headB e 3 ++ textB e.thread = headB e 4 from rfl)
  have Ho := Lib.hid (show headB e 4 ++ flagB e.on = tailB e 0 from rfl)
  have Hs := Lib.hid (show tailB e 0 ++ digs (natI e.span) = tailB e 1 from rfl)
  have Hz := Lib.hid (show tailB e 1 ++ digs (natI e.state) = tailB e 2 from rfl)
  have Hc := Lib.hid (show tailB e 2 ++ digs (natI e.tick) = tailB e 3 from rfl)
  have Hm := Lib.hid (show tailB e 3 ++ digs (natI e.stamp) = tailB e 4 from rfl)
  generalize headB e = hd at *
  generalize tailB e = tl at *
  generalize bytesB e = bb at *
  obtain ⟨k, r, u, v, t, p, o, s, z, c, m⟩ := e
  simp only [Edu.val] at *
  go_enter Try.func38, Try.ntmps38
  go_wp2_with fail
  have hO := one_new w #[.int .i64 k, .string r, .string u, .string v, .string t, .bool p, .bool o, .int .i64 s, .int .i64 z, .int .i64 c, .int .i64 m]
  have hWs := size_alloc1 w (.cells #[.int .i64 k, .string r, .string u, .string v, .string t, .bool p, .bool o, .int .i64 s, .int .i64 z, .int .i64 c, .int .i64 m] 50)
  generalize hW : (w.alloc (.cells #[.int .i64 k, .string r, .string u, .string v, .string t, .bool p, .bool o, .int .i64 s, .int .i64 z, .int .i64 c, .int .i64 m] 50)) = W at hO hWs ⊢
  clear hW
  refine (refNumber_put k _ k0 k1).mono ?_
  rintro e w1 ⟨⟨g1, cap1, rfl, hg1, ho1⟩, hb1⟩
  rw [← H0.out] at ho1 ⊢
  replace hO := hO.later hb1
  have hg : w.heap.size + 1 ≤ g1 := by omega
  clear hb1 hg1 hWs W H0
  obtain ⟨d0, d1, d2, d3, d4, d5, d6, d7, d8, d9, d10⟩ := cells11 hO.2
  have HO := Lib.hid hO
  have HX := Lib.hid ho1
  clear hO ho1
  go_wp2_with fail
  clear d0 d1 d2 d3 d4 d5 d6 d7 d8 d9 d10
  refine (refText_put r _ (by omega)).mono ?_
  rintro e wra ⟨⟨gp, capp, rfl, hgp, hop⟩, hbp⟩
  have hO := HO.out.later hbp
  have hx := HX.out.below hbp
  clear HO HX hbp hgp
  have hl0 := HH.out 0
  have hl1 := textB_len r
  have hl2 := len_digs r.size (Nat.lt_of_le_of_lt x1 (by decide))
  have HS := Lib.hid (Src.ofRow rfl (hop.row (lo := 0) (Nat.zero_le _)))
  have HN := Lib.hid (show (hd 0).length + (textB r).length = (hd 1).length by rw [← Hr.out, List.length_append])
  generalize textB r = psr at *
  have HSz := Lib.hid (show w.heap.size + 1 ≤ wra.heap.size from heap_lt hO.2)
  have HO := Lib.hid hO
  have HX := Lib.hid hx
  have hln : (hd 0).length + psr.length ≤ 1099511627776 := by omega
  clear hO hx hop hl0 hl1 hl2
  go_upto_region 3 with (at_builtin; refine wpList_puts rfl (.tmp 7) (.tmp 10) _ rfl rfl (.inr ⟨g1, cap1, rfl, hg, HX.out⟩) HSz.out _ _ psr rfl rfl HS.out (.inr ⟨g1, cap1, rfl, hg, HX.out⟩) hln ?_; rintro gr capr wrb hgn hon hbn)
  rw [HN.out]
  have hO : One w #[.int .i64 k, .string r, .string u, .string v, .string t, .bool p, .bool o, .int .i64 s, .int .i64 z, .int .i64 c, .int .i64 m] wrb := ⟨HO.out.1.trans (hbn.mono (by omega)), (hbn.block _ (by omega)).trans HO.out.2⟩
  have hor := own_cast hon Hr.out
  clear hg HO HX HS HSz HN hln hon hbn
  have hg := hgn
  clear hgn
  obtain ⟨d0, d1, d2, d3, d4, d5, d6, d7, d8, d9, d10⟩ := cells11 hO.2
  have HO := Lib.hid hO
  have HX := Lib.hid hor
  clear hO hor
  go_wp2_with fail
  clear d0 d1 d2 d3 d4 d5 d6 d7 d8 d9 d10
  refine (refText_put u _ (by omega)).mono ?_
  rintro e wua ⟨⟨gp, capp, rfl, hgp, hop⟩, hbp⟩
  have hO := HO.out.later hbp
  have hx := HX.out.below hbp
  clear HO HX hbp hgp
  have hl0 := HH.out 1
  have hl1 := textB_len u
  have hl2 := len_digs u.size (Nat.lt_of_le_of_lt x2 (by decide))
  have HS := Lib.hid (Src.ofRow rfl (hop.row (lo := 0) (Nat.zero_le _)))
  have HN := Lib.hid (show (hd 1).length + (textB u).length = (hd 2).length by rw [← Hu.out, List.length_append])
  generalize textB u = psu at *
  have HSz := Lib.hid (show w.heap.size + 1 ≤ wua.heap.size from heap_lt hO.2)
  have HO := Lib.hid hO
  have HX := Lib.hid hx
  have hln : (hd 1).length + psu.length ≤ 1099511627776 := by omega
  clear hO hx hop hl0 hl1 hl2
  go_upto_region 4 with (at_builtin; refine wpList_puts rfl (.tmp 12) (.tmp 15) _ rfl rfl (.inr ⟨gr, capr, rfl, hg, HX.out⟩) HSz.out _ _ psu rfl rfl HS.out (.inr ⟨gr, capr, rfl, hg, HX.out⟩) hln ?_; rintro gu capu wub hgn hon hbn)
  rw [HN.out]
  have hO : One w #[.int .i64 k, .string r, .string u, .string v, .string t, .bool p, .bool o, .int .i64 s, .int .i64 z, .int .i64 c, .int .i64 m] wub := ⟨HO.out.1.trans (hbn.mono (by omega)), (hbn.block _ (by omega)).trans HO.out.2⟩
  have hou := own_cast hon Hu.out
  clear hg HO HX HS HSz HN hln hon hbn
  have hg := hgn
  clear hgn
  obtain ⟨d0, d1, d2, d3, d4, d5, d6, d7, d8, d9, d10⟩ := cells11 hO.2
  have HO := Lib.hid hO
  have HX := Lib.hid hou
  clear hO hou
  go_wp2_with fail
  clear d0 d1 d2 d3 d4 d5 d6 d7 d8 d9 d10
  refine (refText_put v _ (by omega)).mono ?_
  rintro e wva ⟨⟨gp, capp, rfl, hgp, hop⟩, hbp⟩
  have hO := HO.out.later hbp
  have hx := HX.out.below hbp
  clear HO HX hbp hgp
  have hl0 := HH.out 2
  have hl1 := textB_len v
  have hl2 := len_digs v.size (Nat.lt_of_le_of_lt x3 (by decide))
  have HS := Lib.hid (Src.ofRow rfl (hop.row (lo := 0) (Nat.zero_le _)))
  have HN := Lib.hid (show (hd 2).length + (textB v).length = (hd 3).length by rw [← Hv.out, List.length_append])
  generalize textB v = psv at *
  have HSz := Lib.hid (show w.heap.size + 1 ≤ wva.heap.size from heap_lt hO.2)
  have HO := Lib.hid hO
  have HX := Lib.hid hx
  have hln : (hd 2).length + psv.length ≤ 1099511627776 := by omega
  clear hO hx hop hl0 hl1 hl2
  go_upto_region 5 with (at_builtin; refine wpList_puts rfl (.tmp 17) (.tmp 20) _ rfl rfl (.inr ⟨gu, capu, rfl, hg, HX.out⟩) HSz.out _ _ psv rfl rfl HS.out (.inr ⟨gu, capu, rfl, hg, HX.out⟩) hln ?_; rintro gv capv wvb hgn hon hbn)
  rw [HN.out]
  have hO : One w #[.int .i64 k, .string r, .string u, .string v, .string t, .bool p, .bool o, .int .i64 s, .int .i64 z, .int .i64 c, .int .i64 m] wvb := ⟨HO.out.1.trans (hbn.mono (by omega)), (hbn.block _ (by omega)).trans HO.out.2⟩
  have hov := own_cast hon Hv.out
  clear hg HO HX HS HSz HN hln hon hbn
  have hg := hgn
  clear hgn
  obtain ⟨d0, d1, d2, d3, d4, d5, d6, d7, d8, d9, d10⟩ := cells11 hO.2
  have HO := Lib.hid hO
  have HX := Lib.hid hov
  clear hO hov
  go_wp2_with fail
  clear d0 d1 d2 d3 d4 d5 d6 d7 d8 d9 d10
  refine (refText_put t _ (by omega)).mono ?_
  rintro e wta ⟨⟨gp, capp, rfl, hgp, hop⟩, hbp⟩
  have hO := HO.out.later hbp
  have hx := HX.out.below hbp
  clear HO HX hbp hgp
  have hl0 := HH.out 3
  have hl1 := textB_len t
  have hl2 := len_digs t.size (Nat.lt_of_le_of_lt x4 (by decide))
  have HS := Lib.hid (Src.ofRow rfl (hop.row (lo := 0) (Nat.zero_le _)))
  have HN := Lib.hid (show (hd 3).length + (textB t).length = (hd 4).length by rw [← Ht.out, List.length_append])
  generalize textB t = pst at *
  have HSz := Lib.hid (show w.heap.size + 1 ≤ wta.heap.size from heap_lt hO.2)
  have HO := Lib.hid hO
  have HX := Lib.hid hx
  have hln : (hd 3).length + pst.length ≤ 1099511627776 := by omega
  clear hO hx hop hl0 hl1 hl2
  go_upto_region 6 with (at_builtin; refine wpList_puts rfl (.tmp 22) (.tmp 25) _ rfl rfl (.inr ⟨gv, capv, rfl, hg, HX.out⟩) HSz.out _ _ pst rfl rfl HS.out (.inr ⟨gv, capv, rfl, hg, HX.out⟩) hln ?_; rintro gt capt wtb hgn hon hbn)
  rw [HN.out]
  have hO : One w #[.int .i64 k, .string r, .string u, .string v, .string t, .bool p, .bool o, .int .i64 s, .int .i64 z, .int .i64 c, .int .i64 m] wtb := ⟨HO.out.1.trans (hbn.mono (by omega)), (hbn.block _ (by omega)).trans HO.out.2⟩
  have hot := own_cast hon Ht.out
  clear hg HO HX HS HSz HN hln hon hbn
  have hg := hgn
  clear hgn
  obtain ⟨d0, d1, d2, d3, d4, d5, d6, d7, d8, d9, d10⟩ := cells11 hO.2
  have HO := Lib.hid hO
  have HX := Lib.hid hot
  clear hO hot
  go_wp2_with fail
  clear d0 d1 d2 d3 d4 d5 d6 d7 d8 d9 d10
  refine (refFlag_put o _).mono ?_
  rintro e woa ⟨⟨gp, capp, rfl, hgp, hop⟩, hbp⟩
  have hO := HO.out.later hbp
  have hx := HX.out.below hbp
  clear HO HX hbp hgp
  have hl0 := HH.out 4
  have hl1 := (show (flagB o).length = 1 from rfl)
  have hl2 := True.intro
  have HS := Lib.hid (Src.ofRow rfl (hop.row (lo := 0) (Nat.zero_le _)))
  have HN := Lib.hid (show (hd 4).length + (flagB o).length = (tl 0).length by rw [← Ho.out, List.length_append])
  generalize flagB o = pso at *
  have HSz := Lib.hid (show w.heap.size + 1 ≤ woa.heap.size from heap_lt hO.2)
  have HO := Lib.hid hO
  have HX := Lib.hid hx
  have hln : (hd 4).length + pso.length ≤ 1099511627776 := by omega
  clear hO hx hop hl0 hl1 hl2
  go_upto_region 7 with (at_builtin; refine wpList_puts rfl (.tmp 27) (.tmp 30) _ rfl rfl (.inr ⟨gt, capt, rfl, hg, HX.out⟩) HSz.out _ _ pso rfl rfl HS.out (.inr ⟨gt, capt, rfl, hg, HX.out⟩) hln ?_; rintro go capo wob hgn hon hbn)
  rw [HN.out]
  have hO : One w #[.int .i64 k, .string r, .string u, .string v, .string t, .bool p, .bool o, .int .i64 s, .int .i64 z, .int .i64 c, .int .i64 m] wob := ⟨HO.out.1.trans (hbn.mono (by omega)), (hbn.block _ (by omega)).trans HO.out.2⟩
  have hoo := own_cast hon Ho.out
  clear hg HO HX HS HSz HN hln hon hbn
  have hg := hgn
  clear hgn
  obtain ⟨d0, d1, d2, d3, d4, d5, d6, d7, d8, d9, d10⟩ := cells11 hO.2
  have HO := Lib.hid hO
  have HX := Lib.hid hoo
  clear hO hoo
  go_wp2_with fail
  clear d0 d1 d2 d3 d4 d5 d6 d7 d8 d9 d10
  refine (refNumber_put s _ s0 s1).mono ?_
  rintro e wsa ⟨⟨gp, capp, rfl, hgp, hop⟩, hbp⟩
  have hO := HO.out.later hbp
  have hx := HX.out.below hbp
  clear HO HX hbp hgp
  have hl0 := HT.out 0
  have hl1 := len_digs _ (natI_lt s s1)
  have hl2 := True.intro
  have HS := Lib.hid (Src.ofRow rfl (hop.row (lo := 0) (Nat.zero_le _)))
  have HN := Lib.hid (show (tl 0).length + (digs (natI s)).length = (tl 1).length by rw [← Hs.out, List.length_append])
  generalize digs (natI s) = pss at *
  have HSz := Lib.hid (show w.heap.size + 1 ≤ wsa.heap.size from heap_lt hO.2)
  have HO := Lib.hid hO
  have HX := Lib.hid hx
  have hln : (tl 0).length + pss.length ≤ 1099511627776 := by omega
  clear hO hx hop hl0 hl1 hl2
  go_upto_region 8 with (at_builtin; refine wpList_puts rfl (.tmp 32) (.tmp 35) _ rfl rfl (.inr ⟨go, capo, rfl, hg, HX.out⟩) HSz.out _ _ pss rfl rfl HS.out (.inr ⟨go, capo, rfl, hg, HX.out⟩) hln ?_; rintro gs caps wsb hgn hon hbn)
  rw [HN.out]
  have hO : One w #[.int .i64 k, .string r, .string u, .string v, .string t, .bool p, .bool o, .int .i64 s, .int .i64 z, .int .i64 c, .int .i64 m] wsb := ⟨HO.out.1.trans (hbn.mono (by omega)), (hbn.block _ (by omega)).trans HO.out.2⟩
  have hos := own_cast hon Hs.out
  clear hg HO HX HS HSz HN hln hon hbn
  have hg := hgn
  clear hgn
  obtain ⟨d0, d1, d2, d3, d4, d5, d6, d7, d8, d9, d10⟩ := cells11 hO.2
  have HO := Lib.hid hO
  have HX := Lib.hid hos
  clear hO hos
  go_wp2_with fail
  clear d0 d1 d2 d3 d4 d5 d6 d7 d8 d9 d10
  refine (refNumber_put z _ z0 z1).mono ?_
  rintro e wza ⟨⟨gp, capp, rfl, hgp, hop⟩, hbp⟩
  have hO := HO.out.later hbp
  have hx := HX.out.below hbp
  clear HO HX hbp hgp
  have hl0 := HT.out 1
  have hl1 := len_digs _ (natI_lt z z1)
  have hl2 := True.intro
  have HS := Lib.hid (Src.ofRow rfl (hop.row (lo := 0) (Nat.zero_le _)))
  have HN := Lib.hid (show (tl 1).length + (digs (natI z)).length = (tl 2).length by rw [← Hz.out, List.length_append])
  generalize digs (natI z) = psz at *
  have HSz := Lib.hid (show w.heap.size + 1 ≤ wza.heap.size from heap_lt hO.2)
  have HO := Lib.hid hO
  have HX := Lib.hid hx
  have hln : (tl 1).length + psz.length ≤ 1099511627776 := by omega
  clear hO hx hop hl0 hl1 hl2
  go_upto_region 9 with (at_builtin; refine wpList_puts rfl (.tmp 37) (.tmp 40) _ rfl rfl (.inr ⟨gs, caps, rfl, hg, HX.out⟩) HSz.out _ _ psz rfl rfl HS.out (.inr ⟨gs, caps, rfl, hg, HX.out⟩) hln ?_; rintro gz capz wzb hgn hon hbn)
  rw [HN.out]
  have hO : One w #[.int .i64 k, .string r, .string u, .string v, .string t, .bool p, .bool o, .int .i64 s, .int .i64 z, .int .i64 c, .int .i64 m] wzb := ⟨HO.out.1.trans (hbn.mono (by omega)), (hbn.block _ (by omega)).trans HO.out.2⟩
  have hoz := own_cast hon Hz.out
  clear hg HO HX HS HSz HN hln hon hbn
  have hg := hgn
  clear hgn
  obtain ⟨d0, d1, d2, d3, d4, d5, d6, d7, d8, d9, d10⟩ := cells11 hO.2
  have HO := Lib.hid hO
  have HX := Lib.hid hoz
  clear hO hoz
  go_wp2_with fail
  clear d0 d1 d2 d3 d4 d5 d6 d7 d8 d9 d10
  refine (refNumber_put c _ c0 c1).mono ?_
  rintro e wca ⟨⟨gp, capp, rfl, hgp, hop⟩, hbp⟩
  have hO := HO.out.later hbp
  have hx := HX.out.below hbp
  clear HO HX hbp hgp
  have hl0 := HT.out 2
  have hl1 := len_digs _ (natI_lt c c1)
  have hl2 := True.intro
  have HS := Lib.hid (Src.ofRow rfl (hop.row (lo := 0) (Nat.zero_le _)))
  have HN := Lib.hid (show (tl 2).length + (digs (natI c)).length = (tl 3).length by rw [← Hc.out, List.length_append])
  generalize digs (natI c) = psc at *
  have HSz := Lib.hid (show w.heap.size + 1 ≤ wca.heap.size from heap_lt hO.2)
  have HO := Lib.hid hO
  have HX := Lib.hid hx
  have hln : (tl 2).length + psc.length ≤ 1099511627776 := by omega
  clear hO hx hop hl0 hl1 hl2
  go_upto_region 10 with (at_builtin; refine wpList_puts rfl (.tmp 42) (.tmp 45) _ rfl rfl (.inr ⟨gz, capz, rfl, hg, HX.out⟩) HSz.out _ _ psc rfl rfl HS.out (.inr ⟨gz, capz, rfl, hg, HX.out⟩) hln ?_; rintro gc capc wcb hgn hon hbn)
  rw [HN.out]
  have hO : One w #[.int .i64 k, .string r, .string u, .string v, .string t, .bool p, .bool o, .int .i64 s, .int .i64 z, .int .i64 c, .int .i64 m] wcb := ⟨HO.out.1.trans (hbn.mono (by omega)), (hbn.block _ (by omega)).trans HO.out.2⟩
  have hoc := own_cast hon Hc.out
  clear hg HO HX HS HSz HN hln hon hbn
  have hg := hgn
  clear hgn
  obtain ⟨d0, d1, d2, d3, d4, d5, d6, d7, d8, d9, d10⟩ := cells11 hO.2
  have HO := Lib.hid hO
  have HX := Lib.hid hoc
  clear hO hoc
  go_wp2_with fail
  clear d0 d1 d2 d3 d4 d5 d6 d7 d8 d9 d10
  refine (refNumber_put m _ m0 m1).mono ?_
  rintro e wma ⟨⟨gp, capp, rfl, hgp, hop⟩, hbp⟩
  have hO := HO.out.later hbp
  have hx := HX.out.below hbp
  clear HO HX hbp hgp
  have hl0 := HT.out 3
  have hl1 := len_digs _ (natI_lt m m1)
  have hl2 := True.intro
  have HS := Lib.hid (Src.ofRow rfl (hop.row (lo := 0) (Nat.zero_le _)))
  have HN := Lib.hid (show (tl 3).length + (digs (natI m)).length = (tl 4).length by rw [← Hm.out, List.length_append])
  generalize digs (natI m) = psm at *
  have HSz := Lib.hid (show w.heap.size + 1 ≤ wma.heap.size from heap_lt hO.2)
  have HO := Lib.hid hO
  have HX := Lib.hid hx
  have hln : (tl 3).length + psm.length ≤ 1099511627776 := by omega
  clear hO hx hop hl0 hl1 hl2
  go_wp2_with (at_builtin; refine wpList_puts rfl (.tmp 47) (.tmp 50) _ rfl rfl (.inr ⟨gc, capc, rfl, hg, HX.out⟩) HSz.out _ _ psm rfl rfl HS.out (.inr ⟨gc, capc, rfl, hg, HX.out⟩) hln ?_; rintro gm capm wmb hgn hon hbn)
  rw [HN.out]
  have hO : One w #[.int .i64 k, .string r, .string u, .string v, .string t, .bool p, .bool o, .int .i64 s, .int .i64 z, .int .i64 c, .int .i64 m] wmb := ⟨HO.out.1.trans (hbn.mono (by omega)), (hbn.block _ (by omega)).trans HO.out.2⟩
  have hom := own_cast hon Hm.out
  clear hg HO HX HS HSz HN hln hon hbn
  have hg := hgn
  clear hgn
  go_ret
  rw [HA.out] at hom
  exact ⟨⟨gm, capm, by rw [HA.out]; rfl, by omega, hom⟩, hO.1⟩

/-- Two structs that were handed in. -/
def TwiceR (w : World) (a b : Array Value) (w' : World) : Prop := Below w.heap.size w w' ∧ w'.heap[w.heap.size]? = some (.cells a 50 (0, 0)) ∧ w'.heap[w.heap.size + 1]? = some (.cells b 50 (0, 0))
theorem TwiceR.later {w w' w'' : World} {a b : Array Value} (h : TwiceR w a b w') (hb : Below w'.heap.size w' w'') : TwiceR w a b w'' := by
  obtain ⟨h1, h2, h3⟩ := h
  exact ⟨Go.Proofs.Ytnabbebkmafakaa.later h1 hb, (hb.block _ (heap_lt h2)).trans h2, (hb.block _ (heap_lt h3)).trans h3⟩
theorem less_cmp (a b : List UInt8) : Op.bytesLess a b = decide (Lib.compareBytes a b = -1) := by
  induction a generalizing b with
  | nil => cases b <;> simp [Lib.compareBytes, Op.bytesLess]
  | cons x l ih => cases b with
    | nil => simp [Lib.compareBytes, Op.bytesLess]
    | cons y m =>
      unfold Lib.compareBytes Op.bytesLess
      by_cases h1 : x < y
      · simp [h1]
      · by_cases h2 : y < x
        · have hne : x ≠ y := fun e => UInt8.lt_irrefl _ (e ▸ h2)
          simp [h1, h2, hne]
        · have he : x = y := UInt8.le_antisymm (UInt8.not_lt.1 h2) (UInt8.not_lt.1 h1)
          subst he
          simp [h1, ih]
theorem strOf_bytes (a : List UInt8) : (strOf a).toList = a := by
  rw [ByteArray.toList_eq]
  simp [strOf]

end Go.Proofs.Ytnabbebkmafakaa

namespace Go.Proofs.Ytnabbebkmafakaa
open Go.RowKit
set_option linter.unusedVariables false
set_option linter.unusedSimpArgs false
set_option maxRecDepth 20000

/-- The document's reader, and the EDU that is filled. -/
def RfE (w : World) (g E : Nat) (cs : Array Value) (s : St) (w' : World) : Prop :=
  Below w.heap.size w w' ∧ (∃ X : Array Value, X.size = 11 ∧ w'.heap[w.heap.size]? = some (.cells X 50 (0, 0))) ∧ Rf w' 0 g s ∧ w'.heap[E]? = some (.cells cs 50 (0, 0)) ∧ w.heap.size < g ∧ w.heap.size < E ∧ g ≠ E
theorem RfE.later {w w' w'' : World} {g E : Nat} {cs : Array Value} {s : St} (h : RfE w g E cs s w') (hb : Below w'.heap.size w' w'') : RfE w g E cs s w'' := by
  obtain ⟨h1, ⟨X, hX, h2⟩, h3, h4, h5⟩ := h
  exact ⟨Go.Proofs.Ytnabbebkmafakaa.later h1 hb, ⟨X, hX, (hb.block _ (heap_lt h2)).trans h2⟩, h3.below hb, (hb.block _ (heap_lt h4)).trans h4, h5⟩
theorem RfE.drewN {w w' : World} {g E : Nat} {cs : Array Value} {s : St} (h : RfE w g E cs s w') (n : Nat) : RfE w g E cs s (w'.drewN n) := ⟨below_drewN h.1 n, h.2⟩
theorem RfE.read {w w' w'' : World} {g E : Nat} {cs : Array Value} {s s' : St} (h : RfE w g E cs s w') (hr : Rf w'' 0 g s') (hg : w'.grownBy w'' (some g)) : RfE w g E cs s' w'' := by
  obtain ⟨h1, ⟨X, hX, h2⟩, h3, h4, h5, h6, h7⟩ := h
  exact ⟨below_grown h1 hg (by omega), ⟨X, hX, (hg.block _ (heap_lt h2) (fun e => by injection e with e; omega)).trans h2⟩, hr, (hg.block _ (heap_lt h4) (fun e => h7 (by injection e with e; exact e.symm))).trans h4, h5, h6, h7⟩
theorem RfE.store {w w' : World} {g E i : Nat} {cs : Array Value} {s : St} {u : Value} (h : RfE w g E cs s w') : RfE w g E (cs.setIfInBounds i u) s (w'.setCell ⟨E, i, none⟩ u) := by
  obtain ⟨h1, ⟨X, hX, h2⟩, ⟨v, bs, I, hh, hr, r⟩, h4, h5, h6, h7⟩ := h
  have hg := grown_set w' E i u
  exact ⟨h1.setCell (by simp; omega) _, ⟨X, hX, (hg.block _ (heap_lt h2) (fun e => by injection e with e; omega)).trans h2⟩, ⟨v, bs, I, (hg.block _ (heap_lt hh) (fun e => h7 (by injection e))).trans hh, hr.grown hg (not_bytes h4 (by decide)), r⟩, heap_set h4 i u, h5, h6, h7⟩

set_option maxHeartbeats 3200000 in
theorem refReadE_any (v : Value) (bs : List UInt8) (lo : Nat) (w : World) (h : Row w lo v bs) (hl : bs.length ≤ 1000000) :
    Calls Try.prog 44 #[v] w fun x w' => x = .returned (.tuple #[(answerE 1000 bs).val, .int .i64 (answerN 1000 bs)]) ∧ Below w.heap.size w w' := by
  have HA := Lib.hid (answerE_eq 1000 bs)
  have HN := Lib.hid (answerN_eq 1000 bs)
  have HB := Lib.hid (readB_eq2 1000 bs)
  generalize answerE 1000 bs = ae at *
  generalize answerN 1000 bs = an at *
  have HF := Lib.hid (fun j => show (fT 1000 bs j).size ≤ maxLen from Nat.le_trans (fT_size 1000 bs j) (Nat.le_trans hl (by unfold maxLen; omega)))
  have H0 := Lib.hid (stT_zero 1000 bs)
  have H1 := Lib.hid (stT_succ 1000 bs)
  have H2 := Lib.hid (fT_def 1000 bs)
  have H3 := Lib.hid (stN_zero 1000 bs)
  have H4 := Lib.hid (stN_succ 1000 bs)
  have H5 := Lib.hid (nT_def 1000 bs)
  generalize readB 1000 bs = rb at *
  generalize stT 1000 bs = st at *
  generalize stN 1000 bs = sn at *
  generalize fT 1000 bs = f at *
  generalize nT 1000 bs = n at *
  obtain ⟨A, cc, rfl, _⟩ := h.shape
  have HRow := Lib.hid (h.mono (Nat.zero_le _))
  clear h
  go_enter Try.func44, Try.ntmps44
  go_wp2_with fail
  have hE : RfE w (w.heap.size + 1) (w.heap.size + 1 + 1) #[.int .i64 0, .string ⟨#[]⟩, .string ⟨#[]⟩, .string ⟨#[]⟩, .string ⟨#[]⟩, .bool false, .bool false, .int .i64 0, .int .i64 0, .int .i64 0, .int .i64 0] (bs, 0) (((w.alloc (.cells #[.int .i64 0, .string ⟨#[]⟩, .string ⟨#[]⟩, .string ⟨#[]⟩, .string ⟨#[]⟩, .bool false, .bool false, .int .i64 0, .int .i64 0, .int .i64 0, .int .i64 0] 50)).alloc (.cells #[.slice A bs.length cc, .int .i64 0, .int .i64 0] 68)).alloc (.cells #[.int .i64 0, .string ⟨#[]⟩, .string ⟨#[]⟩, .string ⟨#[]⟩, .string ⟨#[]⟩, .bool false, .bool false, .int .i64 0, .int .i64 0, .int .i64 0, .int .i64 0] 50)) := by
    obtain ⟨e0, e1, e2, hb, _⟩ := at_three (w := w) (.cells #[.int .i64 0, .string ⟨#[]⟩, .string ⟨#[]⟩, .string ⟨#[]⟩, .string ⟨#[]⟩, .bool false, .bool false, .int .i64 0, .int .i64 0, .int .i64 0, .int .i64 0] 50) (.cells #[.slice A bs.length cc, .int .i64 0, .int .i64 0] 68) (.cells #[.int .i64 0, .string ⟨#[]⟩, .string ⟨#[]⟩, .string ⟨#[]⟩, .string ⟨#[]⟩, .bool false, .bool false, .int .i64 0, .int .i64 0, .int .i64 0, .int .i64 0] 50) rfl
    have hr1 := HRow.out.below (below_new w (.cells #[.int .i64 0, .string ⟨#[]⟩, .string ⟨#[]⟩, .string ⟨#[]⟩, .string ⟨#[]⟩, .bool false, .bool false, .int .i64 0, .int .i64 0, .int .i64 0, .int .i64 0] 50))
    have hr2 := Rf.new hr1 hl
    rw [size_alloc1] at hr2
    exact ⟨hb, ⟨_, rfl, e0⟩, hr2.below (below_new _ _), e2, by omega, by omega, by omega⟩
  generalize hW : (((w.alloc (.cells #[.int .i64 0, .string ⟨#[]⟩, .string ⟨#[]⟩, .string ⟨#[]⟩, .string ⟨#[]⟩, .bool false, .bool false, .int .i64 0, .int .i64 0, .int .i64 0, .int .i64 0] 50)).alloc (.cells #[.slice A bs.length cc, .int .i64 0, .int .i64 0] 68)).alloc (.cells #[.int .i64 0, .string ⟨#[]⟩, .string ⟨#[]⟩, .string ⟨#[]⟩, .string ⟨#[]⟩, .bool false, .bool false, .int .i64 0, .int .i64 0, .int .i64 0, .int .i64 0] 50)) = W at *
  have HE := Lib.hid hE
  clear hW hE HRow
  generalize hg0 : w.heap.size + 1 = g at *
  generalize hE0 : g + 1 = E at *
  clear hg0 hE0
  refine (refNumR_any 0 g (bs, 0) _ HE.out.2.2.1).mono ?_
  rintro e wa0 ⟨rfl, hr, hg⟩
  rw [H0.out] at hr
  replace HE := Lib.hid (HE.out.read hr hg)
  clear hr hg
  generalize ((numS (bs, 0)).1 : Int) = k at *
  have hc : wa0.cell? ⟨E, 0, none⟩ = some (.int .i64 0) := cell_at HE.out.2.2.2.1 0
  have hf := free_at HE.out.2.2.2.1 0
  go_upto_region 4 with (fail)
  replace HE := Lib.hid (show RfE w g E #[.int .i64 k, .string ⟨#[]⟩, .string ⟨#[]⟩, .string ⟨#[]⟩, .string ⟨#[]⟩, .bool false, .bool false, .int .i64 0, .int .i64 0, .int .i64 0, .int .i64 0] (st 0) (wa0.setCell ⟨E, 0, none⟩ (.int .i64 k)) from HE.out.store)
  generalize hWs : (wa0.setCell ⟨E, 0, none⟩ (.int .i64 k)) = wb0 at HE ⊢
  clear hWs hc hf
  go_wp2_with fail
  refine (refTextR_any 0 g (st 0) 1000 _ HE.out.2.2.1 (by decide) (by decide)).mono ?_
  rintro e wa1 ⟨rfl, hr, hg⟩
  rw [H1.out] at hr
  rw [H2.out]
  replace HE := Lib.hid (HE.out.read hr hg)
  clear hr hg
  have hc : wa1.cell? ⟨E, 1, none⟩ = some (.string ⟨#[]⟩) := cell_at HE.out.2.2.2.1 1
  have hf := free_at HE.out.2.2.2.1 1
  go_upto_region 5 with (fail)
  replace HE := Lib.hid (show RfE w g E #[.int .i64 k, .string (f 0), .string ⟨#[]⟩, .string ⟨#[]⟩, .string ⟨#[]⟩, .bool false, .bool false, .int .i64 0, .int .i64 0, .int .i64 0, .int .i64 0] (st 1) (wa1.setCell ⟨E, 1, none⟩ (.string (f 0))) from HE.out.store)
  generalize hWs : (wa1.setCell ⟨E, 1, none⟩ (.string (f 0))) = wb1 at HE ⊢
  clear hWs hc hf
  go_wp2_with fail
  refine (refTextR_any 0 g (st 1) 1000 _ HE.out.2.2.1 (by decide) (by decide)).mono ?_
  rintro e wa2 ⟨rfl, hr, hg⟩
  rw [H1.out] at hr
  rw [H2.out]
  replace HE := Lib.hid (HE.out.read hr hg)
  clear hr hg
  have hc : wa2.cell? ⟨E, 2, none⟩ = some (.string ⟨#[]⟩) := cell_at HE.out.2.2.2.1 2
  have hf := free_at HE.out.2.2.2.1 2
  go_upto_region 6 with (fail)
  replace HE := Lib.hid (show RfE w g E #[.int .i64 k, .string (f 0), .string (f 1), .string ⟨#[]⟩, .string ⟨#[]⟩, .bool false, .bool false, .int .i64 0, .int .i64 0, .int .i64 0, .int .i64 0] (st 2) (wa2.setCell ⟨E, 2, none⟩ (.string (f 1))) from HE.out.store)
  generalize hWs : (wa2.setCell ⟨E, 2, none⟩ (.string (f 1))) = wb2 at HE ⊢
  clear hWs hc hf
  go_wp2_with fail
  refine (refTextR_any 0 g (st 2) 1000 _ HE.out.2.2.1 (by decide) (by decide)).mono ?_
  rintro e wa3 ⟨rfl, hr, hg⟩
  rw [H1.out] at hr
  rw [H2.out]
  replace HE := Lib.hid (HE.out.read hr hg)
  clear hr hg
  have hc : wa3.cell? ⟨E, 3, none⟩ = some (.string ⟨#[]⟩) := cell_at HE.out.2.2.2.1 3
  have hf := free_at HE.out.2.2.2.1 3
  go_upto_region 7 with (fail)
  replace HE := Lib.hid (show RfE w g E #[.int .i64 k, .string (f 0), .string (f 1), .string (f 2), .string ⟨#[]⟩, .bool false, .bool false, .int .i64 0, .int .i64 0, .int .i64 0, .int .i64 0] (st 3) (wa3.setCell ⟨E, 3, none⟩ (.string (f 2))) from HE.out.store)
  generalize hWs : (wa3.setCell ⟨E, 3, none⟩ (.string (f 2))) = wb3 at HE ⊢
  clear hWs hc hf
  go_wp2_with fail
  refine (refTextR_any 0 g (st 3) 1000 _ HE.out.2.2.1 (by decide) (by decide)).mono ?_
  rintro e wa4 ⟨rfl, hr, hg⟩
  rw [H1.out] at hr
  rw [H2.out]
  replace HE := Lib.hid (HE.out.read hr hg)
  clear hr hg
  have hc : wa4.cell? ⟨E, 4, none⟩ = some (.string ⟨#[]⟩) := cell_at HE.out.2.2.2.1 4
  have hf := free_at HE.out.2.2.2.1 4
  go_upto_region 8 with (fail)
  replace HE := Lib.hid (show RfE w g E #[.int .i64 k, .string (f 0), .string (f 1), .string (f 2), .string (f 3), .bool false, .bool false, .int .i64 0, .int .i64 0, .int .i64 0, .int .i64 0] (st 4) (wa4.setCell ⟨E, 4, none⟩ (.string (f 3))) from HE.out.store)
  generalize hWs : (wa4.setCell ⟨E, 4, none⟩ (.string (f 3))) = wb4 at HE ⊢
  clear hWs hc hf
  go_wp2_with fail
  refine (refFlagR_any 0 g (st 4) _ HE.out.2.2.1).mono ?_
  rintro e wa5 ⟨rfl, hr, hg⟩
  rw [H3.out] at hr
  replace HE := Lib.hid (HE.out.read hr hg)
  clear hr hg
  generalize (flagS (st 4)).1 = o at *
  have hc : wa5.cell? ⟨E, 6, none⟩ = some (.bool false) := cell_at HE.out.2.2.2.1 6
  have hf := free_at HE.out.2.2.2.1 6
  go_upto_region 9 with (fail)
  replace HE := Lib.hid (show RfE w g E #[.int .i64 k, .string (f 0), .string (f 1), .string (f 2), .string (f 3), .bool false, .bool o, .int .i64 0, .int .i64 0, .int .i64 0, .int .i64 0] (sn 0) (wa5.setCell ⟨E, 6, none⟩ (.bool o)) from HE.out.store)
  generalize hWs : (wa5.setCell ⟨E, 6, none⟩ (.bool o)) = wb5 at HE ⊢
  clear hWs hc hf
  go_wp2_with fail
  refine (refNumR_any 0 g (sn 0) _ HE.out.2.2.1).mono ?_
  rintro e wa6 ⟨rfl, hr, hg⟩
  rw [H4.out] at hr
  rw [H5.out]
  replace HE := Lib.hid (HE.out.read hr hg)
  clear hr hg
  have hc : wa6.cell? ⟨E, 7, none⟩ = some (.int .i64 0) := cell_at HE.out.2.2.2.1 7
  have hf := free_at HE.out.2.2.2.1 7
  go_upto_region 10 with (fail)
  replace HE := Lib.hid (show RfE w g E #[.int .i64 k, .string (f 0), .string (f 1), .string (f 2), .string (f 3), .bool false, .bool o, .int .i64 (n 0), .int .i64 0, .int .i64 0, .int .i64 0] (sn 1) (wa6.setCell ⟨E, 7, none⟩ (.int .i64 (n 0))) from HE.out.store)
  generalize hWs : (wa6.setCell ⟨E, 7, none⟩ (.int .i64 (n 0))) = wb6 at HE ⊢
  clear hWs hc hf
  go_wp2_with fail
  refine (refNumR_any 0 g (sn 1) _ HE.out.2.2.1).mono ?_
  rintro e wa7 ⟨rfl, hr, hg⟩
  rw [H4.out] at hr
  rw [H5.out]
  replace HE := Lib.hid (HE.out.read hr hg)
  clear hr hg
  have hc : wa7.cell? ⟨E, 8, none⟩ = some (.int .i64 0) := cell_at HE.out.2.2.2.1 8
  have hf := free_at HE.out.2.2.2.1 8
  go_upto_region 11 with (fail)
  replace HE := Lib.hid (show RfE w g E #[.int .i64 k, .string (f 0), .string (f 1), .string (f 2), .string (f 3), .bool false, .bool o, .int .i64 (n 0), .int .i64 (n 1), .int .i64 0, .int .i64 0] (sn 2) (wa7.setCell ⟨E, 8, none⟩ (.int .i64 (n 1))) from HE.out.store)
  generalize hWs : (wa7.setCell ⟨E, 8, none⟩ (.int .i64 (n 1))) = wb7 at HE ⊢
  clear hWs hc hf
  go_wp2_with fail
  refine (refNumR_any 0 g (sn 2) _ HE.out.2.2.1).mono ?_
  rintro e wa8 ⟨rfl, hr, hg⟩
  rw [H4.out] at hr
  rw [H5.out]
  replace HE := Lib.hid (HE.out.read hr hg)
  clear hr hg
  have hc : wa8.cell? ⟨E, 9, none⟩ = some (.int .i64 0) := cell_at HE.out.2.2.2.1 9
  have hf := free_at HE.out.2.2.2.1 9
  go_upto_region 12 with (fail)
  replace HE := Lib.hid (show RfE w g E #[.int .i64 k, .string (f 0), .string (f 1), .string (f 2), .string (f 3), .bool false, .bool o, .int .i64 (n 0), .int .i64 (n 1), .int .i64 (n 2), .int .i64 0] (sn 3) (wa8.setCell ⟨E, 9, none⟩ (.int .i64 (n 2))) from HE.out.store)
  generalize hWs : (wa8.setCell ⟨E, 9, none⟩ (.int .i64 (n 2))) = wb8 at HE ⊢
  clear hWs hc hf
  go_wp2_with fail
  refine (refNumR_any 0 g (sn 3) _ HE.out.2.2.1).mono ?_
  rintro e wa9 ⟨rfl, hr, hg⟩
  rw [H4.out] at hr
  rw [H5.out]
  replace HE := Lib.hid (HE.out.read hr hg)
  clear hr hg
  have hc : wa9.cell? ⟨E, 10, none⟩ = some (.int .i64 0) := cell_at HE.out.2.2.2.1 10
  have hf := free_at HE.out.2.2.2.1 10
  go_upto_region 13 with (fail)
  replace HE := Lib.hid (show RfE w g E #[.int .i64 k, .string (f 0), .string (f 1), .string (f 2), .string (f 3), .bool false, .bool o, .int .i64 (n 0), .int .i64 (n 1), .int .i64 (n 2), .int .i64 (n 3)] (sn 4) (wa9.setCell ⟨E, 10, none⟩ (.int .i64 (n 3))) from HE.out.store)
  generalize hWs : (wa9.setCell ⟨E, 10, none⟩ (.int .i64 (n 3))) = wb9 at HE ⊢
  clear hWs hc hf
  obtain ⟨d0, d1, d2, d3, d4, d5, d6, d7, d8, d9, d10⟩ := cells11 HE.out.2.2.2.1
  go_wp2_with fail
  clear d0 d1 d2 d3 d4 d5 d6 d7 d8 d9 d10
  refine (refMay_any ⟨k, f 0, f 1, f 2, f 3, false, o, n 0, n 1, n 2, n 3⟩ _ (HF.out 0) (HF.out 1) (HF.out 2) (HF.out 3)).mono ?_
  rintro e w5 ⟨rfl, hb5⟩
  replace HE := Lib.hid (HE.out.later hb5)
  clear hb5
  replace HB := HB.out
  generalize mayB _ = mb at *
  go_wp2_with fail
  refine (refEnd_any 0 g (sn 4) _ HE.out.2.2.1).mono ?_
  rintro e w6 ⟨rfl, nn, rfl⟩
  replace HE := Lib.hid (HE.out.drewN nn)
  generalize hWd : w5.drewN nn = w6 at HE ⊢
  clear hWd
  generalize endS (sn 4) = ee at *
  obtain ⟨X, hX, hx3⟩ := HE.out.2.1
  replace hx3 := Lib.hid hx3
  by_cases he : ee = 0
  · subst he
    rw [decide_eq_true rfl, Bool.true_and] at HB
    subst HB
    cases rb
    · have Hset := Lib.hid (setRow_heap _ _ _ #[.int .i64 0, .string ⟨#[]⟩, .string ⟨#[]⟩, .string ⟨#[]⟩, .string ⟨#[]⟩, .bool false, .bool false, .int .i64 0, .int .i64 0, .int .i64 0, .int .i64 0] _ _ hx3.out)
      have HBB := Lib.hid (below_setRow HE.out.1 (Nat.le_refl _) #[.int .i64 0, .string ⟨#[]⟩, .string ⟨#[]⟩, .string ⟨#[]⟩, .string ⟨#[]⟩, .bool false, .bool false, .int .i64 0, .int .i64 0, .int .i64 0, .int .i64 0])
      go_wp2_with (refine wpList_store_row rfl 50 (.tmp 2) (.tmp 49) rfl w.heap.size #[.int .i64 0, .string ⟨#[]⟩, .string ⟨#[]⟩, .string ⟨#[]⟩, .string ⟨#[]⟩, .bool false, .bool false, .int .i64 0, .int .i64 0, .int .i64 0, .int .i64 0] rfl rfl 50 X hx3.out edu_info (hX.trans rfl) (one11 _ _ _ _ _ _ _ _ _ _ _) ?_)
      generalize hW2 : World.setRow _ _ _ = W2 at Hset HBB ⊢
      clear hW2
      obtain ⟨f0, f1, f2, f3, f4, f5, f6, f7, f8, f9, f10⟩ := cells11 Hset.out
      go_wp2_with fail
      refine bodyPost_ret (v := .tuple #[.agg #[.int .i64 0, .string ⟨#[]⟩, .string ⟨#[]⟩, .string ⟨#[]⟩, .string ⟨#[]⟩, .bool false, .bool false, .int .i64 0, .int .i64 0, .int .i64 0, .int .i64 0], .int .i64 2]) ?_ rfl ⟨?_, HBB.out⟩
      · simp [results, Try.results44, go_sem, f0, f1, f2, f3, f4, f5, f6, f7, f8, f9, f10]
      · rw [HA.out, HN.out]; rfl
    · have Hset := Lib.hid (setRow_heap _ _ _ #[.int .i64 k, .string (f 0), .string (f 1), .string (f 2), .string (f 3), .bool false, .bool o, .int .i64 (n 0), .int .i64 (n 1), .int .i64 (n 2), .int .i64 (n 3)] _ _ hx3.out)
      have HBB := Lib.hid (below_setRow HE.out.1 (Nat.le_refl _) #[.int .i64 k, .string (f 0), .string (f 1), .string (f 2), .string (f 3), .bool false, .bool o, .int .i64 (n 0), .int .i64 (n 1), .int .i64 (n 2), .int .i64 (n 3)])
      obtain ⟨d0, d1, d2, d3, d4, d5, d6, d7, d8, d9, d10⟩ := cells11 HE.out.2.2.2.1
      go_wp2_with (refine wpList_store_row rfl 50 (.tmp 2) (.tmp 50) rfl w.heap.size #[.int .i64 k, .string (f 0), .string (f 1), .string (f 2), .string (f 3), .bool false, .bool o, .int .i64 (n 0), .int .i64 (n 1), .int .i64 (n 2), .int .i64 (n 3)] rfl rfl 50 X hx3.out edu_info (hX.trans rfl) (one11 _ _ _ _ _ _ _ _ _ _ _) ?_)
      generalize hW2 : World.setRow _ _ _ = W2 at Hset HBB ⊢
      clear hW2
      clear d0 d1 d2 d3 d4 d5 d6 d7 d8 d9 d10
      obtain ⟨f0, f1, f2, f3, f4, f5, f6, f7, f8, f9, f10⟩ := cells11 Hset.out
      go_wp2_with fail
      refine bodyPost_ret (v := .tuple #[.agg #[.int .i64 k, .string (f 0), .string (f 1), .string (f 2), .string (f 3), .bool false, .bool o, .int .i64 (n 0), .int .i64 (n 1), .int .i64 (n 2), .int .i64 (n 3)], .int .i64 0]) ?_ rfl ⟨?_, HBB.out⟩
      · simp [results, Try.results44, go_sem, f0, f1, f2, f3, f4, f5, f6, f7, f8, f9, f10]
      · rw [HA.out, HN.out]; rfl
  · have q : (((ee : Nat) : Int) != 0) = true := by rw [bne_iff_ne]; omega
    rw [decide_eq_false he, Bool.false_and] at HB
    subst HB
    have Hset := Lib.hid (setRow_heap _ _ _ #[.int .i64 0, .string ⟨#[]⟩, .string ⟨#[]⟩, .string ⟨#[]⟩, .string ⟨#[]⟩, .bool false, .bool false, .int .i64 0, .int .i64 0, .int .i64 0, .int .i64 0] _ _ hx3.out)
    have HBB := Lib.hid (below_setRow HE.out.1 (Nat.le_refl _) #[.int .i64 0, .string ⟨#[]⟩, .string ⟨#[]⟩, .string ⟨#[]⟩, .string ⟨#[]⟩, .bool false, .bool false, .int .i64 0, .int .i64 0, .int .i64 0, .int .i64 0])
    go_wp2_with (refine wpList_store_row rfl 50 (.tmp 2) (.tmp 49) rfl w.heap.size #[.int .i64 0, .string ⟨#[]⟩, .string ⟨#[]⟩, .string ⟨#[]⟩, .string ⟨#[]⟩, .bool false, .bool false, .int .i64 0, .int .i64 0, .int .i64 0, .int .i64 0] rfl rfl 50 X hx3.out edu_info (hX.trans rfl) (one11 _ _ _ _ _ _ _ _ _ _ _) ?_)
    generalize hW2 : World.setRow _ _ _ = W2 at Hset HBB ⊢
    clear hW2
    obtain ⟨f0, f1, f2, f3, f4, f5, f6, f7, f8, f9, f10⟩ := cells11 Hset.out
    go_wp2_with fail
    refine bodyPost_ret (v := .tuple #[.agg #[.int .i64 0, .string ⟨#[]⟩, .string ⟨#[]⟩, .string ⟨#[]⟩, .string ⟨#[]⟩, .bool false, .bool false, .int .i64 0, .int .i64 0, .int .i64 0, .int .i64 0], .int .i64 2]) ?_ rfl ⟨?_, HBB.out⟩
    · simp [results, Try.results44, go_sem, f0, f1, f2, f3, f4, f5, f6, f7, f8, f9, f10]
    · rw [HA.out, HN.out]; rfl
end Go.Proofs.Ytnabbebkmafakaa

namespace Go.Proofs.Ytnabbebkmafakaa
open Go.RowKit
set_option linter.unusedVariables false
set_option linter.unusedSimpArgs false
set_option maxRecDepth 20000

/-- What was there, blocks of its own, and rows of bytes: they lie there still. -/
def Keep (w : World) (l : List (Nat × Array Value × TypeId)) (rs : List (Value × List UInt8)) (w' : World) : Prop :=
  Below w.heap.size w w' ∧ (∀ p ∈ l, w'.heap[p.1]? = some (.cells p.2.1 p.2.2 (0, 0))) ∧ ∀ p ∈ rs, Row w' 0 p.1 p.2
section
variable {w w' w'' : World} {l : List (Nat × Array Value × TypeId)} {rs : List (Value × List UInt8)}
theorem Keep.later (h : Keep w l rs w') (hb : Below w'.heap.size w' w'') : Keep w l rs w'' :=
  ⟨Go.Proofs.Ytnabbebkmafakaa.later h.1 hb, fun p hp => (hb.block _ (heap_lt (h.2.1 p hp))).trans (h.2.1 p hp), fun p hp => (h.2.2 p hp).below hb⟩
theorem Keep.drew (h : Keep w l rs w') : Keep w l rs w'.drew := ⟨h.1.drew, h.2⟩
theorem Keep.st (h : Keep w l rs w') (i : Nat) {p : Nat × Array Value × TypeId} (hp : l[i]? = some p) : w'.heap[p.1]? = some (.cells p.2.1 p.2.2 (0, 0)) := h.2.1 p (List.mem_of_getElem? hp)
theorem Keep.row (h : Keep w l rs w') (i : Nat) {p : Value × List UInt8} (hp : rs[i]? = some p) : Row w' 0 p.1 p.2 := h.2.2 p (List.mem_of_getElem? hp)
theorem Keep.cons (h : Keep w l rs w') {g : Nat} {cs : Array Value} {t : TypeId} (hn : w'.heap[g]? = some (.cells cs t (0, 0))) : Keep w ((g, cs, t) :: l) rs w' :=
  ⟨h.1, fun p hp => by
    rcases List.mem_cons.1 hp with rfl | hp
    · exact hn
    · exact h.2.1 p hp, h.2.2⟩
theorem Keep.consR (h : Keep w l rs w') {v : Value} {bs : List UInt8} (hn : Row w' 0 v bs) : Keep w l ((v, bs) :: rs) w' :=
  ⟨h.1, h.2.1, fun p hp => by
    rcases List.mem_cons.1 hp with rfl | hp
    · exact hn
    · exact h.2.2 p hp⟩
theorem Keep.new (h : Keep w l rs w') (cs : Array Value) (t : TypeId) : Keep w ((w'.heap.size, cs, t) :: l) rs (w'.alloc (.cells cs t)) := (h.later (below_new w' _)).cons (heap_alloc_new w' _)
end
theorem Keep.refl (w : World) : Keep w [] [] w := ⟨Below.refl _ _, fun _ h => (List.not_mem_nil h).elim, fun _ h => (List.not_mem_nil h).elim⟩

/-- What is known of one that may be local. -/
theorem local_fits {e : Edu} (h : localB e = true) : e.fits := by
  obtain ⟨_, _, _, _, h5, h6, h7, h8, h9⟩ := may_small h
  unfold Edu.fits
  omega
theorem local_short {e : Edu} (h : localB e = true) : e.short := by
  obtain ⟨h1, h2, h3, h4, _⟩ := may_small h
  unfold Edu.short
  omega
theorem may_local {e : Edu} (h : mayB e = true) : localB e = true := by
  unfold mayB at h
  rw [Bool.and_eq_true] at h
  exact h.1
theorem answer_bytes {e : Edu} {m : Int} (h : mayB e = true) (hm : 34 ≤ m) : answerE m (bytesB e) = e ∧ answerN m (bytesB e) = 0 := by
  unfold answerE answerN
  rw [read_ok h hm, read_bytes h hm]
  exact ⟨rfl, rfl⟩
theorem answer_same (bs : List UInt8) : answerE 34 bs = answerE 1000 bs ∧ answerN 34 bs = answerN 1000 bs := by
  unfold answerE answerN
  have hb := readB_same (m := 1000) (m' := 34) (by decide) (by decide) bs
  cases h : readB 1000 bs
  · rw [hb, h]
    simp only [cond_false, and_self]
  · rw [hb, h, read_same (m := 1000) (m' := 34) (by decide) h]
    simp only [and_self]

def exE : Edu := ⟨2, ⟨#[33, 114, 58, 115]⟩, ⟨#[64, 97, 58, 115]⟩, ⟨#[]⟩, ⟨#[]⟩, false, true, 5, 0, 0, 1⟩
theorem ex_may : mayB exE = true := by decide +kernel
theorem ex_bytes : bytesB exE = [2, 4, 33, 114, 58, 115, 4, 64, 97, 58, 115, 0, 0, 1, 5, 0, 0, 1] := by decide +kernel
end Go.Proofs.Ytnabbebkmafakaa
