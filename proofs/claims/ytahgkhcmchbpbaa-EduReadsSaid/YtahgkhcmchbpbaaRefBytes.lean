/-
  An EDU's bytes, and which one of two is later: the document's.
-/
import Derived.Test.YtahgkhcmchbpbaaLaid
import Derived.Test.YtahgkhcmchbpbaaRefText
namespace Go.Proofs.Ytahgkhcmchbpbaa
open Go.RowKit
set_option linter.unusedVariables false
set_option linter.unusedSimpArgs false
set_option maxRecDepth 4000

set_option maxHeartbeats 3200000 in
theorem refBytes_any (e : Edu) (w : World) (hf : e.fits) (hs : e.short) : Calls Try.prog 17 #[e.val] w (PutPost w (bytesB e)) := by
  have HH := Lib.hid (head_len hf hs)
  have HT := Lib.hid (tail_len hf hs)
  have HA := Lib.hid (tail_all e)
  obtain ⟨⟨k0, k1⟩, ⟨s0, s1⟩, ⟨z0, z1⟩, ⟨c0, c1⟩, ⟨m0, m1⟩⟩ := hf
  obtain ⟨x1, x2, x3, x4⟩ := hs
  have H0 := Lib.hid (show headB e 0 = digs (natI e.kind) from rfl)
  have Hr := Lib.hid (show headB e 0 ++ textB e.room = headB e 1 from rfl)
  have Hu := Lib.hid (show headB e 1 ++ textB e.user = headB e 2 from rfl)
  have Hv := Lib.hid (show headB e 2 ++ textB e.event = headB e 3 from rfl)
  have Ht := Lib.hid (show headB e 3 ++ textB e.thread = headB e 4 from rfl)
  have Ho := Lib.hid (show headB e 4 ++ flagB e.on = tailB e 0 from rfl)
  have Hs := Lib.hid (show tailB e 0 ++ digs (natI e.span) = tailB e 1 from rfl)
  have Hz := Lib.hid (show tailB e 1 ++ digs (natI e.state) = tailB e 2 from rfl)
  have Hc := Lib.hid (show tailB e 2 ++ digs (natI e.tick) = tailB e 3 from rfl)
  have Hm := Lib.hid (show tailB e 3 ++ digs (natI e.stamp) = tailB e 4 from rfl)
  generalize headB e = hd at *
  generalize tailB e = tl at *
  generalize bytesB e = bb at *
  obtain ⟨k, r, u, v, t, p, o, s, z, c, m⟩ := e
  simp only [Edu.val] at *
  go_enter Try.func17, Try.ntmps17
  go_wp2_with fail
  have hO := one_new w #[.int .i64 k, .string r, .string u, .string v, .string t, .bool p, .bool o, .int .i64 s, .int .i64 z, .int .i64 c, .int .i64 m]
  have hWs := size_alloc1 w (.cells #[.int .i64 k, .string r, .string u, .string v, .string t, .bool p, .bool o, .int .i64 s, .int .i64 z, .int .i64 c, .int .i64 m] 23)
  generalize hW : (w.alloc (.cells #[.int .i64 k, .string r, .string u, .string v, .string t, .bool p, .bool o, .int .i64 s, .int .i64 z, .int .i64 c, .int .i64 m] 23)) = W at hO hWs ⊢
  clear hW
  refine (refNumber_put k _ k0 k1).mono ?_
  rintro e w1 ⟨⟨g1, cap1, rfl, hg1, ho1⟩, hb1⟩
  rw [← H0.out] at ho1 ⊢
  replace hO := hO.later hb1
  have hg : w.heap.size + 1 ≤ g1 := by omega
  clear hb1 hg1 hWs W H0
  obtain ⟨d0, d1, d2, d3, d4, d5, d6, d7, d8, d9, d10⟩ := cells11 hO.2
  have HO := Lib.hid hO
  have HX := Lib.hid ho1
  clear hO ho1
  go_wp2_with fail
  clear d0 d1 d2 d3 d4 d5 d6 d7 d8 d9 d10
  refine (refText_put r _ (by omega)).mono ?_
  rintro e wra ⟨⟨gp, capp, rfl, hgp, hop⟩, hbp⟩
  have hO := HO.out.later hbp
  have hx := HX.out.below hbp
  clear HO HX hbp hgp
  have hl0 := HH.out 0
  have hl1 := textB_len r
  have hl2 := len_digs r.size (Nat.lt_of_le_of_lt x1 (by decide))
  have HS := Lib.hid (Src.ofRow rfl (hop.row (lo := 0) (Nat.zero_le _)))
  have HN := Lib.hid (show (hd 0).length + (textB r).length = (hd 1).length by rw [← Hr.out, List.length_append])
  generalize textB r = psr at *
  have HSz := Lib.hid (show w.heap.size + 1 ≤ wra.heap.size from heap_lt hO.2)
  have HO := Lib.hid hO
  have HX := Lib.hid hx
  have hln : (hd 0).length + psr.length ≤ 1099511627776 := by omega
  clear hO hx hop hl0 hl1 hl2
  go_upto_region 3 with (at_builtin; refine wpList_puts rfl (.tmp 7) (.tmp 10) _ rfl rfl (.inr ⟨g1, cap1, rfl, hg, HX.out⟩) HSz.out _ _ psr rfl rfl HS.out (.inr ⟨g1, cap1, rfl, hg, HX.out⟩) hln ?_; rintro gr capr wrb hgn hon hbn)
  rw [HN.out]
  have hO : One w #[.int .i64 k, .string r, .string u, .string v, .string t, .bool p, .bool o, .int .i64 s, .int .i64 z, .int .i64 c, .int .i64 m] wrb := ⟨HO.out.1.trans (hbn.mono (by omega)), (hbn.block _ (by omega)).trans HO.out.2⟩
  have hor := own_cast hon Hr.out
  clear hg HO HX HS HSz HN hln hon hbn
  have hg := hgn
  clear hgn
  obtain ⟨d0, d1, d2, d3, d4, d5, d6, d7, d8, d9, d10⟩ := cells11 hO.2
  have HO := Lib.hid hO
  have HX := Lib.hid hor
  clear hO hor
  go_wp2_with fail
  clear d0 d1 d2 d3 d4 d5 d6 d7 d8 d9 d10
  refine (refText_put u _ (by omega)).mono ?_
  rintro e wua ⟨⟨gp, capp, rfl, hgp, hop⟩, hbp⟩
  have hO := HO.out.later hbp
  have hx := HX.out.below hbp
  clear HO HX hbp hgp
  have hl0 := HH.out 1
  have hl1 := textB_len u
  have hl2 := len_digs u.size (Nat.lt_of_le_of_lt x2 (by decide))
  have HS := Lib.hid (Src.ofRow rfl (hop.row (lo := 0) (Nat.zero_le _)))
  have HN := Lib.hid (show (hd 1).length + (textB u).length = (hd 2).length by rw [← Hu.out, List.length_append])
  generalize textB u = psu at *
  have HSz := Lib.hid (show w.heap.size + 1 ≤ wua.heap.size from heap_lt hO.2)
  have HO := Lib.hid hO
  have HX := Lib.hid hx
  have hln : (hd 1).length + psu.length ≤ 1099511627776 := by omega
  clear hO hx hop hl0 hl1 hl2
  go_upto_region 4 with (at_builtin; refine wpList_puts rfl (.tmp 12) (.tmp 15) _ rfl rfl (.inr ⟨gr, capr, rfl, hg, HX.out⟩) HSz.out _ _ psu rfl rfl HS.out (.inr ⟨gr, capr, rfl, hg, HX.out⟩) hln ?_; rintro gu capu wub hgn hon hbn)
  rw [HN.out]
  have hO : One w #[.int .i64 k, .string r, .string u, .string v, .string t, .bool p, .bool o, .int .i64 s, .int .i64 z, .int .i64 c, .int .i64 m] wub := ⟨HO.out.1.trans (hbn.mono (by omega)), (hbn.block _ (by omega)).trans HO.out.2⟩
  have hou := own_cast hon Hu.out
  clear hg HO HX HS HSz HN hln hon hbn
  have hg := hgn
  clear hgn
  obtain ⟨d0, d1, d2, d3, d4, d5, d6, d7, d8, d9, d10⟩ := cells11 hO.2
  have HO := Lib.hid hO
  have HX := Lib.hid hou
  clear hO hou
  go_wp2_with fail
  clear d0 d1 d2 d3 d4 d5 d6 d7 d8 d9 d10
  refine (refText_put v _ (by omega)).mono ?_
  rintro e wva ⟨⟨gp, capp, rfl, hgp, hop⟩, hbp⟩
  have hO := HO.out.later hbp
  have hx := HX.out.below hbp
  clear HO HX hbp hgp
  have hl0 := HH.out 2
  have hl1 := textB_len v
  have hl2 := len_digs v.size (Nat.lt_of_le_of_lt x3 (by decide))
  have HS := Lib.hid (Src.ofRow rfl (hop.row (lo := 0) (Nat.zero_le _)))
  have HN := Lib.hid (show (hd 2).length + (textB v).length = (hd 3).length by rw [← Hv.out, List.length_append])
  generalize textB v = psv at *
  have HSz := Lib.hid (show w.heap.size + 1 ≤ wva.heap.size from heap_lt hO.2)
  have HO := Lib.hid hO
  have HX := Lib.hid hx
  have hln : (hd 2).length + psv.length ≤ 1099511627776 := by omega
  clear hO hx hop hl0 hl1 hl2
  go_upto_region 5 with (at_builtin; refine wpList_puts rfl (.tmp 17) (.tmp 20) _ rfl rfl (.inr ⟨gu, capu, rfl, hg, HX.out⟩) HSz.out _ _ psv rfl rfl HS.out (.inr ⟨gu, capu, rfl, hg, HX.out⟩) hln ?_; rintro gv capv wvb hgn hon hbn)
  rw [HN.out]
  have hO : One w #[.int .i64 k, .string r, .string u, .string v, .string t, .bool p, .bool o, .int .i64 s, .int .i64 z, .int .i64 c, .int .i64 m] wvb := ⟨HO.out.1.trans (hbn.mono (by omega)), (hbn.block _ (by omega)).trans HO.out.2⟩
  have hov := own_cast hon Hv.out
  clear hg HO HX HS HSz HN hln hon hbn
  have hg := hgn
  clear hgn
  obtain ⟨d0, d1, d2, d3, d4, d5, d6, d7, d8, d9, d10⟩ := cells11 hO.2
  have HO := Lib.hid hO
  have HX := Lib.hid hov
  clear hO hov
  go_wp2_with fail
  clear d0 d1 d2 d3 d4 d5 d6 d7 d8 d9 d10
  refine (refText_put t _ (by omega)).mono ?_
  rintro e wta ⟨⟨gp, capp, rfl, hgp, hop⟩, hbp⟩
  have hO := HO.out.later hbp
  have hx := HX.out.below hbp
  clear HO HX hbp hgp
  have hl0 := HH.out 3
  have hl1 := textB_len t
  have hl2 := len_digs t.size (Nat.lt_of_le_of_lt x4 (by decide))
  have HS := Lib.hid (Src.ofRow rfl (hop.row (lo := 0) (Nat.zero_le _)))
  have HN := Lib.hid (show (hd 3).length + (textB t).length = (hd 4).length by rw [← Ht.out, List.length_append])
  generalize textB t = pst at *
  have HSz := Lib.hid (show w.heap.size + 1 ≤ wta.heap.size from heap_lt hO.2)
  have HO := Lib.hid hO
  have HX := Lib.hid hx
  have hln : (hd 3).length + pst.length ≤ 1099511627776 := by omega
  clear hO hx hop hl0 hl1 hl2
  go_upto_region 6 with (at_builtin; refine wpList_puts rfl (.tmp 22) (.tmp 25) _ rfl rfl (.inr ⟨gv, capv, rfl, hg, HX.out⟩) HSz.out _ _ pst rfl rfl HS.out (.inr ⟨gv, capv, rfl, hg, HX.out⟩) hln ?_; rintro gt capt wtb hgn hon hbn)
  rw [HN.out]
  have hO : One w #[.int .i64 k, .string r, .string u, .string v, .string t, .bool p, .bool o, .int .i64 s, .int .i64 z, .int .i64 c, .int .i64 m] wtb := ⟨HO.out.1.trans (hbn.mono (by omega)), (hbn.block _ (by omega)).trans HO.out.2⟩
  have hot := own_cast hon Ht.out
  clear hg HO HX HS HSz HN hln hon hbn
  have hg := hgn
  clear hgn
  obtain ⟨d0, d1, d2, d3, d4, d5, d6, d7, d8, d9, d10⟩ := cells11 hO.2
  have HO := Lib.hid hO
  have HX := Lib.hid hot
  clear hO hot
  go_wp2_with fail
  clear d0 d1 d2 d3 d4 d5 d6 d7 d8 d9 d10
  refine (refFlag_put o _).mono ?_
  rintro e woa ⟨⟨gp, capp, rfl, hgp, hop⟩, hbp⟩
  have hO := HO.out.later hbp
  have hx := HX.out.below hbp
  clear HO HX hbp hgp
  have hl0 := HH.out 4
  have hl1 := (show (flagB o).length = 1 from rfl)
  have hl2 := True.intro
  have HS := Lib.hid (Src.ofRow rfl (hop.row (lo := 0) (Nat.zero_le _)))
  have HN := Lib.hid (show (hd 4).length + (flagB o).length = (tl 0).length by rw [← Ho.out, List.length_append])
  generalize flagB o = pso at *
  have HSz := Lib.hid (show w.heap.size + 1 ≤ woa.heap.size from heap_lt hO.2)
  have HO := Lib.hid hO
  have HX := Lib.hid hx
  have hln : (hd 4).length + pso.length ≤ 1099511627776 := by omega
  clear hO hx hop hl0 hl1 hl2
  go_upto_region 7 with (at_builtin; refine wpList_puts rfl (.tmp 27) (.tmp 30) _ rfl rfl (.inr ⟨gt, capt, rfl, hg, HX.out⟩) HSz.out _ _ pso rfl rfl HS.out (.inr ⟨gt, capt, rfl, hg, HX.out⟩) hln ?_; rintro go capo wob hgn hon hbn)
  rw [HN.out]
  have hO : One w #[.int .i64 k, .string r, .string u, .string v, .string t, .bool p, .bool o, .int .i64 s, .int .i64 z, .int .i64 c, .int .i64 m] wob := ⟨HO.out.1.trans (hbn.mono (by omega)), (hbn.block _ (by omega)).trans HO.out.2⟩
  have hoo := own_cast hon Ho.out
  clear hg HO HX HS HSz HN hln hon hbn
  have hg := hgn
  clear hgn
  obtain ⟨d0, d1, d2, d3, d4, d5, d6, d7, d8, d9, d10⟩ := cells11 hO.2
  have HO := Lib.hid hO
  have HX := Lib.hid hoo
  clear hO hoo
  go_wp2_with fail
  clear d0 d1 d2 d3 d4 d5 d6 d7 d8 d9 d10
  refine (refNumber_put s _ s0 s1).mono ?_
  rintro e wsa ⟨⟨gp, capp, rfl, hgp, hop⟩, hbp⟩
  have hO := HO.out.later hbp
  have hx := HX.out.below hbp
  clear HO HX hbp hgp
  have hl0 := HT.out 0
  have hl1 := len_digs _ (natI_lt s s1)
  have hl2 := True.intro
  have HS := Lib.hid (Src.ofRow rfl (hop.row (lo := 0) (Nat.zero_le _)))
  have HN := Lib.hid (show (tl 0).length + (digs (natI s)).length = (tl 1).length by rw [← Hs.out, List.length_append])
  generalize digs (natI s) = pss at *
  have HSz := Lib.hid (show w.heap.size + 1 ≤ wsa.heap.size from heap_lt hO.2)
  have HO := Lib.hid hO
  have HX := Lib.hid hx
  have hln : (tl 0).length + pss.length ≤ 1099511627776 := by omega
  clear hO hx hop hl0 hl1 hl2
  go_upto_region 8 with (at_builtin; refine wpList_puts rfl (.tmp 32) (.tmp 35) _ rfl rfl (.inr ⟨go, capo, rfl, hg, HX.out⟩) HSz.out _ _ pss rfl rfl HS.out (.inr ⟨go, capo, rfl, hg, HX.out⟩) hln ?_; rintro gs caps wsb hgn hon hbn)
  rw [HN.out]
  have hO : One w #[.int .i64 k, .string r, .string u, .string v, .string t, .bool p, .bool o, .int .i64 s, .int .i64 z, .int .i64 c, .int .i64 m] wsb := ⟨HO.out.1.trans (hbn.mono (by omega)), (hbn.block _ (by omega)).trans HO.out.2⟩
  have hos := own_cast hon Hs.out
  clear hg HO HX HS HSz HN hln hon hbn
  have hg := hgn
  clear hgn
  obtain ⟨d0, d1, d2, d3, d4, d5, d6, d7, d8, d9, d10⟩ := cells11 hO.2
  have HO := Lib.hid hO
  have HX := Lib.hid hos
  clear hO hos
  go_wp2_with fail
  clear d0 d1 d2 d3 d4 d5 d6 d7 d8 d9 d10
  refine (refNumber_put z _ z0 z1).mono ?_
  rintro e wza ⟨⟨gp, capp, rfl, hgp, hop⟩, hbp⟩
  have hO := HO.out.later hbp
  have hx := HX.out.below hbp
  clear HO HX hbp hgp
  have hl0 := HT.out 1
  have hl1 := len_digs _ (natI_lt z z1)
  have hl2 := True.intro
  have HS := Lib.hid (Src.ofRow rfl (hop.row (lo := 0) (Nat.zero_le _)))
  have HN := Lib.hid (show (tl 1).length + (digs (natI z)).length = (tl 2).length by rw [← Hz.out, List.length_append])
  generalize digs (natI z) = psz at *
  have HSz := Lib.hid (show w.heap.size + 1 ≤ wza.heap.size from heap_lt hO.2)
  have HO := Lib.hid hO
  have HX := Lib.hid hx
  have hln : (tl 1).length + psz.length ≤ 1099511627776 := by omega
  clear hO hx hop hl0 hl1 hl2
  go_upto_region 9 with (at_builtin; refine wpList_puts rfl (.tmp 37) (.tmp 40) _ rfl rfl (.inr ⟨gs, caps, rfl, hg, HX.out⟩) HSz.out _ _ psz rfl rfl HS.out (.inr ⟨gs, caps, rfl, hg, HX.out⟩) hln ?_; rintro gz capz wzb hgn hon hbn)
  rw [HN.out]
  have hO : One w #[.int .i64 k, .string r, .string u, .string v, .string t, .bool p, .bool o, .int .i64 s, .int .i64 z, .int .i64 c, .int .i64 m] wzb := ⟨HO.out.1.trans (hbn.mono (by omega)), (hbn.block _ (by omega)).trans HO.out.2⟩
  have hoz := own_cast hon Hz.out
  clear hg HO HX HS HSz HN hln hon hbn
  have hg := hgn
  clear hgn
  obtain ⟨d0, d1, d2, d3, d4, d5, d6, d7, d8, d9, d10⟩ := cells11 hO.2
  have HO := Lib.hid hO
  have HX := Lib.hid hoz
  clear hO hoz
  go_wp2_with fail
  clear d0 d1 d2 d3 d4 d5 d6 d7 d8 d9 d10
  refine (refNumber_put c _ c0 c1).mono ?_
  rintro e wca ⟨⟨gp, capp, rfl, hgp, hop⟩, hbp⟩
  have hO := HO.out.later hbp
  have hx := HX.out.below hbp
  clear HO HX hbp hgp
  have hl0 := HT.out 2
  have hl1 := len_digs _ (natI_lt c c1)
  have hl2 := True.intro
  have HS := Lib.hid (Src.ofRow rfl (hop.row (lo := 0) (Nat.zero_le _)))
  have HN := Lib.hid (show (tl 2).length + (digs (natI c)).length = (tl 3).length by rw [← Hc.out, List.length_append])
  generalize digs (natI c) = psc at *
  have HSz := Lib.hid (show w.heap.size + 1 ≤ wca.heap.size from heap_lt hO.2)
  have HO := Lib.hid hO
  have HX := Lib.hid hx
  have hln : (tl 2).length + psc.length ≤ 1099511627776 := by omega
  clear hO hx hop hl0 hl1 hl2
  go_upto_region 10 with (at_builtin; refine wpList_puts rfl (.tmp 42) (.tmp 45) _ rfl rfl (.inr ⟨gz, capz, rfl, hg, HX.out⟩) HSz.out _ _ psc rfl rfl HS.out (.inr ⟨gz, capz, rfl, hg, HX.out⟩) hln ?_; rintro gc capc wcb hgn hon hbn)
  rw [HN.out]
  have hO : One w #[.int .i64 k, .string r, .string u, .string v, .string t, .bool p, .bool o, .int .i64 s, .int .i64 z, .int .i64 c, .int .i64 m] wcb := ⟨HO.out.1.trans (hbn.mono (by omega)), (hbn.block _ (by omega)).trans HO.out.2⟩
  have hoc := own_cast hon Hc.out
  clear hg HO HX HS HSz HN hln hon hbn
  have hg := hgn
  clear hgn
  obtain ⟨d0, d1, d2, d3, d4, d5, d6, d7, d8, d9, d10⟩ := cells11 hO.2
  have HO := Lib.hid hO
  have HX := Lib.hid hoc
  clear hO hoc
  go_wp2_with fail
  clear d0 d1 d2 d3 d4 d5 d6 d7 d8 d9 d10
  refine (refNumber_put m _ m0 m1).mono ?_
  rintro e wma ⟨⟨gp, capp, rfl, hgp, hop⟩, hbp⟩
  have hO := HO.out.later hbp
  have hx := HX.out.below hbp
  clear HO HX hbp hgp
  have hl0 := HT.out 3
  have hl1 := len_digs _ (natI_lt m m1)
  have hl2 := True.intro
  have HS := Lib.hid (Src.ofRow rfl (hop.row (lo := 0) (Nat.zero_le _)))
  have HN := Lib.hid (show (tl 3).length + (digs (natI m)).length = (tl 4).length by rw [← Hm.out, List.length_append])
  generalize digs (natI m) = psm at *
  have HSz := Lib.hid (show w.heap.size + 1 ≤ wma.heap.size from heap_lt hO.2)
  have HO := Lib.hid hO
  have HX := Lib.hid hx
  have hln : (tl 3).length + psm.length ≤ 1099511627776 := by omega
  clear hO hx hop hl0 hl1 hl2
  go_wp2_with (at_builtin; refine wpList_puts rfl (.tmp 47) (.tmp 50) _ rfl rfl (.inr ⟨gc, capc, rfl, hg, HX.out⟩) HSz.out _ _ psm rfl rfl HS.out (.inr ⟨gc, capc, rfl, hg, HX.out⟩) hln ?_; rintro gm capm wmb hgn hon hbn)
  rw [HN.out]
  have hO : One w #[.int .i64 k, .string r, .string u, .string v, .string t, .bool p, .bool o, .int .i64 s, .int .i64 z, .int .i64 c, .int .i64 m] wmb := ⟨HO.out.1.trans (hbn.mono (by omega)), (hbn.block _ (by omega)).trans HO.out.2⟩
  have hom := own_cast hon Hm.out
  clear hg HO HX HS HSz HN hln hon hbn
  have hg := hgn
  clear hgn
  go_ret
  rw [HA.out] at hom
  exact ⟨⟨gm, capm, by rw [HA.out]; rfl, by omega, hom⟩, hO.1⟩

/-- Two structs that were handed in. -/
def TwiceR (w : World) (a b : Array Value) (w' : World) : Prop := Below w.heap.size w w' ∧ w'.heap[w.heap.size]? = some (.cells a 23 (0, 0)) ∧ w'.heap[w.heap.size + 1]? = some (.cells b 23 (0, 0))
theorem TwiceR.later {w w' w'' : World} {a b : Array Value} (h : TwiceR w a b w') (hb : Below w'.heap.size w' w'') : TwiceR w a b w'' := by
  obtain ⟨h1, h2, h3⟩ := h
  exact ⟨Go.Proofs.Ytahgkhcmchbpbaa.later h1 hb, (hb.block _ (heap_lt h2)).trans h2, (hb.block _ (heap_lt h3)).trans h3⟩
theorem less_cmp (a b : List UInt8) : Op.bytesLess a b = decide (Lib.compareBytes a b = -1) := by
  induction a generalizing b with
  | nil => cases b <;> simp [Lib.compareBytes, Op.bytesLess]
  | cons x l ih => cases b with
    | nil => simp [Lib.compareBytes, Op.bytesLess]
    | cons y m =>
      unfold Lib.compareBytes Op.bytesLess
      by_cases h1 : x < y
      · simp [h1]
      · by_cases h2 : y < x
        · have hne : x ≠ y := fun e => UInt8.lt_irrefl _ (e ▸ h2)
          simp [h1, h2, hne]
        · have he : x = y := UInt8.le_antisymm (UInt8.not_lt.1 h2) (UInt8.not_lt.1 h1)
          subst he
          simp [h1, ih]
theorem strOf_bytes (a : List UInt8) : (strOf a).toList = a := by
  rw [ByteArray.toList_eq]
  simp [strOf]

set_option maxHeartbeats 3200000 in
theorem refCompare_any (a b : Edu) (w : World) (ha : a.fits) (hb : b.fits) (sa : a.short) (sb : b.short) :
    Calls Try.prog 25 #[a.val, b.val] w fun e w' => e = .returned (.int .i64 (cmpE a b)) ∧ Below w.heap.size w w' := by
  have hA := Lib.hid (fun w => refBytes_any a w ha sa)
  have hB := Lib.hid (fun w => refBytes_any b w hb sb)
  have HC := Lib.hid (show cmpE a b = if a.stamp < b.stamp then -1 else if b.stamp < a.stamp then 1 else Lib.compareBytes (bytesB a) (bytesB b) from rfl)
  clear ha hb sa sb
  generalize cmpE a b = ce at *
  generalize bytesB a = ba at *
  generalize bytesB b = bb at *
  obtain ⟨k, r, u, v, t, p, o, s, z, c, m⟩ := a
  obtain ⟨k', r', u', v', t', p', o', s', z', c', m'⟩ := b
  simp only [Edu.val] at hA hB HC ⊢
  obtain ⟨e0, e1, hb, _⟩ := at_two (w := w) (.cells #[.int .i64 k, .string r, .string u, .string v, .string t, .bool p, .bool o, .int .i64 s, .int .i64 z, .int .i64 c, .int .i64 m] 23) (.cells #[.int .i64 k', .string r', .string u', .string v', .string t', .bool p', .bool o', .int .i64 s', .int .i64 z', .int .i64 c', .int .i64 m'] 23) rfl
  have hT : TwiceR w #[.int .i64 k, .string r, .string u, .string v, .string t, .bool p, .bool o, .int .i64 s, .int .i64 z, .int .i64 c, .int .i64 m] #[.int .i64 k', .string r', .string u', .string v', .string t', .bool p', .bool o', .int .i64 s', .int .i64 z', .int .i64 c', .int .i64 m'] _ := ⟨hb, e0, e1⟩
  clear e0 e1 hb
  go_enter Try.func25, Try.ntmps25
  go_upto_region 1 with (fail)
  generalize hW : ((w.alloc (.cells #[.int .i64 k, .string r, .string u, .string v, .string t, .bool p, .bool o, .int .i64 s, .int .i64 z, .int .i64 c, .int .i64 m] 23)).alloc (.cells #[.int .i64 k', .string r', .string u', .string v', .string t', .bool p', .bool o', .int .i64 s', .int .i64 z', .int .i64 c', .int .i64 m'] 23)) = W at *
  clear hW
  obtain ⟨d0, d1, d2, d3, d4, d5, d6, d7, d8, d9, d10⟩ := cells11 hT.2.1
  obtain ⟨f0, f1, f2, f3, f4, f5, f6, f7, f8, f9, f10⟩ := cells11 hT.2.2
  have HT := Lib.hid hT
  clear hT
  by_cases h1 : m < m'
  · rw [if_pos h1] at HC
    have q1 : decide (m < m') = true := decide_eq_true h1
    go_wp2_with fail
    go_ret
    rw [HC.out]
    exact ⟨rfl, HT.out.1⟩
  · rw [if_neg h1] at HC
    have q1 : decide (m < m') = false := decide_eq_false h1
    by_cases h2 : m' < m
    · rw [if_pos h2] at HC
      have q2 : decide (m' < m) = true := decide_eq_true h2
      go_wp2_with fail
      go_ret
      rw [HC.out]
      exact ⟨rfl, HT.out.1⟩
    · rw [if_neg h2] at HC
      have q2 : decide (m' < m) = false := decide_eq_false h2
      clear h1 h2
      go_wp2_with fail
      clear d0 d1 d2 d3 d4 d5 d6 d7 d8 d9 d10 f0 f1 f2 f3 f4 f5 f6 f7 f8 f9 f10
      refine (hA.out _).mono ?_
      rintro e w1 ⟨⟨g1, cap1, rfl, hg1, ho1⟩, hb1⟩
      replace HT := Lib.hid (HT.out.later hb1)
      have cc := conv_row (ho1.row (lo := 0) (Nat.zero_le _))
      obtain ⟨f0, f1, f2, f3, f4, f5, f6, f7, f8, f9, f10⟩ := cells11 HT.out.2.2
      clear hb1 hg1 ho1
      go_wp2_with fail
      clear f0 f1 f2 f3 f4 f5 f6 f7 f8 f9 f10 cc
      refine (hB.out _).mono ?_
      rintro e w2 ⟨⟨g2, cap2, rfl, hg2, ho2⟩, hb2⟩
      replace HT := Lib.hid (HT.out.later hb2)
      have cc := conv_row (ho2.row (lo := 0) (Nat.zero_le _))
      clear hb2 hg2 ho2
      have hr := cmp_range ba bb
      have hz := cmp_zero (a := ba) (b := bb)
      have hs := cmp_self ba
      have HL := less_cmp ba bb
      have e1 := strOf_bytes ba
      have e2 := strOf_bytes bb
      rcases hr with hr | hr | hr
      · have l1 : Op.bytesLess (strOf ba).toList (strOf bb).toList = true := by rw [e1, e2, HL, hr]; rfl
        clear e1 e2 HL hz hs
        go_wp2_with fail
        go_ret
        rw [HC.out, hr]
        exact ⟨rfl, HT.out.1⟩
      · have l1 : Op.bytesLess (strOf ba).toList (strOf bb).toList = false := by rw [e1, e2, HL, hr]; rfl
        have l2 : ((strOf ba).toList == (strOf bb).toList) = true := by rw [e1, e2, hz hr]; simp
        clear e1 e2 HL hz hs
        go_wp2_with fail
        go_ret
        rw [HC.out, hr]
        exact ⟨rfl, HT.out.1⟩
      · have l1 : Op.bytesLess (strOf ba).toList (strOf bb).toList = false := by rw [e1, e2, HL, hr]; rfl
        have l2 : ((strOf ba).toList == (strOf bb).toList) = false := by
          rw [e1, e2, beq_eq_false_iff_ne]
          intro e
          rw [← e, hs] at hr
          cases hr
        clear e1 e2 HL hz hs
        go_wp2_with fail
        go_ret
        rw [HC.out, hr]
        exact ⟨rfl, HT.out.1⟩
end Go.Proofs.Ytahgkhcmchbpbaa
