/-
  The document's Bytes of a parcel, walked.
-/
import Derived.Test.YtnabbebkmafakaaPRefMay
namespace Go.Proofs.Ytnabbebkmafakaa
set_option maxRecDepth 20000
open Go.RowKit
set_option linter.unusedVariables false
set_option linter.unusedSimpArgs false

theorem digs_le {n : Nat} (h : n ≤ 9223372036854775807) : (digs n).length ≤ 9 := len_digs n (Nat.lt_of_le_of_lt h (by decide))
theorem textB_le {s : ByteArray} (h : s.size ≤ 1000000) : (textB s).length ≤ s.size + 9 := by
  rw [textB_len]
  have := digs_le (n := s.size) (by omega)
  omega
set_option maxHeartbeats 3200000 in
theorem refBytesPar_any (p : Par) (A : Option Addr) (cap : Nat) (w : World) (hE : EdusAt w A p.edus.length p.edus) (ha : p.edus.all mayB = true) (hn : p.edus.length ≤ 1000) (hf : p.frm.size ≤ 1000) (hd : p.dest.size ≤ 1000) (hi : -9223372036854775808 ≤ p.id ∧ p.id ≤ 9223372036854775807) :
    Calls Try.prog 15 #[.agg #[.bool p.ack, .string p.frm, .string p.dest, .int .i64 p.id, .slice A p.edus.length cap]] w (PutPost w (bytesP p)) := by
  have HE := Lib.hid hE
  have HT := Lib.hid (Box.new w #[.bool p.ack, .string p.frm, .string p.dest, .int .i64 p.id, .slice A p.edus.length cap] 24)
  have HH := headP_len p hf hd hi.2 hn
  have HP := Lib.hid (bytesP_head p)
  have HHd := Lib.hid (show headP p = flagB p.ack ++ textB p.frm ++ textB p.dest ++ digs (natI p.id) ++ digs p.edus.length from rfl)
  have HA := Lib.hid ha
  generalize bytesP p = BP at *
  generalize headP p = HD at *
  obtain ⟨ack, frm, dest, id, es⟩ := p
  simp only at *
  clear hE ha
  have hid : natI id ≤ 9223372036854775807 := by unfold natI; omega
  have L1 : (flagB ack).length ≤ 1 := Nat.le_refl _
  have L2 := textB_le (s := frm) (by omega)
  have L3 := textB_le (s := dest) (by omega)
  have L4 := digs_le hid
  have L5 := digs_le (n := es.length) (by omega)
  go_enter Try.func15, Try.ntmps15
  go_wp2_with fail
  refine (refFlag_put ack _).mono ?_
  rintro e w1 hp
  obtain ⟨v1, rfl, HW⟩ := HT.out.wrote hp
  clear hp HT
  generalize hF : flagB ack = b1 at *
  clear hF
  replace HW := Lib.hid HW
  obtain ⟨d0, d1, d2, d3, d4⟩ := cells5p HW.out.2.2
  go_wp2_with fail
  clear d0 d1 d2 d3 d4
  refine (refText_put frm _ (by omega)).mono ?_
  rintro e w2 ⟨⟨g2, c2, rfl, hg2, ho2⟩, hb2⟩
  replace HW := Lib.hid (HW.out.later hb2)
  have H2 := Lib.hid ho2
  have hpos := textB_pos frm
  clear hb2 hg2 ho2
  generalize hx : textB frm = n2 at *
  clear hx
  have L12 : (b1 ++ n2).length ≤ 2250 := by rw [List.length_append]; omega
  go_wp2_with (at_builtin; refine wpList_puts rfl (.tmp 8) (.tmp 11) _ rfl rfl HW.out.puts HW.out.2.size (.slice (some ⟨g2, 0, none⟩) n2.length c2) n2.length n2 rfl rfl (Src.ofRow rfl (row_of H2.out rfl)) (.inl hpos) (by omega) ?_; rintro g3 c3 w3 hg3 ho3 hb3; have HW' := Wrote.put (v := .bool true) HW.out.2 rfl hg3 ho3 hb3; generalize hv : (Value.slice (some ⟨g3, 0, none⟩) (b1.length + n2.length) c3) = v2 at HW' ⊢; clear hv HW hg3 ho3 hb3 hpos; obtain ⟨d0, d1, d2, d3, d4⟩ := cells5p HW'.2.2; have HW := Lib.hid HW'; clear HW')
  clear H2
  generalize hx : b1 ++ n2 = b2 at *
  clear hx
  clear d0 d1 d2 d3 d4
  refine (refText_put dest _ (by omega)).mono ?_
  rintro e w2 ⟨⟨g2, c2, rfl, hg2, ho2⟩, hb2⟩
  replace HW := Lib.hid (HW.out.later hb2)
  have H2 := Lib.hid ho2
  have hpos := textB_pos dest
  clear hb2 hg2 ho2
  generalize hx : textB dest = n3 at *
  clear hx
  have L13 : (b2 ++ n3).length ≤ 3350 := by rw [List.length_append]; omega
  go_wp2_with (at_builtin; refine wpList_puts rfl (.tmp 13) (.tmp 16) _ rfl rfl HW.out.puts HW.out.2.size (.slice (some ⟨g2, 0, none⟩) n3.length c2) n3.length n3 rfl rfl (Src.ofRow rfl (row_of H2.out rfl)) (.inl hpos) (by omega) ?_; rintro g3 c3 w3 hg3 ho3 hb3; have HW' := Wrote.put (v := .bool true) HW.out.2 rfl hg3 ho3 hb3; generalize hv : (Value.slice (some ⟨g3, 0, none⟩) (b2.length + n3.length) c3) = v3 at HW' ⊢; clear hv HW hg3 ho3 hb3 hpos; obtain ⟨d0, d1, d2, d3, d4⟩ := cells5p HW'.2.2; have HW := Lib.hid HW'; clear HW')
  clear H2
  generalize hx : b2 ++ n3 = b3 at *
  clear hx
  clear d0 d1 d2 d3 d4
  refine (refNumber_put id _ (by omega) (by omega)).mono ?_
  rintro e w2 ⟨⟨g2, c2, rfl, hg2, ho2⟩, hb2⟩
  replace HW := Lib.hid (HW.out.later hb2)
  have H2 := Lib.hid ho2
  have hpos := digs_pos (natI id)
  clear hb2 hg2 ho2
  generalize hx : digs (natI id) = n4 at *
  clear hx
  have L14 : (b3 ++ n4).length ≤ 4450 := by rw [List.length_append]; omega
  go_wp2_with (at_builtin; refine wpList_puts rfl (.tmp 18) (.tmp 21) _ rfl rfl HW.out.puts HW.out.2.size (.slice (some ⟨g2, 0, none⟩) n4.length c2) n4.length n4 rfl rfl (Src.ofRow rfl (row_of H2.out rfl)) (.inl hpos) (by omega) ?_; rintro g3 c3 w3 hg3 ho3 hb3; have HW' := Wrote.put (v := .bool true) HW.out.2 rfl hg3 ho3 hb3; generalize hv : (Value.slice (some ⟨g3, 0, none⟩) (b3.length + n4.length) c3) = v4 at HW' ⊢; clear hv HW hg3 ho3 hb3 hpos; obtain ⟨d0, d1, d2, d3, d4⟩ := cells5p HW'.2.2; have HW := Lib.hid HW'; clear HW')
  clear H2
  generalize hx : b3 ++ n4 = b4 at *
  clear hx
  clear d0 d1 d2 d3 d4
  refine (refNumber_put (es.length : Int) _ (by omega) (by omega)).mono ?_
  rintro e w2 ⟨⟨g2, c2, rfl, hg2, ho2⟩, hb2⟩
  rw [show natI (es.length : Int) = es.length from rfl] at ho2 ⊢
  replace HW := Lib.hid (HW.out.later hb2)
  have H2 := Lib.hid ho2
  have hpos := digs_pos es.length
  clear hb2 hg2 ho2
  generalize hx : digs es.length = n5 at *
  clear hx
  have L15 : (b4 ++ n5).length ≤ 5550 := by rw [List.length_append]; omega
  go_wp2_with (at_builtin; refine wpList_puts rfl (.tmp 23) (.tmp 27) _ rfl rfl HW.out.puts HW.out.2.size (.slice (some ⟨g2, 0, none⟩) n5.length c2) n5.length n5 rfl rfl (Src.ofRow rfl (row_of H2.out rfl)) (.inl hpos) (by omega) ?_; rintro g3 c3 w3 hg3 ho3 hb3; have HW' := Wrote.put (v := .bool true) HW.out.2 rfl hg3 ho3 hb3; generalize hv : (Value.slice (some ⟨g3, 0, none⟩) (b4.length + n5.length) c3) = v5 at HW' ⊢; clear hv HW hg3 ho3 hb3 hpos; obtain ⟨d0, d1, d2, d3, d4⟩ := cells5p HW'.2.2; have HW := Lib.hid HW'; clear HW')
  clear H2
  generalize hx : b4 ++ n5 = b5 at *
  clear hx
  rw [← HHd.out] at HW
  clear d0 d1 d2 d3 d4 HHd
  go_loopw [3, 4] (fun b i wr => ∃ k : Nat, k ≤ es.length ∧ i = .int .i64 (k : Int) ∧ Hid (Wrote w #[.bool ack, .string frm, .string dest, .int .i64 id, .slice A es.length cap] 24 b (HD ++ edusB (es.take k)) wr)) (fun _ i _ => es.length - (intOf i).toNat)
  case atStart => exact ⟨0, Nat.zero_le _, rfl, Lib.hid (by simpa [edusB] using HW.out)⟩
  case round =>
    obtain ⟨k, hk, rfl, hwr⟩ := hrel
    clear HW
    obtain ⟨c0, c1, c2, c3, c4⟩ := cells5p hwr.out.2.2
    by_cases hlt : k < es.length
    · have q2 : decide ((k : Int) < (es.length : Int)) = true := by simp; omega
      obtain ⟨e, he⟩ := get_lt hlt
      obtain ⟨b, off, rfl, hb, hr⟩ := (HE.out.below hwr.out.2.1).at he
      have hix := fun w => index_edu (b := b) (off := off) (cap := cap) hlt w
      obtain ⟨d0, d1, d2, d3, d4, d5, d6, d7, d8, d9, d10⟩ := range11 hr
      have hme : mayB e = true := List.all_eq_true.1 HA.out e (mem_at he)
      have HM := Lib.hid (fun w => refBytes_any e w (may_fits hme).1 (may_fits hme).2)
      have HS := Lib.hid (edusB_step he)
      have hsz := str_small hme
      have hbl := may_bytes_len hme
      have hel := edus_take_len HA.out k (by omega)
      clear hr he hme
      generalize bytesB e = be at *
      generalize edusB (es.take k) = ek at *
      obtain ⟨x0, x1, x2, x3, x4, x5, x6, x7, x8, x9, x10⟩ := e
      simp only [Edu.val] at HM d0 d1 d2 d3 d4 d5 d6 d7 d8 d9 d10
      go_wp2_with fail
      refine (HM.out _).mono ?_
      rintro e w7 ⟨⟨g7, c7, rfl, hg7, ho7⟩, hb7⟩
      have hw7 := Lib.hid (hwr.out.later hb7)
      have cc := conv_row (row_of ho7 rfl)
      clear hb7 d0 d1 d2 d3 d4 d5 d6 d7 d8 d9 d10 c0 c1 c2 c3 c4 hix HM hb hwr hg7 ho7
      go_wp2_with fail
      clear cc
      refine (refText_put (strOf be) _ hsz).mono ?_
      rintro e w8 ⟨⟨g8, c8, rfl, hg8, ho8⟩, hb8⟩
      have hw8 := Lib.hid (hw7.out.later hb8)
      have htl : (textB (strOf be)).length ≤ 1000100 := by
        have := textB_le hsz
        omega
      have htp := textB_pos (strOf be)
      generalize textB (strOf be) = tb at *
      have H8 := Lib.hid ho8
      clear hb8 hg8 ho8 hw7
      go_wp2_with (at_builtin; refine wpList_puts rfl (.tmp 36) (.tmp 44) _ rfl rfl hw8.out.puts hw8.out.2.size _ tb.length tb rfl rfl (Src.ofRow rfl (row_of H8.out rfl)) (.inl htp) (by rw [List.length_append]; omega) ?_; rintro g9 c9 w9 hg9 ho9 hb9)
      have hw9 := Wrote.put (n := HD.length + ek.length + tb.length) (v := .bool true) hw8.out.2 (by rw [List.length_append]) hg9 ho9 hb9
      rw [List.append_assoc, ← HS.out] at hw9
      refine ⟨⟨k + 1, by omega, by go_num, Lib.hid hw9⟩, ?_⟩
      simp [intOf]; omega
    · obtain rfl : k = es.length := by omega
      have q2 : decide ((es.length : Int) < (es.length : Int)) = false := by simp
      rw [List.take_length, ← HP.out] at hwr
      go_wp2_with fail
      obtain ⟨⟨g, c, rfl, hg, ho⟩, hbx⟩ := hwr.out
      go_ret
      exact ⟨⟨g, c, rfl, by omega, ho⟩, hbx.1⟩
end Go.Proofs.Ytnabbebkmafakaa
