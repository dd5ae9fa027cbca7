/-
  Package parcel: Write, walked.
-/
import Derived.Test.YtnabbebkmafakaaPMay
namespace Go.Proofs.Ytnabbebkmafakaa
set_option maxRecDepth 20000
open Go.RowKit
set_option linter.unusedVariables false
set_option linter.unusedSimpArgs false

theorem Box.put {w w1 w2 : World} {cs : Array Value} {t : TypeId} (h : Box w cs t w1) (hb : Below (w.heap.size + 1) w1 w2) : Box w cs t w2 :=
  ⟨h.1.trans ⟨hb.os, hb.tape, hb.output, hb.size, fun i hi => hb.block i (by omega)⟩, (hb.block _ (by omega)).trans h.2⟩
theorem Box.size {w w1 : World} {cs : Array Value} {t : TypeId} (h : Box w cs t w1) : w.heap.size + 1 ≤ w1.heap.size := heap_lt h.2
theorem edusB_app : ∀ a b : List Edu, edusB (a ++ b) = edusB a ++ edusB b
  | [], b => rfl
  | e :: a, b => by rw [List.cons_append, edusB, edusB, edusB_app a b, List.append_assoc]
theorem edusB_step {es : List Edu} {k : Nat} {e : Edu} (he : es[k]? = some e) : edusB (es.take (k + 1)) = edusB (es.take k) ++ textB (strOf (bytesB e)) := by
  rw [List.take_add_one, he, edusB_app]
  simp [edusB]
def headP (p : Par) : List UInt8 := flagB p.ack ++ textB p.frm ++ textB p.dest ++ digs (natI p.id) ++ digs p.edus.length
theorem bytesP_head (p : Par) : bytesP p = headP p ++ edusB p.edus := by
  unfold bytesP headP
  simp only [List.append_assoc]
theorem headP_len (p : Par) (hf : p.frm.size ≤ 1000) (hd : p.dest.size ≤ 1000) (h1 : p.id ≤ 9223372036854775807) (hl : p.edus.length ≤ 1000) : (headP p).length ≤ 3000 := by
  have t1 := textB_len p.frm
  have t2 := textB_len p.dest
  have d1 := len_digs p.frm.size (Nat.lt_of_le_of_lt hf (by decide))
  have d2 := len_digs p.dest.size (Nat.lt_of_le_of_lt hd (by decide))
  have k1 := len_digs _ (natI_lt p.id h1)
  have k2 := len_digs p.edus.length (Nat.lt_of_le_of_lt hl (by decide))
  have fl : (flagB p.ack).length = 1 := rfl
  unfold headP
  simp only [List.length_append]
  omega
theorem all_take {es : List Edu} (h : es.all mayB = true) (k : Nat) : (es.take k).all mayB = true := by
  rw [List.all_eq_true] at h ⊢
  exact fun e he => h e (List.mem_of_mem_take he)
theorem edus_take_len {es : List Edu} (h : es.all mayB = true) (k : Nat) (hk : k ≤ 1000) : (edusB (es.take k)).length ≤ 251000 := by
  have h1 := edus_len _ (all_take h k)
  rw [List.length_take] at h1
  omega

set_option maxHeartbeats 1600000 in
theorem writePar_no (p : Par) (A : Option Addr) (cap : Nat) (w : World) (hE : EdusAt w A p.edus.length p.edus) (hl : p.edus.length ≤ maxLen) (hf : p.frm.size ≤ maxLen) (hd : p.dest.size ≤ maxLen) (hm : mayP p = false) :
    Calls Try.prog 12 #[.agg #[.bool p.ack, .string p.frm, .string p.dest, .int .i64 p.id, .slice A p.edus.length cap]] w fun e w' => e = .returned (.tuple #[.slice none 0 0, .int .i64 1]) ∧ Below w.heap.size w w' := by
  have HM := Lib.hid (fun w' (hb : Below w.heap.size w w') => mayPar_any p A cap w' (hE.below hb) hl hf hd)
  rw [hm] at HM
  have HT := Lib.hid (Box.new w #[.bool p.ack, .string p.frm, .string p.dest, .int .i64 p.id, .slice A p.edus.length cap] 33)
  obtain ⟨ack, frm, dest, id, es⟩ := p
  simp only at *
  clear hE hl hf hd hm
  generalize hN : es.length = N at *
  clear hN
  go_enter Try.func12, Try.ntmps12
  go_wp2_with fail
  refine (HM.out _ HT.out.1).mono ?_
  rintro e w1 ⟨rfl, hb1⟩
  replace HT := Lib.hid (HT.out.later hb1)
  clear hb1 HM
  go_wp2_with fail
  go_ret2
  exact ⟨rfl, HT.out.1⟩

theorem row_of {w : World} {g cap n : Nat} {bs : List UInt8} (h : Own w g cap bs) (hn : bs.length = n) : Row w 0 (.slice (some ⟨g, 0, none⟩) n cap) bs := by
  subst hn
  exact h.row (Nat.zero_le _)
theorem may_fits {e : Edu} (h : mayB e = true) : e.fits ∧ e.short := ⟨local_fits (may_local h), local_short (may_local h)⟩
theorem str_small {e : Edu} (h : mayB e = true) : (strOf (bytesB e)).size ≤ 1000000 := by
  rw [strOf_size]
  have := may_bytes_len h
  omega
theorem textB_pos (s : ByteArray) : 0 < (textB s).length := by
  have h := digs_pos s.size
  rw [textB_len]
  omega
/-- The bytes that are written so far: one's own, and the box is kept. -/
def Wrote (w : World) (cs : Array Value) (t : TypeId) (v : Value) (bs : List UInt8) (wr : World) : Prop := (∃ g cap, v = .slice (some ⟨g, 0, none⟩) bs.length cap ∧ w.heap.size + 1 ≤ g ∧ Own wr g cap bs) ∧ Box w cs t wr
theorem Wrote.later {w : World} {cs : Array Value} {t : TypeId} {v : Value} {bs : List UInt8} {wr w' : World} (h : Wrote w cs t v bs wr) (hb : Below wr.heap.size wr w') : Wrote w cs t v bs w' := by
  obtain ⟨⟨g, cap, h1, h2, h3⟩, h4⟩ := h
  exact ⟨⟨g, cap, h1, h2, h3.below hb⟩, h4.later hb⟩
theorem Wrote.row {w : World} {cs : Array Value} {t : TypeId} {v : Value} {bs : List UInt8} {wr : World} (h : Wrote w cs t v bs wr) : Row wr 0 v bs := by
  obtain ⟨⟨g, cap, h1, h2, h3⟩, h4⟩ := h
  subst h1
  exact h3.row (Nat.zero_le _)
theorem Wrote.puts {w : World} {cs : Array Value} {t : TypeId} {v : Value} {bs : List UInt8} {wr : World} (h : Wrote w cs t v bs wr) : Puts wr (w.heap.size + 1) v bs := by
  obtain ⟨⟨g, cap, h1, h2, h3⟩, h4⟩ := h
  exact .inr ⟨g, cap, h1, h2, h3⟩
theorem Box.wrote {w wr w' : World} {cs : Array Value} {t : TypeId} {bs : List UInt8} {e : Ending} (h : Box w cs t wr) (hp : PutPost wr bs e w') : ∃ v, e = .returned v ∧ Wrote w cs t v bs w' := by
  obtain ⟨⟨g, cap, h1, h2, h3⟩, h4⟩ := hp
  have := h.size
  exact ⟨_, h1, ⟨g, cap, rfl, by omega, h3⟩, h.later h4⟩
theorem Wrote.put {w : World} {cs : Array Value} {t : TypeId} {v : Value} {bs news : List UInt8} {wr w2 : World} {g cap n : Nat} (h : Box w cs t wr) (hn : bs.length + news.length = n) (hg : w.heap.size + 1 ≤ g) (ho : Own w2 g cap (bs ++ news)) (hb : Below (w.heap.size + 1) wr w2) : Wrote w cs t (.slice (some ⟨g, 0, none⟩) n cap) (bs ++ news) w2 :=
  ⟨⟨g, cap, by rw [List.length_append, hn], hg, ho⟩, h.put hb⟩

set_option maxHeartbeats 3200000 in
theorem writePar_yes (p : Par) (A : Option Addr) (cap : Nat) (w : World) (hE : EdusAt w A p.edus.length p.edus) (hm : mayP p = true) :
    Calls Try.prog 12 #[.agg #[.bool p.ack, .string p.frm, .string p.dest, .int .i64 p.id, .slice A p.edus.length cap]] w fun e w' => (∃ g cap, e = .returned (.tuple #[.slice (some ⟨g, 0, none⟩) (bytesP p).length cap, .int .i64 0]) ∧ w.heap.size ≤ g ∧ Own w' g cap (bytesP p)) ∧ Below w.heap.size w w' := by
  obtain ⟨hf, hd, _, hi, hn, _, ha⟩ := mayP_parts hm
  replace hf := server_size hf
  replace hd := server_size hd
  have HM := Lib.hid (fun w' (hb : Below w.heap.size w w') => mayPar_any p A cap w' (hE.below hb) (by rw [maxLen_eq]; omega) (by rw [maxLen_eq]; omega) (by rw [maxLen_eq]; omega))
  rw [hm] at HM
  have HE := Lib.hid hE
  have HT := Lib.hid (Box.new w #[.bool p.ack, .string p.frm, .string p.dest, .int .i64 p.id, .slice A p.edus.length cap] 33)
  have HH := headP_len p (by omega) (by omega) (by omega) (by omega)
  have HP := Lib.hid (bytesP_head p)
  have HHd := Lib.hid (show headP p = flagB p.ack ++ textB p.frm ++ textB p.dest ++ digs (natI p.id) ++ digs p.edus.length from rfl)
  have HA := Lib.hid ha
  generalize bytesP p = BP at *
  generalize headP p = HD at *
  obtain ⟨ack, frm, dest, id, es⟩ := p
  simp only at *
  clear hE hm ha
  have HF1 := Lib.hid (fun w => flag_put (.slice none 0 0) [] 0 ack w (Row.nil w 0) (by simp))
  have L1 : (flagB ack).length = 1 := rfl
  have L2 := textB_len frm
  have L3 := textB_len dest
  have L2' := len_digs frm.size (Nat.lt_of_le_of_lt hf (by decide))
  have L3' := len_digs dest.size (Nat.lt_of_le_of_lt hd (by decide))
  have L4 := len_digs _ (natI_lt id (by omega))
  go_enter Try.func12, Try.ntmps12
  go_wp2_with fail
  refine (HM.out _ HT.out.1).mono ?_
  rintro e w1 ⟨rfl, hb1⟩
  replace HT := Lib.hid (HT.out.later hb1)
  clear hb1 HM
  obtain ⟨d0, d1, d2, d3, d4⟩ := cells5p HT.out.2
  go_wp2_with fail
  clear d0 d1 d2 d3 d4
  refine (HF1.out _).mono ?_
  rintro e w2 hp
  obtain ⟨v1, rfl, HW⟩ := HT.out.wrote hp
  rw [List.nil_append] at HW
  replace HW := Lib.hid HW
  clear hp HT w1 HF1
  obtain ⟨d0, d1, d2, d3, d4⟩ := cells5p HW.out.2.2
  go_wp2_with fail
  clear d0 d1 d2 d3 d4
  refine (text_put _ _ 0 frm _ HW.out.row (by omega) (by omega)).mono ?_
  rintro e w3 hp
  obtain ⟨v2, rfl, HW'⟩ := HW.out.2.wrote hp
  replace HW := Lib.hid HW'
  clear hp HW' w2
  obtain ⟨d0, d1, d2, d3, d4⟩ := cells5p HW.out.2.2
  go_wp2_with fail
  clear d0 d1 d2 d3 d4
  refine (text_put _ _ 0 dest _ HW.out.row (by rw [List.length_append]; omega) (by omega)).mono ?_
  rintro e w4 hp
  obtain ⟨v3, rfl, HW'⟩ := HW.out.2.wrote hp
  replace HW := Lib.hid HW'
  clear hp HW' w3
  obtain ⟨d0, d1, d2, d3, d4⟩ := cells5p HW.out.2.2
  go_wp2_with fail
  clear d0 d1 d2 d3 d4
  refine (number_put _ _ 0 id _ HW.out.row (by simp only [List.length_append]; omega) (by omega) (by omega)).mono ?_
  rintro e w5 hp
  obtain ⟨v4, rfl, HW'⟩ := HW.out.2.wrote hp
  replace HW := Lib.hid HW'
  clear hp HW' w4
  obtain ⟨d0, d1, d2, d3, d4⟩ := cells5p HW.out.2.2
  go_wp2_with fail
  clear d0 d1 d2 d3 d4
  refine (number_put _ _ 0 (es.length : Int) _ HW.out.row (by simp only [List.length_append]; omega) (by omega) (by omega)).mono ?_
  rintro e w6 hp
  obtain ⟨v5, rfl, HW'⟩ := HW.out.2.wrote hp
  rw [show natI (es.length : Int) = es.length from rfl, ← HHd.out] at HW'
  replace HW := Lib.hid HW'
  clear hp HW' w5 L1 L2 L3 L2' L3' L4
  obtain ⟨d0, d1, d2, d3, d4⟩ := cells5p HW.out.2.2
  go_wp2_with fail
  clear d0 d1 d2 d3 d4 HHd
  go_loopw [4, 35] (fun b i wr => ∃ k : Nat, k ≤ es.length ∧ i = .int .i64 (k : Int) ∧ Hid (Wrote w #[.bool ack, .string frm, .string dest, .int .i64 id, .slice A es.length cap] 33 b (HD ++ edusB (es.take k)) wr)) (fun _ i _ => es.length - (intOf i).toNat)
  case atStart => exact ⟨0, Nat.zero_le _, rfl, Lib.hid (by simpa [edusB] using HW.out)⟩
  case round =>
    obtain ⟨k, hk, rfl, hwr⟩ := hrel
    clear HW
    by_cases hlt : k < es.length
    · have q2 : decide ((k : Int) < (es.length : Int)) = true := by simp; omega
      obtain ⟨e, he⟩ := get_lt hlt
      obtain ⟨b, off, rfl, hb, hr⟩ := (HE.out.below hwr.out.2.1).at he
      have hix := fun w => index_edu (b := b) (off := off) (cap := cap) hlt w
      obtain ⟨d0, d1, d2, d3, d4, d5, d6, d7, d8, d9, d10⟩ := range11 hr
      have hme : mayB e = true := List.all_eq_true.1 HA.out e (mem_at he)
      have HM := Lib.hid (fun w => write_yes e w (may_fits hme).1 (may_fits hme).2 hme)
      have HS := Lib.hid (edusB_step he)
      have hsz := str_small hme
      have hbl := may_bytes_len hme
      have hel := edus_take_len HA.out k (by omega)
      clear hr he hme
      generalize bytesB e = be at *
      generalize edusB (es.take k) = ek at *
      obtain ⟨x0, x1, x2, x3, x4, x5, x6, x7, x8, x9, x10⟩ := e
      simp only [Edu.val] at HM d0 d1 d2 d3 d4 d5 d6 d7 d8 d9 d10
      go_wp2_with fail
      refine (HM.out _).mono ?_
      rintro e w7 ⟨⟨g7, c7, rfl, hg7, ho7⟩, hb7⟩
      have hw7 := Lib.hid ((hwr.out.later (below_new wr _)).later hb7)
      have cc := conv_row (row_of ho7 rfl)
      clear hb7 d0 d1 d2 d3 d4 d5 d6 d7 d8 d9 d10 hix HM hb hwr hg7 ho7
      go_wp2_with fail
      clear cc
      refine (text_put (.slice none 0 0) [] 0 (strOf be) _ (Row.nil _ 0) (by simp) hsz).mono ?_
      rintro e w8 ⟨⟨g8, c8, rfl, hg8, ho8⟩, hb8⟩
      rw [List.nil_append] at ho8 ⊢
      have hw8 := Lib.hid (hw7.out.later hb8)
      have htl : (textB (strOf be)).length ≤ 1000100 := by
        have htl := textB_len (strOf be)
        have htd := len_digs (strOf be).size (Nat.lt_of_le_of_lt hsz (by decide))
        omega
      have htp := textB_pos (strOf be)
      generalize textB (strOf be) = tb at *
      have H8 := Lib.hid ho8
      clear hb8 hg8 ho8 hw7
      go_wp2_with (at_builtin; refine wpList_puts rfl (.tmp 44) (.tmp 47) _ rfl rfl hw8.out.puts hw8.out.2.size _ tb.length tb rfl rfl (Src.ofRow rfl (row_of H8.out rfl)) (.inl htp) (by rw [List.length_append]; omega) ?_; rintro g9 c9 w9 hg9 ho9 hb9)
      have hw9 := Wrote.put (n := HD.length + ek.length + tb.length) (v := .bool true) hw8.out.2 (by rw [List.length_append]) hg9 ho9 hb9
      rw [List.append_assoc, ← HS.out] at hw9
      refine ⟨⟨k + 1, by omega, by go_num, Lib.hid hw9⟩, ?_⟩
      simp [intOf]; omega
    · obtain rfl : k = es.length := by omega
      have q2 : decide ((es.length : Int) < (es.length : Int)) = false := by simp
      rw [List.take_length, ← HP.out] at hwr
      go_wp2_with fail
      obtain ⟨⟨g, c, rfl, hg, ho⟩, hbx⟩ := hwr.out
      go_ret2
      exact ⟨⟨g, c, rfl, by omega, ho⟩, hbx.1⟩
end Go.Proofs.Ytnabbebkmafakaa
