/-
  A number of more bytes than are needed is none, nor are nine bytes that all go on: the statement LayForms, walked.
-/
import Derived.Test.YtkedbaknjekoaaaCuts
namespace Go.Proofs.Ytkedbaknjekoaaa
open Go.RowKit
set_option linter.unusedVariables false
set_option linter.unusedSimpArgs false

/-- One byte of a row of one's own is turned. -/
theorem Own.set {w : World} {g cap : Nat} {bs : List UInt8} (h : Own w g cap bs) (i : Nat) (x : UInt8) : Own (w.setCell ⟨g, i, none⟩ (bV x)) g cap (bs.set i x) := by
  obtain ⟨cur, hh, h1, h2, h3, h4⟩ := h
  refine ⟨_, heap_set hh i (bV x), by simpa using h1, h2, by simpa using h3, ?_⟩
  rw [List.length_set, Array.toList_setIfInBounds, List.take_set, h4]
  unfold bVs
  rw [List.map_set]

theorem forms_last {K m : Nat} (hm : (digs K).length = m + 1) : ∃ x, (digs K)[m]? = some x ∧ x.toNat < 128 ∧ ∀ y ∈ (digs K).set m (UInt8.ofNat (x.toNat + 128)), 128 ≤ y.toNat := by
  have hg := goes_digs K []
  rw [List.append_nil, hm] at hg
  have hg : goes (digs K) = m := by omega
  obtain ⟨x, hx⟩ : ∃ x, (digs K)[m]? = some x := ⟨_, List.getElem?_eq_getElem (by omega)⟩
  have hx1 : x.toNat < 128 := goes_stops (by rw [hg]; exact hx)
  refine ⟨x, hx, hx1, fun y hy => ?_⟩
  obtain ⟨j, hj, rfl⟩ := List.getElem_of_mem hy
  rw [List.length_set] at hj
  rw [List.getElem_set]
  split
  · rw [toNat_ofNat (by omega)]; omega
  · exact goes_on (l := digs K) (j := j) (by omega) (List.getElem?_eq_getElem hj)

def nineB : List UInt8 := [128, 129, 255, 128, 128, 200, 128, 128, 130]
theorem nineB_all : ∀ x ∈ nineB, 128 ≤ x.toNat := by decide
theorem own_new (w : World) (bs : List UInt8) (cur : Array Value) (n : Nat) (hn : bs.length = n) (h : cur.toList = bVs bs) (hm : n ≤ 1000) (B : Nat) (hB : B = w.heap.size) : Own (w.alloc (.cells cur 5)) B n bs := by
  subst hB hn
  refine ⟨cur, heap_alloc_new w _, Nat.le_refl _, by unfold maxLen; omega, ?_, ?_⟩
  · rw [← Array.length_toList, h, bVs_len]
  · rw [h, List.take_of_length_le (by rw [bVs_len]; exact Nat.le_refl _)]

theorem not_bytes {w : World} {k : Nat} {cs : Array Value} {t : TypeId} (h : w.heap[k]? = some (.cells cs t (0, 0))) (ht : t ≠ 5) : ∀ cur, w.heap[k]? ≠ some (.cells cur 5 (0, 0)) :=
  fun cur hc => by rw [h] at hc; injection hc with hc; injection hc with _ hc; exact ht hc
/-- Another reader is not turned. -/
theorem Rd.other {w w' : World} {lo lo' g k : Nat} {s s' : St} (h : Rd w lo g s) (hk : Rd w lo' k s') (hne : g ≠ k) (hg : w.grownBy w' (some k)) : Rd w' lo g s := by
  obtain ⟨⟨v, hh, hr⟩, ho⟩ := h
  obtain ⟨⟨v', hh', _⟩, _⟩ := hk
  exact ⟨⟨v, (hg.block g (heap_lt hh) (fun e => hne (by injection e))).trans hh, hr.grown hg (not_bytes hh' (by decide))⟩, ho⟩
theorem Rd.lt {w : World} {lo g : Nat} {s : St} (h : Rd w lo g s) : g < w.heap.size := by obtain ⟨⟨v, hh, _⟩, _⟩ := h; exact heap_lt hh

set_option maxHeartbeats 3200000 in
theorem forms_walk (n : Int) (A : Option Addr) (len cap : Nat) (bs : List UInt8) (w : World) (h0 : -9223372036854775808 ≤ n) (h1 : n ≤ 9223372036854775807) (hA : ArgB w A len cap bs) :
    Calls Try.prog 7 #[.int .i64 n, .slice A len cap] w fun e w' => e = .returned (.bool true) ∧ Below w.heap.size w w' := by
  obtain ⟨ha0, ha1⟩ := aroundI_bd n 36028797018963968 (by decide)
  obtain ⟨K, hK⟩ := Int.eq_ofNat_of_zero_le ha0
  have hK2 : K < 36028797018963968 := by omega
  obtain ⟨ds, hds⟩ : ∃ ds, ds = digs K := ⟨_, rfl⟩
  have hd8 : (digs K).length ≤ 8 := digs_len 7 K (by omega)
  have hd0 : 0 < (digs K).length := digs_pos _
  obtain ⟨m, hm⟩ : ∃ m, (digs K).length = m + 1 := ⟨(digs K).length - 1, by omega⟩
  obtain ⟨x, hx, hx1, hall⟩ := forms_last hm
  rw [hm] at hd8
  rw [← hds] at hm hx hall
  have HK := Lib.hid hK
  have HX := Lib.hid hx
  have HALL := Lib.hid hall
  have HM := Lib.hid hm
  have HA := Lib.hid hA
  have HD := Lib.hid (show [] ++ digs (natI (K : Int)) = ds by rw [hds]; rfl)
  have HP := Lib.hid (number_put (.slice none 0 0) [] 0 (K : Int) w (Row.nil _ _) (by simp) (by omega) (by omega))
  clear ha0 ha1 hK hds hd0 hx hall hm hA
  go_enter Try.func7, Try.ntmps7
  go_wp2_with fail
  refine (around_any n _ _ h0 h1 (by decide) (by decide)).mono ?_
  rintro e w0 ⟨rfl, rfl⟩
  rw [HK.out]
  go_wp2_with fail
  refine HP.out.mono ?_
  rw [HD.out]
  rintro e w1 ⟨⟨g1, cap1, rfl, hg1, ho1⟩, hb1⟩
  rw [HM.out]
  have hcap : m + 1 ≤ cap1 := by obtain ⟨_, _, h, _⟩ := ho1; rw [HM.out] at h; exact h
  have hcap2 : cap1 ≤ 9223372036854775807 := by obtain ⟨_, _, _, h, _⟩ := ho1; unfold maxLen at h; omega
  have hcell := ho1.cells m x HX.out
  have hfree : w1.frozen? ⟨g1, m, none⟩ = false := by obtain ⟨_, h, _⟩ := ho1; exact free_at h m
  unfold bV at hcell
  have HO := Lib.hid ho1
  have HB1 := Lib.hid hb1
  clear ho1 hb1 HP
  -- the last byte is turned
  have HO2 : Hid (Own (w1.setCell ⟨g1, m, none⟩ (.int .u8 ((x.toNat : Int) + 128))) g1 cap1 (ds.set m (UInt8.ofNat (x.toNat + 128)))) := by
    have := HO.out.set m (UInt8.ofNat (x.toNat + 128))
    unfold bV at this
    rw [toNat_ofNat (by omega)] at this
    exact Lib.hid this
  have HB2 : Hid (Below w.heap.size w (w1.setCell ⟨g1, m, none⟩ (.int .u8 ((x.toNat : Int) + 128)))) := Lib.hid (HB1.out.setCell (p := ⟨g1, m, none⟩) hg1 _)
  obtain ⟨es, hes⟩ : ∃ es, es = ds.set m (UInt8.ofNat (x.toNat + 128)) := ⟨_, rfl⟩
  have hel : es.length = m + 1 := by rw [hes, List.length_set, HM.out]
  rw [← hes] at HO2 HALL
  have Hel := Lib.hid hel
  clear hes hel
  have HPU : Hid (Puts (w1.setCell ⟨g1, m, none⟩ (.int .u8 ((x.toNat : Int) + 128))) w.heap.size (.slice (some ⟨g1, 0, none⟩) (m + 1) cap1) es) := Lib.hid (.inr ⟨g1, cap1, by rw [Hel.out], hg1, HO2.out⟩)
  have q0 : (((m : Int) + 1) == 0) = false := by rw [beq_eq_false_iff_ne]; omega
  go_wp2_with (at_builtin; refine wpList_puts rfl (.tmp 31) (.tmp 32) _ rfl rfl (HPU.out.alloc _) (by have := HB1.out.size; simp; omega) (.slice (some ⟨w1.heap.size, 0, none⟩) 1 1) 1 [0] rfl rfl (Src.ofLit _ 0 0 rfl _ (by simp)) (.inl (by decide)) (by have := Hel.out; omega) ?_; rintro g2 cap2 w2 hg2 ho2 hb2)
  have HO3 := Lib.hid ho2
  have HB3 := Lib.hid ((HB2.out.alloc (by have := HB2.out.size; exact this) _).trans hb2)
  have HL3 := Lib.hid (show (es ++ [0]).length = es.length + 1 by rw [List.length_append]; rfl)
  have HE := Lib.hid (numS_bad (bs := es ++ [0]) (e := 0) (numErr_more es HALL.out (by rw [Hel.out]; omega) (by rw [Hel.out]; omega)) (by decide))
  clear ho2 hb2 hcell hfree
  have HR3 := Lib.hid (show Row w2 0 (.slice (some ⟨g2, 0, none⟩) (es.length + 1) cap2) (es ++ [0]) by have := HO3.out.row (lo := 0) (Nat.zero_le _); rw [HL3.out] at this; exact this)
  refine (read_any _ (es ++ [0]) 0 _ HR3.out (by have := Hel.out; have := HL3.out; omega)).mono ?_
  rintro e w3 ⟨⟨g3, rfl, hg3, hr3⟩, hb3⟩
  have hg3w : w.heap.size ≤ g3 := Nat.le_trans HB3.out.size hg3
  have HR3' := Lib.hid hr3
  have HB4 := Lib.hid (later HB3.out hb3)
  clear hr3 hb3
  have Hfl := Lib.hid (show (es ++ [0]).length ≤ 1000000 by have := Hel.out; have := HL3.out; omega)
  generalize es ++ [0] = fs at *
  have HON := Lib.hid (own_new w3 nineB #[.int .u8 128, .int .u8 129, .int .u8 255, .int .u8 128, .int .u8 128, .int .u8 200, .int .u8 128, .int .u8 128, .int .u8 130] 9 rfl rfl (by decide) _ rfl)
  have hb4 : Below w3.heap.size w3 (w3.alloc (.cells #[.int .u8 128, .int .u8 129, .int .u8 255, .int .u8 128, .int .u8 128, .int .u8 200, .int .u8 128, .int .u8 128, .int .u8 130] 5)) := (Below.refl _ w3).alloc (Nat.le_refl _) _
  have HB5 := Lib.hid (later HB4.out hb4)
  have HW3 := Lib.hid hb4
  have hsz : w.heap.size ≤ w3.heap.size := HB4.out.size
  clear hb4
  go_wp2_with fail
  refine (few_bytes A len cap 3 bs _ (HA.out.below HB5.out) (by decide)).mono ?_
  rintro e w5 ⟨⟨v5, rfl, hm5⟩, hb5⟩
  obtain ⟨A5, c5, hv5, _⟩ := hm5.row.shape
  have hl5 : (bs.take 3).length ≤ 3 := by rw [List.length_take]; omega
  generalize bs.take 3 = ts at *
  have hn5 : ∃ t, ts.length = t := ⟨_, rfl⟩
  obtain ⟨t, ht⟩ := hn5
  rw [ht] at hv5 hl5
  subst hv5
  have HS5 := Lib.hid (Src.ofRow ht hm5.row)
  have HT := Lib.hid ht
  have HON5 := Lib.hid (HON.out.below hb5)
  have HB6 := Lib.hid (later HB5.out hb5)
  have HW5 := Lib.hid (later HW3.out hb5)
  have hs5 := HW5.out.size
  clear ht hm5 hb5
  go_wp2_with (at_builtin; refine wpList_puts rfl (.tmp 36) (.tmp 38) _ rfl rfl (.inr ⟨w3.heap.size, 9, rfl, Nat.le_refl _, HON5.out⟩) hs5 (.slice A5 t c5) t ts rfl HT.out HS5.out (.inr ⟨w3.heap.size, 9, rfl, Nat.le_refl _, HON5.out⟩) (by simp [nineB]; omega) ?_; rintro g6 cap6 w6 hg6 ho6 hb6)
  have HW6 := Lib.hid (HW5.out.trans hb6)
  have HB7 := Lib.hid (HB6.out.trans (hb6.mono hsz))
  have HR6 := Lib.hid (HR3'.out.below HW6.out)
  have hg36 : g3 < w6.heap.size := HR6.out.lt
  have Hl6 := Lib.hid (show (nineB ++ ts).length = nineB.length + t by rw [List.length_append, HT.out])
  have HE2 := Lib.hid (numS_bad (bs := nineB ++ ts) (e := 0) (numErr_nine nineB ts nineB_all rfl) (by decide))
  have hl6 : (nineB ++ ts).length ≤ 1000000 := by rw [Hl6.out]; simp [nineB]; omega
  have HRow6 := Lib.hid (show Row w6 0 (.slice (some ⟨g6, 0, none⟩) (nineB.length + t) cap6) (nineB ++ ts) by have := ho6.row (lo := 0) (Nat.zero_le _); rw [Hl6.out] at this; exact this)
  clear ho6 hb6
  generalize nineB ++ ts = us at *
  refine (read_any _ us 0 _ HRow6.out hl6).mono ?_
  rintro e w7 ⟨⟨g7, rfl, hg7, hr7⟩, hb7⟩
  have HR7 := Lib.hid hr7
  have HQ7 := Lib.hid (HR6.out.below hb7)
  have HB8 := Lib.hid (later HB7.out hb7)
  have hg7w : w.heap.size ≤ g7 := Nat.le_trans HB7.out.size hg7
  clear hr7 hb7
  go_wp2_with fail
  refine (readNum_any _ g3 (fs, 0) _ HQ7.out Hfl.out).mono ?_
  rintro e w8 ⟨rfl, hr8, hgr8⟩
  rw [HE.out] at hr8 ⊢
  have HR8 := Lib.hid hr8
  have HS8 := Lib.hid (HR7.out.other HQ7.out (by omega) hgr8)
  have HB9 := Lib.hid (below_grown HB8.out hgr8 hg3w)
  clear hr8 hgr8
  go_wp2_with fail
  refine (readNum_any _ g7 (us, 0) _ HS8.out hl6).mono ?_
  rintro e w9 ⟨rfl, hr9, hgr9⟩
  rw [HE2.out] at hr9 ⊢
  have HR9 := Lib.hid hr9
  have HS9 := Lib.hid (HR8.out.other HS8.out (by omega) hgr9)
  have HB10 := Lib.hid (below_grown HB9.out hgr9 hg7w)
  clear hr9 hgr9
  go_wp2_with fail
  refine (errno_any _ g3 _ _ HS9.out).mono ?_
  rintro e w10 ⟨rfl, rfl⟩
  rw [show (0, failS (fs, 0) 2).2.2 = 2 from rfl]
  go_wp2_with fail
  refine (errno_any _ g7 _ _ HR9.out).mono ?_
  rintro e w10 ⟨rfl, rfl⟩
  rw [show (0, failS (us, 0) 2).2.2 = 2 from rfl]
  go_wp2_with fail
  refine (lives_any _).mono ?_
  rintro e w10 ⟨rfl, hb10⟩
  have HB11 := Lib.hid (later HB10.out hb10)
  clear hb10
  go_wp2_with fail
  go_ret
  exact ⟨rfl, HB11.out⟩
end Go.Proofs.Ytkedbaknjekoaaa
