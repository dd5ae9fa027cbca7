/-
  The bytes of a number, a text, a flag are the document's, behind what is there; that stays: the statement LayPuts, walked.
-/
import Derived.Test.YtkedbaknjekoaaaOwns
namespace Go.Proofs.Ytkedbaknjekoaaa
open Go.RowKit
set_option linter.unusedVariables false
set_option linter.unusedSimpArgs false

/-- All that is asked for again lies there still. -/
def Kept (w : World) (l : List (Value × List UInt8)) (A : Option Addr) (len cap : Nat) (bs : List UInt8) (w' : World) : Prop := Below w.heap.size w w' ∧ ArgB w' A len cap bs ∧ ∀ p ∈ l, Row w' 0 p.1 p.2
section
variable {w w0 w1 : World} {l : List (Value × List UInt8)} {A : Option Addr} {len cap : Nat} {bs : List UInt8}
theorem Kept.later (h : Kept w l A len cap bs w0) (hb : Below w0.heap.size w0 w1) : Kept w l A len cap bs w1 :=
  ⟨h.1.trans (hb.mono h.1.size), h.2.1.below hb, fun p hp => (h.2.2 p hp).below hb⟩
theorem Kept.drew (h : Kept w l A len cap bs w0) : Kept w l A len cap bs w0.drew := ⟨h.1.drew, h.2.1, h.2.2⟩
theorem Kept.cons (h : Kept w l A len cap bs w0) {v : Value} {xs : List UInt8} (hr : Row w0 0 v xs) : Kept w ((v, xs) :: l) A len cap bs w0 :=
  ⟨h.1, h.2.1, fun p hp => by
    rcases List.mem_cons.1 hp with rfl | hp
    · exact hr
    · exact h.2.2 p hp⟩
theorem Kept.less {p : Value × List UInt8} (h : Kept w (p :: l) A len cap bs w0) : Kept w l A len cap bs w0 := ⟨h.1, h.2.1, fun q hq => h.2.2 q (List.mem_cons_of_mem _ hq)⟩
theorem Kept.head {p : Value × List UInt8} (h : Kept w (p :: l) A len cap bs w0) : Row w0 0 p.1 p.2 := h.2.2 p (List.mem_cons_self ..)
end
theorem add_any (p q : ByteArray) (hp : p.size ≤ 10000) (hq : q.size ≤ 10000) (w : World) : (Op.stringOp .add p q).run Try.prog w = .ok (.string (p ++ q)) w := run_string_add_sum w p q (by omega)
theorem fewS_len (s : ByteArray) : (fewS s 200).size ≤ 200 := fewS_size s 200

set_option maxHeartbeats 6400000 in
set_option maxRecDepth 100000 in
theorem puts_walk (A : Option Addr) (len cap : Nat) (bs : List UInt8) (n : Int) (s : ByteArray) (is : Bool) (w : World) (hA : ArgB w A len cap bs) (n0 : -9223372036854775808 ≤ n) (n1 : n ≤ 9223372036854775807) (hs : s.size ≤ maxLen) :
    Calls Try.prog 3 #[.slice A len cap, .int .i64 n, .string s, .bool is] w fun e w' => e = .returned (.bool true) ∧ Below w.heap.size w w' := by
  have HA := Lib.hid hA
  have HF := Lib.hid (fewS_len s)
  have hf := fewS_len s
  clear hA
  go_enter Try.func3, Try.ntmps3
  go_wp2_with fail
  refine (few_bytes A len cap 8 bs _ HA.out (by decide)).mono ?_
  rintro e w1 ⟨⟨v1, rfl, hm1⟩, hb1⟩
  have hl : (bs.take 8).length ≤ 8 := by rw [List.length_take]; omega
  have HTake := Lib.hid (show bs.take 8 = bs.take 8 from rfl)
  obtain ⟨hds, hhds⟩ : ∃ hds, hds = bs.take 8 := ⟨_, rfl⟩
  rw [← hhds] at hm1 hl
  have HH := Lib.hid hhds
  have K1 := Lib.hid (show Kept w [(v1, hds)] A len cap bs w1 from ⟨hb1, HA.out.below hb1, fun p hp => by
    obtain rfl := List.mem_singleton.1 hp
    exact hm1.row.mono (Nat.zero_le _)⟩)
  clear hb1 hm1 hhds HTake
  go_wp2_with fail
  refine (few_any s 200 (by decide) _ hs).mono ?_
  rintro e wx ⟨rfl, rfl⟩
  generalize fewS s 200 = f at *
  go_wp2_with fail
  refine (number_put v1 hds 0 n _ K1.out.head (by omega) n0 n1).mono ?_
  rintro e w2 ⟨⟨g2, cap2, rfl, hg2, ho2⟩, hb2⟩
  have hNl : (digs (natI n)).length ≤ 9 := len_digs _ (natI_lt n n1)
  obtain ⟨ds, hds2⟩ : ∃ ds, ds = digs (natI n) := ⟨_, rfl⟩
  rw [← hds2] at ho2 hNl ⊢
  have HD := Lib.hid hds2
  clear hds2
  have hxl : (hds ++ ds).length = hds.length + ds.length := List.length_append
  have HX := Lib.hid (show strOf hds ++ strOf ds = strOf (hds ++ ds) from strOf_app _ _)
  obtain ⟨xs, hxs⟩ : ∃ xs, xs = hds ++ ds := ⟨_, rfl⟩
  rw [← hxs] at ho2 hxl HX ⊢
  have K2 := Lib.hid ((K1.out.later hb2).cons (ho2.row (lo := 0) (Nat.zero_le _)))
  have p1 : hds.length ≤ xs.length := by omega
  clear hb2 ho2 K1 hxs hxl
  go_wp2_with fail
  refine (text_put v1 hds 0 f _ K2.out.less.head (by omega) (by omega)).mono ?_
  rintro e w3 ⟨⟨g3, cap3, rfl, hg3, ho3⟩, hb3⟩
  have hTl := textB_len f
  have hDl := len_digs f.size (Nat.lt_of_le_of_lt hf (by decide))
  obtain ⟨ts, hts⟩ : ∃ ts, ts = textB f := ⟨_, rfl⟩
  rw [← hts] at ho3 hTl ⊢
  have HT := Lib.hid hts
  clear hts
  have hyl : (hds ++ ts).length = hds.length + ts.length := List.length_append
  have HY := Lib.hid (show strOf hds ++ strOf ts = strOf (hds ++ ts) from strOf_app _ _)
  obtain ⟨ys, hys⟩ : ∃ ys, ys = hds ++ ts := ⟨_, rfl⟩
  rw [← hys] at ho3 hyl HY ⊢
  have htl : ts.length ≤ 209 := by omega
  have K3 := Lib.hid ((K2.out.later hb3).cons (ho3.row (lo := 0) (Nat.zero_le _)))
  have p2 : hds.length ≤ ys.length := by omega
  clear hb3 ho3 K2 hys hTl hDl hyl
  go_wp2_with fail
  refine (flag_put v1 hds 0 is _ K3.out.less.less.head (by omega)).mono ?_
  rintro e w4 ⟨⟨g4, cap4, rfl, hg4, ho4⟩, hb4⟩
  obtain ⟨us, hus⟩ : ∃ us, us = flagB is := ⟨_, rfl⟩
  have hul : us.length = 1 := by rw [hus]; rfl
  rw [← hus] at ho4 ⊢
  have HU := Lib.hid hus
  clear hus
  have hzl : (hds ++ us).length = hds.length + us.length := List.length_append
  have HZ := Lib.hid (show strOf hds ++ strOf us = strOf (hds ++ us) from strOf_app _ _)
  obtain ⟨zs, hzs⟩ : ∃ zs, zs = hds ++ us := ⟨_, rfl⟩
  rw [← hzs] at ho4 hzl HZ ⊢
  have K4 := Lib.hid ((K3.out.later hb4).cons (ho4.row (lo := 0) (Nat.zero_le _)))
  have p3 : hds.length ≤ zs.length := by omega
  have p4 : us.length ≤ 1 := by omega
  clear hb4 ho4 K3 hzs hzl hul
  -- what each comes to as a text
  have C1 := Lib.hid (fun (W : World) (h : Row W 0 v1 hds) => conv_row h)
  have C2 := Lib.hid (fun (W : World) (h : Row W 0 (.slice (some ⟨g2, 0, none⟩) xs.length cap2) xs) => conv_row h)
  have C3 := Lib.hid (fun (W : World) (h : Row W 0 (.slice (some ⟨g3, 0, none⟩) ys.length cap3) ys) => conv_row h)
  have C4 := Lib.hid (fun (W : World) (h : Row W 0 (.slice (some ⟨g4, 0, none⟩) zs.length cap4) zs) => conv_row h)
  have s1 := strOf_size hds
  have s2 := strOf_size ds
  have s3 := strOf_size ts
  have s4 := strOf_size us
  have a1 := add_any (strOf hds) (strOf ds) (by omega) (by omega)
  have a2 := add_any (strOf hds) (strOf ts) (by omega) (by omega)
  have a3 := add_any (strOf hds) (strOf us) (by omega) (by omega)
  rw [HX.out] at a1
  rw [HY.out] at a2
  rw [HZ.out] at a3
  have D1 := Lib.hid (show ∀ (W : World) (v : Value), Row W 0 v ds → (convert 22 9 v).run Try.prog W = .ok (.string (strOf ds)) W from fun W v h => conv_row h)
  have D2 := Lib.hid (show ∀ (W : World) (v : Value), Row W 0 v ts → (convert 22 9 v).run Try.prog W = .ok (.string (strOf ts)) W from fun W v h => conv_row h)
  have D3 := Lib.hid (show ∀ (W : World) (v : Value), Row W 0 v us → (convert 22 9 v).run Try.prog W = .ok (.string (strOf us)) W from fun W v h => conv_row h)
  have D4 := Lib.hid (show ∀ (W : World) (v : Value), Row W 0 v hds → (convert 22 9 v).run Try.prog W = .ok (.string (strOf hds)) W from fun W v h => conv_row h)
  clear HX HY HZ s1 s2 s3 s4
  generalize strOf hds = sh at *
  generalize strOf xs = sx at *
  generalize strOf ys = sy at *
  generalize strOf zs = sz at *
  generalize strOf ds = sd at *
  generalize strOf ts = st at *
  generalize strOf us = su at *
  have q1 : decide ((xs.length : Int) < (hds.length : Int)) = false := decide_eq_false (by omega)
  have q2 : decide ((ys.length : Int) < (hds.length : Int)) = false := decide_eq_false (by omega)
  have q3 : decide ((zs.length : Int) < (hds.length : Int)) = false := decide_eq_false (by omega)
  obtain ⟨A1, c1, hv1, _⟩ := K4.out.less.less.less.head.shape
  have hv1 : v1 = .slice A1 hds.length c1 := hv1
  subst hv1
  have cc := C1.out _ K4.out.less.less.less.head
  go_wp2_with fail
  clear cc
  refine wp_region_held_drew (S := fun w' => Kept w [(.slice (some ⟨g4, 0, none⟩) zs.length cap4, zs), (.slice (some ⟨g3, 0, none⟩) ys.length cap3, ys), (.slice (some ⟨g2, 0, none⟩) xs.length cap2, xs), (.slice A1 hds.length c1, hds)] A len cap bs w') (by kernel_rfl) K4.out.drew (fun hHeld => ?_)
  clear K4
  refine wpAnyH_take (i := 0) (oi := ⟨some 48, _, _, _, _, _⟩) (v := ?v0) rfl (by kernel_rfl) (by kernel_rfl) (by kernel_rfl) (fun _ _ _ h => h) (Or.inl ⟨by rfl, ?y0⟩) hHeld ?r0
  case y0 =>
    intro wx hSx
    go_simp
    try with_reducible rfl
  try simp only [Act.put, List.setIfInBounds_toArray, List.set_cons_zero, List.set_cons_succ]
  refine wpAnyH_take (i := 1) (oi := ⟨some 49, _, _, _, _, _⟩) (v := ?v1) rfl (by kernel_rfl) (by kernel_rfl) (by kernel_rfl) (fun _ _ _ h => h) (Or.inl ⟨by rfl, ?y1⟩) hHeld ?r1
  case y1 =>
    intro wx hSx
    go_simp
    rw [C2.out wx hSx.less.less.head]; rfl
  try simp only [Act.put, List.setIfInBounds_toArray, List.set_cons_zero, List.set_cons_succ]
  refine wpAnyH_take (i := 2) (oi := ⟨some 50, _, _, _, _, _⟩) (v := ?v2) rfl (by kernel_rfl) (by kernel_rfl) (by kernel_rfl) (fun _ _ _ h => h) (Or.inl ⟨by rfl, ?y2⟩) hHeld ?r2
  case y2 =>
    intro wx hSx
    go_simp
    try with_reducible rfl
  try simp only [Act.put, List.setIfInBounds_toArray, List.set_cons_zero, List.set_cons_succ]
  refine wpAnyH_take (i := 3) (oi := ⟨some 51, _, _, _, _, _⟩) (v := ?v3) rfl (by kernel_rfl) (by kernel_rfl) (by kernel_rfl) (fun _ _ _ h => h) (Or.inl ⟨by rfl, ?y3⟩) hHeld ?r3
  case y3 =>
    intro wx hSx
    go_simp
    try with_reducible rfl
  try simp only [Act.put, List.setIfInBounds_toArray, List.set_cons_zero, List.set_cons_succ]
  refine wpAnyH_ready (rs := [4]) (by kernel_rfl) (by simp) ?_
  refine AllReadyH.cons (o := ⟨some 52, _, _, _, _, _⟩) rfl (fun K hK => ?_) AllReadyH.nil
  go_simp
  refine (refNumber_put n _ n0 n1).mono ?_
  rintro e wn4 ⟨⟨ga, capa, rfl, hga, hoa⟩, hb4⟩
  have hKeep4 := hHeld.later hb4
  have hNext4 := hKeep4.cons (show Row wn4 0 (.slice (some ⟨ga, 0, none⟩) ds.length capa) ds by rw [HD.out]; exact hoa.row (Nat.zero_le _))
  refine hK.out _ _ hKeep4 (fun hH => ?_)
  clear hK K hH hHeld hKeep4 hb4
  try simp only [Act.put, List.setIfInBounds_toArray, List.set_cons_zero, List.set_cons_succ]
  refine anyH_narrow (S' := fun w' => Kept w ((.slice (some ⟨ga, 0, none⟩) ds.length capa, ds) :: [(.slice (some ⟨g4, 0, none⟩) zs.length cap4, zs), (.slice (some ⟨g3, 0, none⟩) ys.length cap3, ys), (.slice (some ⟨g2, 0, none⟩) xs.length cap2, xs), (.slice A1 hds.length c1, hds)]) A len cap bs w') (fun _ h => h.less) _ _ _ _ ?_
  have hHeld := hNext4
  clear hNext4
  rw [← HD.out]
  refine wpAnyH_take (i := 5) (oi := ⟨some 53, _, _, _, _, _⟩) (v := ?v5) rfl (by kernel_rfl) (by kernel_rfl) (by kernel_rfl) (fun _ _ _ h => h) (Or.inl ⟨by rfl, ?y5⟩) hHeld ?r5
  case y5 =>
    intro wx hSx
    go_simp
    rw [D1.out wx _ hSx.head]; rfl
  try simp only [Act.put, List.setIfInBounds_toArray, List.set_cons_zero, List.set_cons_succ]
  refine wpAnyH_take (i := 6) (oi := ⟨some 54, _, _, _, _, _⟩) (v := ?v6) rfl (by kernel_rfl) (by kernel_rfl) (by kernel_rfl) (fun _ _ _ h => h) (Or.inl ⟨by rfl, ?y6⟩) hHeld ?r6
  case y6 =>
    intro wx hSx
    go_simp
    try with_reducible rfl
  try simp only [Act.put, List.setIfInBounds_toArray, List.set_cons_zero, List.set_cons_succ]
  refine wpAnyH_take (i := 7) (oi := ⟨some 55, _, _, _, _, _⟩) (v := ?v7) rfl (by kernel_rfl) (by kernel_rfl) (by kernel_rfl) (fun _ _ _ h => h) (Or.inl ⟨by rfl, ?y7⟩) hHeld ?r7
  case y7 =>
    intro wx hSx
    go_simp
    try with_reducible rfl
  try simp only [Act.put, List.setIfInBounds_toArray, List.set_cons_zero, List.set_cons_succ]
  refine wpAnyH_take (i := 8) (oi := ⟨some 56, _, _, _, _, _⟩) (v := ?v8) rfl (by kernel_rfl) (by kernel_rfl) (by kernel_rfl) (fun _ _ _ h => h) (Or.inl ⟨by rfl, ?y8⟩) hHeld ?r8
  case y8 =>
    intro wx hSx
    go_simp
    try with_reducible rfl
  try simp only [Act.put, List.setIfInBounds_toArray, List.set_cons_zero, List.set_cons_succ]
  refine wpAnyH_take (i := 9) (oi := ⟨some 57, _, _, _, _, _⟩) (v := ?v9) rfl (by kernel_rfl) (by kernel_rfl) (by kernel_rfl) (fun _ _ _ h => h) (Or.inl ⟨by rfl, ?y9⟩) hHeld ?r9
  case y9 =>
    intro wx hSx
    go_simp
    try with_reducible rfl
  try simp only [Act.put, List.setIfInBounds_toArray, List.set_cons_zero, List.set_cons_succ]
  refine wpAnyH_take (i := 10) (oi := ⟨some 58, _, _, _, _, _⟩) (v := ?v10) rfl (by kernel_rfl) (by kernel_rfl) (by kernel_rfl) (fun _ _ _ h => h) (Or.inl ⟨by rfl, ?y10⟩) hHeld ?r10
  case y10 =>
    intro wx hSx
    go_simp
    rw [C3.out wx hSx.less.less.head]; rfl
  try simp only [Act.put, List.setIfInBounds_toArray, List.set_cons_zero, List.set_cons_succ]
  refine wpAnyH_take (i := 11) (oi := ⟨some 59, _, _, _, _, _⟩) (v := ?v11) rfl (by kernel_rfl) (by kernel_rfl) (by kernel_rfl) (fun _ _ _ h => h) (Or.inl ⟨by rfl, ?y11⟩) hHeld ?r11
  case y11 =>
    intro wx hSx
    go_simp
    try with_reducible rfl
  try simp only [Act.put, List.setIfInBounds_toArray, List.set_cons_zero, List.set_cons_succ]
  refine wpAnyH_take (i := 12) (oi := ⟨some 60, _, _, _, _, _⟩) (v := ?v12) rfl (by kernel_rfl) (by kernel_rfl) (by kernel_rfl) (fun _ _ _ h => h) (Or.inl ⟨by rfl, ?y12⟩) hHeld ?r12
  case y12 =>
    intro wx hSx
    go_simp
    try with_reducible rfl
  try simp only [Act.put, List.setIfInBounds_toArray, List.set_cons_zero, List.set_cons_succ]
  refine wpAnyH_ready (rs := [13]) (by kernel_rfl) (by simp) ?_
  refine AllReadyH.cons (o := ⟨some 61, _, _, _, _, _⟩) rfl (fun K hK => ?_) AllReadyH.nil
  go_simp
  refine (refText_put f _ (by omega)).mono ?_
  rintro e wn13 ⟨⟨gb, capb, rfl, hgb, hob⟩, hb13⟩
  have hKeep13 := hHeld.later hb13
  have hNext13 := hKeep13.cons (show Row wn13 0 (.slice (some ⟨gb, 0, none⟩) ts.length capb) ts by rw [HT.out]; exact hob.row (Nat.zero_le _))
  refine hK.out _ _ hKeep13 (fun hH => ?_)
  clear hK K hH hHeld hKeep13 hb13
  try simp only [Act.put, List.setIfInBounds_toArray, List.set_cons_zero, List.set_cons_succ]
  refine anyH_narrow (S' := fun w' => Kept w ((.slice (some ⟨gb, 0, none⟩) ts.length capb, ts) :: (.slice (some ⟨ga, 0, none⟩) ds.length capa, ds) :: [(.slice (some ⟨g4, 0, none⟩) zs.length cap4, zs), (.slice (some ⟨g3, 0, none⟩) ys.length cap3, ys), (.slice (some ⟨g2, 0, none⟩) xs.length cap2, xs), (.slice A1 hds.length c1, hds)]) A len cap bs w') (fun _ h => h.less) _ _ _ _ ?_
  have hHeld := hNext13
  clear hNext13
  rw [← HT.out]
  refine wpAnyH_take (i := 14) (oi := ⟨some 62, _, _, _, _, _⟩) (v := ?v14) rfl (by kernel_rfl) (by kernel_rfl) (by kernel_rfl) (fun _ _ _ h => h) (Or.inl ⟨by rfl, ?y14⟩) hHeld ?r14
  case y14 =>
    intro wx hSx
    go_simp
    rw [D2.out wx _ hSx.head]; rfl
  try simp only [Act.put, List.setIfInBounds_toArray, List.set_cons_zero, List.set_cons_succ]
  refine wpAnyH_take (i := 15) (oi := ⟨some 63, _, _, _, _, _⟩) (v := ?v15) rfl (by kernel_rfl) (by kernel_rfl) (by kernel_rfl) (fun _ _ _ h => h) (Or.inl ⟨by rfl, ?y15⟩) hHeld ?r15
  case y15 =>
    intro wx hSx
    go_simp
    try with_reducible rfl
  try simp only [Act.put, List.setIfInBounds_toArray, List.set_cons_zero, List.set_cons_succ]
  refine wpAnyH_take (i := 16) (oi := ⟨some 64, _, _, _, _, _⟩) (v := ?v16) rfl (by kernel_rfl) (by kernel_rfl) (by kernel_rfl) (fun _ _ _ h => h) (Or.inl ⟨by rfl, ?y16⟩) hHeld ?r16
  case y16 =>
    intro wx hSx
    go_simp
    try with_reducible rfl
  try simp only [Act.put, List.setIfInBounds_toArray, List.set_cons_zero, List.set_cons_succ]
  refine wpAnyH_take (i := 17) (oi := ⟨some 65, _, _, _, _, _⟩) (v := ?v17) rfl (by kernel_rfl) (by kernel_rfl) (by kernel_rfl) (fun _ _ _ h => h) (Or.inl ⟨by rfl, ?y17⟩) hHeld ?r17
  case y17 =>
    intro wx hSx
    go_simp
    try with_reducible rfl
  try simp only [Act.put, List.setIfInBounds_toArray, List.set_cons_zero, List.set_cons_succ]
  refine wpAnyH_take (i := 18) (oi := ⟨some 66, _, _, _, _, _⟩) (v := ?v18) rfl (by kernel_rfl) (by kernel_rfl) (by kernel_rfl) (fun _ _ _ h => h) (Or.inl ⟨by rfl, ?y18⟩) hHeld ?r18
  case y18 =>
    intro wx hSx
    go_simp
    try with_reducible rfl
  try simp only [Act.put, List.setIfInBounds_toArray, List.set_cons_zero, List.set_cons_succ]
  refine wpAnyH_take (i := 19) (oi := ⟨some 67, _, _, _, _, _⟩) (v := ?v19) rfl (by kernel_rfl) (by kernel_rfl) (by kernel_rfl) (fun _ _ _ h => h) (Or.inl ⟨by rfl, ?y19⟩) hHeld ?r19
  case y19 =>
    intro wx hSx
    go_simp
    try with_reducible rfl
  try simp only [Act.put, List.setIfInBounds_toArray, List.set_cons_zero, List.set_cons_succ]
  refine wpAnyH_take (i := 20) (oi := ⟨some 68, _, _, _, _, _⟩) (v := ?v20) rfl (by kernel_rfl) (by kernel_rfl) (by kernel_rfl) (fun _ _ _ h => h) (Or.inl ⟨by rfl, ?y20⟩) hHeld ?r20
  case y20 =>
    intro wx hSx
    go_simp
    rw [C4.out wx hSx.less.less.head]; rfl
  try simp only [Act.put, List.setIfInBounds_toArray, List.set_cons_zero, List.set_cons_succ]
  refine wpAnyH_take (i := 21) (oi := ⟨some 69, _, _, _, _, _⟩) (v := ?v21) rfl (by kernel_rfl) (by kernel_rfl) (by kernel_rfl) (fun _ _ _ h => h) (Or.inl ⟨by rfl, ?y21⟩) hHeld ?r21
  case y21 =>
    intro wx hSx
    go_simp
    try with_reducible rfl
  try simp only [Act.put, List.setIfInBounds_toArray, List.set_cons_zero, List.set_cons_succ]
  refine wpAnyH_take (i := 22) (oi := ⟨some 70, _, _, _, _, _⟩) (v := ?v22) rfl (by kernel_rfl) (by kernel_rfl) (by kernel_rfl) (fun _ _ _ h => h) (Or.inl ⟨by rfl, ?y22⟩) hHeld ?r22
  case y22 =>
    intro wx hSx
    go_simp
    try with_reducible rfl
  try simp only [Act.put, List.setIfInBounds_toArray, List.set_cons_zero, List.set_cons_succ]
  refine wpAnyH_ready (rs := [23]) (by kernel_rfl) (by simp) ?_
  refine AllReadyH.cons (o := ⟨some 71, _, _, _, _, _⟩) rfl (fun K hK => ?_) AllReadyH.nil
  go_simp
  refine (refFlag_put is _).mono ?_
  rintro e wn23 ⟨⟨gc, capc, rfl, hgc, hoc⟩, hb23⟩
  have hKeep23 := hHeld.later hb23
  have hNext23 := hKeep23.cons (show Row wn23 0 (.slice (some ⟨gc, 0, none⟩) us.length capc) us by rw [HU.out]; exact hoc.row (Nat.zero_le _))
  refine hK.out _ _ hKeep23 (fun hH => ?_)
  clear hK K hH hHeld hKeep23 hb23
  try simp only [Act.put, List.setIfInBounds_toArray, List.set_cons_zero, List.set_cons_succ]
  refine anyH_narrow (S' := fun w' => Kept w ((.slice (some ⟨gc, 0, none⟩) us.length capc, us) :: (.slice (some ⟨gb, 0, none⟩) ts.length capb, ts) :: (.slice (some ⟨ga, 0, none⟩) ds.length capa, ds) :: [(.slice (some ⟨g4, 0, none⟩) zs.length cap4, zs), (.slice (some ⟨g3, 0, none⟩) ys.length cap3, ys), (.slice (some ⟨g2, 0, none⟩) xs.length cap2, xs), (.slice A1 hds.length c1, hds)]) A len cap bs w') (fun _ h => h.less) _ _ _ _ ?_
  have hHeld := hNext23
  clear hNext23
  rw [← HU.out]
  refine wpAnyH_take (i := 24) (oi := ⟨some 72, _, _, _, _, _⟩) (v := ?v24) rfl (by kernel_rfl) (by kernel_rfl) (by kernel_rfl) (fun _ _ _ h => h) (Or.inl ⟨by rfl, ?y24⟩) hHeld ?r24
  case y24 =>
    intro wx hSx
    go_simp
    rw [D3.out wx _ hSx.head]; rfl
  try simp only [Act.put, List.setIfInBounds_toArray, List.set_cons_zero, List.set_cons_succ]
  refine wpAnyH_take (i := 25) (oi := ⟨some 73, _, _, _, _, _⟩) (v := ?v25) rfl (by kernel_rfl) (by kernel_rfl) (by kernel_rfl) (fun _ _ _ h => h) (Or.inl ⟨by rfl, ?y25⟩) hHeld ?r25
  case y25 =>
    intro wx hSx
    go_simp
    try with_reducible rfl
  try simp only [Act.put, List.setIfInBounds_toArray, List.set_cons_zero, List.set_cons_succ]
  refine wpAnyH_take (i := 26) (oi := ⟨some 74, _, _, _, _, _⟩) (v := ?v26) rfl (by kernel_rfl) (by kernel_rfl) (by kernel_rfl) (fun _ _ _ h => h) (Or.inl ⟨by rfl, ?y26⟩) hHeld ?r26
  case y26 =>
    intro wx hSx
    go_simp
    try with_reducible rfl
  try simp only [Act.put, List.setIfInBounds_toArray, List.set_cons_zero, List.set_cons_succ]
  refine wpAnyH_take (i := 27) (oi := ⟨some 75, _, _, _, _, _⟩) (v := ?v27) rfl (by kernel_rfl) (by kernel_rfl) (by kernel_rfl) (fun _ _ _ h => h) (Or.inl ⟨by rfl, ?y27⟩) hHeld ?r27
  case y27 =>
    intro wx hSx
    go_simp
    try with_reducible rfl
  try simp only [Act.put, List.setIfInBounds_toArray, List.set_cons_zero, List.set_cons_succ]
  refine wpAnyH_take (i := 28) (oi := ⟨some 76, _, _, _, _, _⟩) (v := ?v28) rfl (by kernel_rfl) (by kernel_rfl) (by kernel_rfl) (fun _ _ _ h => h) (Or.inl ⟨by rfl, ?y28⟩) hHeld ?r28
  case y28 =>
    intro wx hSx
    go_simp
    try with_reducible rfl
  try simp only [Act.put, List.setIfInBounds_toArray, List.set_cons_zero, List.set_cons_succ]
  refine wpAnyH_take (i := 29) (oi := ⟨some 77, _, _, _, _, _⟩) (v := ?v29) rfl (by kernel_rfl) (by kernel_rfl) (by kernel_rfl) (fun _ _ _ h => h) (Or.inl ⟨by rfl, ?y29⟩) hHeld ?r29
  case y29 =>
    intro wx hSx
    go_simp
    try with_reducible rfl
  try simp only [Act.put, List.setIfInBounds_toArray, List.set_cons_zero, List.set_cons_succ]
  refine wpAnyH_take (i := 30) (oi := ⟨some 78, _, _, _, _, _⟩) (v := ?v30) rfl (by kernel_rfl) (by kernel_rfl) (by kernel_rfl) (fun _ _ _ h => h) (Or.inl ⟨by rfl, ?y30⟩) hHeld ?r30
  case y30 =>
    intro wx hSx
    go_simp
    rw [C1.out wx hSx.less.less.less.less.less.less.head]; rfl
  try simp only [Act.put, List.setIfInBounds_toArray, List.set_cons_zero, List.set_cons_succ]
  refine wpAnyH_take (i := 31) (oi := ⟨some 79, _, _, _, _, _⟩) (v := ?v31) rfl (by kernel_rfl) (by kernel_rfl) (by kernel_rfl) (fun _ _ _ h => h) (Or.inl ⟨by rfl, ?y31⟩) hHeld ?r31
  case y31 =>
    intro wx hSx
    go_simp
    try with_reducible rfl
  try simp only [Act.put, List.setIfInBounds_toArray, List.set_cons_zero, List.set_cons_succ]
  refine wpAnyH_ready (rs := [32]) (by kernel_rfl) (by simp) ?_
  refine AllReadyH.cons (o := ⟨some 80, _, _, _, _, _⟩) rfl (fun K hK => ?_) AllReadyH.nil
  go_simp
  refine (few_bytes A len cap 8 bs _ hHeld.2.1 (by decide)).mono ?_
  rintro e wn32 ⟨⟨vd, rfl, hmd⟩, hb32⟩
  have hKeep32 := hHeld.later hb32
  have hNext32 := hKeep32.cons (show Row wn32 0 vd hds by rw [HH.out]; exact hmd.row.mono (Nat.zero_le _))
  refine hK.out _ _ hKeep32 (fun hH => ?_)
  clear hK K hH hHeld hKeep32 hb32
  try simp only [Act.put, List.setIfInBounds_toArray, List.set_cons_zero, List.set_cons_succ]
  refine anyH_narrow (S' := fun w' => Kept w ((vd, hds) :: (.slice (some ⟨gc, 0, none⟩) us.length capc, us) :: (.slice (some ⟨gb, 0, none⟩) ts.length capb, ts) :: (.slice (some ⟨ga, 0, none⟩) ds.length capa, ds) :: [(.slice (some ⟨g4, 0, none⟩) zs.length cap4, zs), (.slice (some ⟨g3, 0, none⟩) ys.length cap3, ys), (.slice (some ⟨g2, 0, none⟩) xs.length cap2, xs), (.slice A1 hds.length c1, hds)]) A len cap bs w') (fun _ h => h.less) _ _ _ _ ?_
  have hHeld := hNext32
  clear hNext32
  refine wpAnyH_take (i := 33) (oi := ⟨some 81, _, _, _, _, _⟩) (v := ?v33) rfl (by kernel_rfl) (by kernel_rfl) (by kernel_rfl) (fun _ _ _ h => h) (Or.inl ⟨by rfl, ?y33⟩) hHeld ?r33
  case y33 =>
    intro wx hSx
    go_simp
    rw [D4.out wx _ hSx.head]; rfl
  try simp only [Act.put, List.setIfInBounds_toArray, List.set_cons_zero, List.set_cons_succ]
  refine wpAnyH_take (i := 34) (oi := ⟨some 82, _, _, _, _, _⟩) (v := ?v34) rfl (by kernel_rfl) (by kernel_rfl) (by kernel_rfl) (fun _ _ _ h => h) (Or.inl ⟨by rfl, ?y34⟩) hHeld ?r34
  case y34 =>
    intro wx hSx
    go_simp
    try with_reducible rfl
  try simp only [Act.put, List.setIfInBounds_toArray, List.set_cons_zero, List.set_cons_succ]
  refine wpAnyH_take (i := 35) (oi := ⟨some 83, _, _, _, _, _⟩) (v := ?v35) rfl (by kernel_rfl) (by kernel_rfl) (by kernel_rfl) (fun _ _ _ h => h) (Or.inl ⟨by rfl, ?y35⟩) hHeld ?r35
  case y35 =>
    intro wx hSx
    go_simp
    try with_reducible rfl
  try simp only [Act.put, List.setIfInBounds_toArray, List.set_cons_zero, List.set_cons_succ]
  refine wpAnyH_take (i := 36) (oi := ⟨some 84, _, _, _, _, _⟩) (v := ?v36) rfl (by kernel_rfl) (by kernel_rfl) (by kernel_rfl) (fun _ _ _ h => h) (Or.inl ⟨by rfl, ?y36⟩) hHeld ?r36
  case y36 =>
    intro wx hSx
    go_simp
    try with_reducible rfl
  try simp only [Act.put, List.setIfInBounds_toArray, List.set_cons_zero, List.set_cons_succ]
  refine wpAnyH_ready (rs := [37]) (by kernel_rfl) (by simp) ?_
  refine AllReadyH.cons (o := ⟨some 85, _, _, _, _, _⟩) rfl (fun K hK => ?_) AllReadyH.nil
  go_simp
  refine (lives_any _).mono ?_
  rintro e wn37 ⟨rfl, hb37⟩
  have hKeep37 := hHeld.later hb37
  refine hK.out _ _ hKeep37 (fun hH => ?_)
  clear hK K hH hHeld hb37
  try simp only [Act.put, List.setIfInBounds_toArray, List.set_cons_zero, List.set_cons_succ]
  have hHeld := hKeep37
  clear hKeep37
  refine wpAnyH_take (i := 38) (oi := ⟨some 86, _, _, _, _, _⟩) (v := ?v38) rfl (by kernel_rfl) (by kernel_rfl) (by kernel_rfl) (fun _ _ _ h => h) (Or.inl ⟨by rfl, ?y38⟩) hHeld ?r38
  case y38 =>
    intro wx hSx
    go_simp
    try with_reducible rfl
  try simp only [Act.put, List.setIfInBounds_toArray, List.set_cons_zero, List.set_cons_succ]
  refine wpAnyH_take (i := 39) (oi := ⟨some 8, _, _, _, _, _⟩) (v := ?v39) rfl (by kernel_rfl) (by kernel_rfl) (by kernel_rfl) (fun _ _ _ h => h) (Or.inl ⟨by rfl, ?y39⟩) hHeld ?r39
  case y39 =>
    intro wx hSx
    go_simp
    try with_reducible rfl
  try simp only [Act.put, List.setIfInBounds_toArray, List.set_cons_zero, List.set_cons_succ]
  refine wpAnyH_done (by kernel_rfl) ?_ _
  have HK := Lib.hid hHeld.1
  clear hHeld
  go_wp2_with fail
  go_ret
  exact ⟨rfl, HK.out⟩
end Go.Proofs.Ytkedbaknjekoaaa
