/-
  Package parcel: Answer; the document's conversions and example, walked.
-/
import Derived.Test.YtnabbebkmafakaaPSame
namespace Go.Proofs.Ytnabbebkmafakaa
set_option maxRecDepth 20000
open Go.RowKit
set_option linter.unusedVariables false
set_option linter.unusedSimpArgs false

/-- A box, and the cell of what is answered. -/
def BoxR (w : World) (box : Array Value) (t t' : TypeId) (w' : World) : Prop := Below w.heap.size w w' ∧ w'.heap[w.heap.size]? = some (.cells box t (0, 0)) ∧ ∃ X : Array Value, X.size = 5 ∧ w'.heap[w.heap.size + 1]? = some (.cells X t' (0, 0))
theorem BoxR.later {w w' w'' : World} {box : Array Value} {t t' : TypeId} (h : BoxR w box t t' w') (hb : Below w'.heap.size w' w'') : BoxR w box t t' w'' := by
  obtain ⟨h1, h2, X, hX, h3⟩ := h
  exact ⟨Go.Proofs.Ytnabbebkmafakaa.later h1 hb, (hb.block _ (heap_lt h2)).trans h2, X, hX, (hb.block _ (heap_lt h3)).trans h3⟩
theorem BoxR.drew {w w' : World} {box : Array Value} {t t' : TypeId} (h : BoxR w box t t' w') : BoxR w box t t' w'.drew := ⟨h.1.drew, h.2⟩
theorem BoxR.new (w : World) (a b : Array Value) (t t' : TypeId) (hb : b.size = 5) : BoxR w a t t' ((w.alloc (.cells a t)).alloc (.cells b t')) :=
  ⟨Go.Proofs.Ytnabbebkmafakaa.later (below_new w _) (below_new _ _), heap_alloc2_old w _ _, b, hb, heap_alloc2_new w _ _⟩
theorem BoxR.set {w w' : World} {box : Array Value} {t t' : TypeId} (h : BoxR w box t t' w') (Y : Array Value) (hY : Y.size = 5) : BoxR w box t t' (w'.setRow (w.heap.size + 1) Y) := by
  obtain ⟨h1, h2, X, hX, h3⟩ := h
  exact ⟨below_setRow h1 (by omega) _, by rw [setRow_other _ _ _ _ (by omega)]; exact h2, Y, hY, setRow_heap _ _ _ _ _ _ h3⟩

set_option maxHeartbeats 1600000 in
theorem answerPar_any (ack : Bool) (frm dest : ByteArray) (id : Int) (S : Value) (w : World) (hf : frm.size ≤ 1000) (hd : dest.size ≤ 1000) (hS : ∃ A n c, S = .slice A n c) :
    Calls Try.prog 21 #[.agg #[.bool ack, .string frm, .string dest, .int .i64 id, S]] w fun e w' => e = .returned (.agg #[.bool true, .string dest, .string frm, .int .i64 id, .slice none 0 0]) ∧ Below w.heap.size w w' := by
  obtain ⟨A, n, c, rfl⟩ := hS
  have HF := Lib.hid (fun w => clone_any frm w (by omega))
  have HD := Lib.hid (fun w => clone_any dest w (by omega))
  clear hf hd
  have HT := Lib.hid (BoxR.new w #[.bool ack, .string frm, .string dest, .int .i64 id, .slice A n c] #[.bool false, .string ⟨#[]⟩, .string ⟨#[]⟩, .int .i64 0, .slice none 0 0] 33 33 rfl)
  go_enter Try.func21, Try.ntmps21
  go_upto_region 1 with (fail)
  generalize hW : (w.alloc _).alloc _ = W at *
  clear hW
  refine wp_region_held_drew (S := fun w' => BoxR w #[.bool ack, .string frm, .string dest, .int .i64 id, .slice A n c] 33 33 w') (by kernel_rfl) HT.out.drew (fun hHeld => ?_)
  generalize hwd : W.drew = wd at hHeld ⊢
  clear HT hwd
  refine wpAnyH_take (i := 0) (oi := ⟨some 3, _, _, _, _, _⟩) (v := ?vz1) rfl (by kernel_rfl) (by kernel_rfl) (by kernel_rfl) (fun _ _ _ h => h) (Or.inl ⟨by rfl, ?yz1⟩) hHeld ?rz1
  case yz1 =>
    intro wx hSx
    go_simp
    try with_reducible rfl
  try simp only [Act.put, List.setIfInBounds_toArray, List.set_cons_zero, List.set_cons_succ]
  refine wpAnyH_take (i := 1) (oi := ⟨some 4, _, _, _, _, _⟩) (v := ?vz2) rfl (by kernel_rfl) (by kernel_rfl) (by kernel_rfl) (fun _ _ _ h => h) (Or.inl ⟨by rfl, ?yz2⟩) hHeld ?rz2
  case yz2 =>
    intro wx hSx
    obtain ⟨d0, d1, d2, d3, d4⟩ := cells5p hSx.2.1
    go_simp
    try with_reducible rfl
  try simp only [Act.put, List.setIfInBounds_toArray, List.set_cons_zero, List.set_cons_succ]
  refine wpAnyH_take (i := 3) (oi := ⟨some 6, _, _, _, _, _⟩) (v := ?vz3) rfl (by kernel_rfl) (by kernel_rfl) (by kernel_rfl) (fun _ _ _ h => h) (Or.inl ⟨by rfl, ?yz3⟩) hHeld ?rz3
  case yz3 =>
    intro wx hSx
    go_simp
    try with_reducible rfl
  try simp only [Act.put, List.setIfInBounds_toArray, List.set_cons_zero, List.set_cons_succ]
  refine wpAnyH_take (i := 4) (oi := ⟨some 7, _, _, _, _, _⟩) (v := ?vz4) rfl (by kernel_rfl) (by kernel_rfl) (by kernel_rfl) (fun _ _ _ h => h) (Or.inl ⟨by rfl, ?yz4⟩) hHeld ?rz4
  case yz4 =>
    intro wx hSx
    obtain ⟨d0, d1, d2, d3, d4⟩ := cells5p hSx.2.1
    go_simp
    try with_reducible rfl
  try simp only [Act.put, List.setIfInBounds_toArray, List.set_cons_zero, List.set_cons_succ]
  refine wpAnyH_take (i := 6) (oi := ⟨some 9, _, _, _, _, _⟩) (v := ?vz5) rfl (by kernel_rfl) (by kernel_rfl) (by kernel_rfl) (fun _ _ _ h => h) (Or.inl ⟨by rfl, ?yz5⟩) hHeld ?rz5
  case yz5 =>
    intro wx hSx
    go_simp
    try with_reducible rfl
  try simp only [Act.put, List.setIfInBounds_toArray, List.set_cons_zero, List.set_cons_succ]
  refine wpAnyH_take (i := 7) (oi := ⟨some 10, _, _, _, _, _⟩) (v := ?vz6) rfl (by kernel_rfl) (by kernel_rfl) (by kernel_rfl) (fun _ _ _ h => h) (Or.inl ⟨by rfl, ?yz6⟩) hHeld ?rz6
  case yz6 =>
    intro wx hSx
    obtain ⟨d0, d1, d2, d3, d4⟩ := cells5p hSx.2.1
    go_simp
    try with_reducible rfl
  try simp only [Act.put, List.setIfInBounds_toArray, List.set_cons_zero, List.set_cons_succ]
  refine wpAnyH_ready (rs := [2]) (by kernel_rfl) (by simp) ?_
  refine AllReadyH.cons (o := ⟨some 5, _, _, _, _, _⟩) rfl (fun K hK => ?_) AllReadyH.nil
  go_simp
  refine (HD.out _).mono ?_
  rintro e w2 ⟨rfl, hbn⟩
  replace hHeld := hHeld.later hbn
  refine hK.out _ _ hHeld (fun _ => ?_)
  clear hK K hbn
  try simp only [Act.put, List.setIfInBounds_toArray, List.set_cons_zero, List.set_cons_succ]
  refine wpAnyH_ready (rs := [5]) (by kernel_rfl) (by simp) ?_
  refine AllReadyH.cons (o := ⟨some 8, _, _, _, _, _⟩) rfl (fun K hK => ?_) AllReadyH.nil
  go_simp
  refine (HF.out _).mono ?_
  rintro e w5 ⟨rfl, hbn⟩
  replace hHeld := hHeld.later hbn
  refine hK.out _ _ hHeld (fun _ => ?_)
  clear hK K hbn
  try simp only [Act.put, List.setIfInBounds_toArray, List.set_cons_zero, List.set_cons_succ]
  refine wpAnyH_take (i := 8) (oi := ⟨some 11, _, _, _, _, _⟩) (v := ?vz7) rfl (by kernel_rfl) (by kernel_rfl) (by kernel_rfl) (fun _ _ _ h => h) (Or.inl ⟨by rfl, ?yz7⟩) hHeld ?rz7
  case yz7 =>
    intro wx hSx
    go_simp
    try with_reducible rfl
  try simp only [Act.put, List.setIfInBounds_toArray, List.set_cons_zero, List.set_cons_succ]
  refine wpAnyH_ready (rs := [9]) (by kernel_rfl) (by simp) ?_
  refine AllReadyH.cons (o := ⟨none, _, _, _, _, _⟩) rfl (fun K hK => ?_) AllReadyH.nil
  obtain ⟨X, hX, hx3⟩ := hHeld.2.2
  have Hset := Lib.hid (setRow_heap _ _ _ #[.bool true, .string dest, .string frm, .int .i64 id, .slice none 0 0] _ _ hx3)
  have hH2 := hHeld.set #[.bool true, .string dest, .string frm, .int .i64 id, .slice none 0 0] rfl
  rw [if_pos (by rfl)]
  refine wp_store_row 33 (.tmp 2) (.tmp 11) rfl (w.heap.size + 1) #[.bool true, .string dest, .string frm, .int .i64 id, .slice none 0 0] rfl rfl 33 X hx3 par_size (hX.trans rfl) (one5 _ _ _ _ _ _ _) ?_
  refine hK.out _ _ hH2 (fun _ => ?_)
  clear hK K
  try simp only [Act.put, List.setIfInBounds_toArray, List.set_cons_zero, List.set_cons_succ]
  refine wpAnyH_done (by kernel_rfl) ?_ _
  have HB := Lib.hid hH2.1
  clear hHeld hH2 hx3
  generalize hW2 : World.setRow _ _ _ = W3 at Hset HB ⊢
  clear hW2
  obtain ⟨d0, d1, d2, d3, d4⟩ := cells5p Hset.out
  go_wp2_with fail
  refine bodyPost_ret (v := .agg #[.bool true, .string dest, .string frm, .int .i64 id, .slice none 0 0]) ?_ rfl ⟨rfl, HB.out⟩
  simp [results, Try.results21, go_sem, d0, d1, d2, d3, d4]
theorem parR_size : (Try.prog.info? 24).map (·.size) = some 5 := by kernel_rfl

set_option maxHeartbeats 800000 in
theorem of_par (ack : Bool) (frm dest : ByteArray) (id : Int) (A : Option Addr) (n c : Nat) (w : World) :
    Calls Try.prog 13 #[.agg #[.bool ack, .string frm, .string dest, .int .i64 id, .slice A n c]] w fun e w' => e = .returned (.agg #[.bool ack, .string frm, .string dest, .int .i64 id, .slice A n c]) ∧ Below w.heap.size w w' := by
  have HT := Lib.hid (BoxR.new w #[.bool ack, .string frm, .string dest, .int .i64 id, .slice A n c] #[.bool false, .string ⟨#[]⟩, .string ⟨#[]⟩, .int .i64 0, .slice none 0 0] 24 33 rfl)
  go_enter Try.func13, Try.ntmps13
  go_upto_region 1 with (fail)
  generalize hW : (w.alloc _).alloc _ = W at *
  clear hW
  obtain ⟨d0, d1, d2, d3, d4⟩ := cells5p HT.out.2.1
  obtain ⟨X, hX, hx3⟩ := HT.out.2.2
  have Hset := Lib.hid (setRow_heap _ _ _ #[.bool ack, .string frm, .string dest, .int .i64 id, .slice A n c] _ _ hx3)
  have HB := Lib.hid (HT.out.set #[.bool ack, .string frm, .string dest, .int .i64 id, .slice A n c] rfl).1
  replace hx3 := Lib.hid hx3
  go_wp2_with (refine wpList_store_row rfl 33 (.tmp 2) (.tmp 3) rfl (w.heap.size + 1) #[.bool ack, .string frm, .string dest, .int .i64 id, .slice A n c] rfl rfl 33 X hx3.out par_size (hX.trans rfl) (one5 _ _ _ _ _ _ _) ?_)
  generalize hW2 : World.setRow _ _ _ = W3 at Hset HB ⊢
  clear hW2 d0 d1 d2 d3 d4
  obtain ⟨d0, d1, d2, d3, d4⟩ := cells5p Hset.out
  go_wp2_with fail
  refine bodyPost_ret (v := .agg #[.bool ack, .string frm, .string dest, .int .i64 id, .slice A n c]) ?_ rfl ⟨rfl, HB.out⟩
  simp [results, Try.results13, go_sem, d0, d1, d2, d3, d4]

set_option maxHeartbeats 800000 in
theorem as_par (ack : Bool) (frm dest : ByteArray) (id : Int) (A : Option Addr) (n c : Nat) (w : World) :
    Calls Try.prog 20 #[.agg #[.bool ack, .string frm, .string dest, .int .i64 id, .slice A n c]] w fun e w' => e = .returned (.agg #[.bool ack, .string frm, .string dest, .int .i64 id, .slice A n c]) ∧ Below w.heap.size w w' := by
  have HT := Lib.hid (BoxR.new w #[.bool ack, .string frm, .string dest, .int .i64 id, .slice A n c] #[.bool false, .string ⟨#[]⟩, .string ⟨#[]⟩, .int .i64 0, .slice none 0 0] 33 24 rfl)
  go_enter Try.func20, Try.ntmps20
  go_upto_region 1 with (fail)
  generalize hW : (w.alloc _).alloc _ = W at *
  clear hW
  obtain ⟨d0, d1, d2, d3, d4⟩ := cells5p HT.out.2.1
  obtain ⟨X, hX, hx3⟩ := HT.out.2.2
  have Hset := Lib.hid (setRow_heap _ _ _ #[.bool ack, .string frm, .string dest, .int .i64 id, .slice A n c] _ _ hx3)
  have HB := Lib.hid (HT.out.set #[.bool ack, .string frm, .string dest, .int .i64 id, .slice A n c] rfl).1
  replace hx3 := Lib.hid hx3
  go_wp2_with (refine wpList_store_row rfl 24 (.tmp 2) (.tmp 3) rfl (w.heap.size + 1) #[.bool ack, .string frm, .string dest, .int .i64 id, .slice A n c] rfl rfl 24 X hx3.out parR_size (hX.trans rfl) (one5 _ _ _ _ _ _ _) ?_)
  generalize hW2 : World.setRow _ _ _ = W3 at Hset HB ⊢
  clear hW2 d0 d1 d2 d3 d4
  obtain ⟨d0, d1, d2, d3, d4⟩ := cells5p Hset.out
  go_wp2_with fail
  refine bodyPost_ret (v := .agg #[.bool ack, .string frm, .string dest, .int .i64 id, .slice A n c]) ?_ rfl ⟨rfl, HB.out⟩
  simp [results, Try.results20, go_sem, d0, d1, d2, d3, d4]

def exP : Par := ⟨true, ⟨#[97]⟩, ⟨#[98]⟩, 3, []⟩
theorem exP_may : mayP exP = true := by decide +kernel
theorem exP_bytes : bytesP exP = [1, 1, 97, 1, 98, 3, 0] := by decide +kernel
set_option maxHeartbeats 800000 in
theorem lives4_any (w : World) : Calls Try.prog 16 #[] w fun e w' => e = .returned (.bool true) ∧ Below w.heap.size w w' := by
  have HW := Lib.hid (fun w => writePar_yes exP none 0 w ⟨rfl, (fun e he => (List.not_mem_nil he).elim), fun h => absurd h (Nat.lt_irrefl 0)⟩ exP_may)
  simp only [exP_bytes] at HW
  simp only [exP, List.length_nil] at HW
  go_enter Try.func16, Try.ntmps16
  go_wp2_with fail
  refine (HW.out _).mono ?_
  rintro e w1 ⟨⟨g, cap, rfl, hg, ho⟩, hb⟩
  have HB := Lib.hid hb
  have cc := conv_row (ho.row (lo := 0) (Nat.zero_le _))
  simp only [List.length_cons, List.length_nil, Nat.reduceAdd] at cc ⊢
  have q : (strOf [1, 1, 97, 1, 98, 3, 0]) = ⟨#[1, 1, 97, 1, 98, 3, 0]⟩ := rfl
  rw [q] at cc
  clear hb ho hg HW
  go_wp2_with fail
  go_ret
  exact ⟨rfl, HB.out⟩
end Go.Proofs.Ytnabbebkmafakaa
