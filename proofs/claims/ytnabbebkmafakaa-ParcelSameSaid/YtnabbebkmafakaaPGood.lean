/-
  The document's Good of a parcel, walked.
-/
import Derived.Test.YtnabbebkmafakaaPAnswer
namespace Go.Proofs.Ytnabbebkmafakaa
set_option maxRecDepth 20000
open Go.RowKit
set_option linter.unusedVariables false
set_option linter.unusedSimpArgs false

/-- The parcel that was handed in, the cell of what is answered, the parcel that is made. -/
def GdP (w : World) (box : Array Value) (g : Nat) (cs : Array Value) (w' : World) : Prop := BoxR w box 24 24 w' ∧ w'.heap[g]? = some (.cells cs 24 (0, 0)) ∧ w.heap.size + 1 < g
theorem GdP.later {w w' w'' : World} {box cs : Array Value} {g : Nat} (h : GdP w box g cs w') (hb : Below w'.heap.size w' w'') : GdP w box g cs w'' := ⟨h.1.later hb, (hb.block _ (heap_lt h.2.1)).trans h.2.1, h.2.2⟩
theorem GdP.drew {w w' : World} {box cs : Array Value} {g : Nat} (h : GdP w box g cs w') : GdP w box g cs w'.drew := ⟨h.1.drew, h.2⟩
theorem GdP.store {w w' : World} {box cs : Array Value} {g i : Nat} {u : Value} (h : GdP w box g cs w') : GdP w box g (cs.setIfInBounds i u) (w'.setCell ⟨g, i, none⟩ u) := by
  obtain ⟨⟨h1, h2, X, hX, h3⟩, h4, h5⟩ := h
  refine ⟨⟨h1.setCell (by simp; omega) _, (Below.heap_setCell w' _ u _ (by simp; omega)).trans h2, X, hX, (Below.heap_setCell w' _ u _ (by simp; omega)).trans h3⟩, heap_set h4 i u, h5⟩
theorem keep_other {w' w'' : World} (hk : ∀ k, k < w'.heap.size → (∀ cur, w'.heap[k]? ≠ some (.cells cur 50 (0, 0))) → w''.heap[k]? = w'.heap[k]?) {k : Nat} {c : Array Value} {t : TypeId} (hc : w'.heap[k]? = some (.cells c t (0, 0))) (ht : t ≠ 50) : w''.heap[k]? = some (.cells c t (0, 0)) :=
  (hk k (heap_lt hc) (fun cur e => by
    rw [hc] at e
    injection e with e
    injection e with _ e
    exact ht e)).trans hc
theorem BoxR.put {w w' w'' : World} {box : Array Value} (h : BoxR w box 24 24 w') (hb : Below w.heap.size w' w'') (hk : ∀ k, k < w'.heap.size → (∀ cur, w'.heap[k]? ≠ some (.cells cur 50 (0, 0))) → w''.heap[k]? = w'.heap[k]?) : BoxR w box 24 24 w'' := by
  obtain ⟨h1, h2, X, hX, h3⟩ := h
  exact ⟨h1.trans hb, keep_other hk h2 (by decide), X, hX, keep_other hk h3 (by decide)⟩
theorem GdP.put {w w' w'' : World} {box cs : Array Value} {g : Nat} (h : GdP w box g cs w') (hb : Below w.heap.size w' w'') (hk : ∀ k, k < w'.heap.size → (∀ cur, w'.heap[k]? ≠ some (.cells cur 50 (0, 0))) → w''.heap[k]? = w'.heap[k]?) : GdP w box g cs w'' :=
  ⟨h.1.put hb hk, keep_other hk h.2.1 (by decide), h.2.2⟩
theorem range_below {w w' : World} {b o : Nat} {cs : List Value} (h : w.rangeAt b o cs) (hb : Below w.heap.size w w') : w'.rangeAt b o cs := fun j u hu => by
  have h1 := h j u hu
  rw [hb.cell (World.block_lt_of_cell? w _ h1)]
  exact h1
theorem val_fold (e : Edu) : e.val = .agg #[.int .i64 e.kind, .string e.room, .string e.user, .string e.event, .string e.thread, .bool e.priv, .bool e.on, .int .i64 e.span, .int .i64 e.state, .int .i64 e.tick, .int .i64 e.stamp] := rfl
theorem public_well (e : Edu) : (publicE e).well := may_well (public_may e)
theorem cellG {w w' : World} {box : Array Value} {g : Nat} {a b c d S : Value} (h : GdP w box g #[a, b, c, d, S] w') : w'.cell? ⟨g, 4, none⟩ = some S := cell_at h.2.1 4
theorem publicW_any (e : Edu) (w : World) (h : e.well) : Calls Try.prog 23 #[e.val] w fun x w' => x = .returned (publicE e).val ∧ Below w.heap.size w w' := public_any e w h.1 h.2.2.2.1 h.2.2.2.2
theorem map_step {f : Edu → Edu} {es : List Edu} {k : Nat} {e : Edu} (he : es[k]? = some e) : (es.take (k + 1)).map f = (es.take k).map f ++ [f e] := by
  rw [List.take_add_one, he]
  simp
theorem take_min (es : List Edu) : es.take (min es.length 5) = es.take 5 := by
  rcases Nat.le_total es.length 5 with h | h
  · rw [Nat.min_eq_left h, List.take_length, List.take_of_length_le h]
  · rw [Nat.min_eq_right h]
theorem good_list (ack : Bool) (es : List Edu) (k : Nat) (h : ack = true → k = 0) (hend : ack = true ∨ k = min es.length 5) : (es.take k).map publicE = bif ack then [] else (es.take 5).map publicE := by
  cases ack
  · rcases hend with h1 | h1
    · cases h1
    · rw [h1, take_min]
      rfl
  · rw [h rfl]
    rfl
theorem goodTo_def (frm dest : ByteArray) : goodTo frm dest = aroundI (frm.size : Int) 3 + 1 + aroundI (dest.size : Int) 2 := rfl
theorem goodP_def (p : Par) : goodP p = ⟨p.ack, serverS (aroundI (p.frm.size : Int) 3), serverS (aroundI (p.frm.size : Int) 3 + 1 + aroundI (p.dest.size : Int) 2), 1 + aroundI p.id 1099511627776, bif p.ack then [] else (p.edus.take 5).map publicE⟩ := rfl

set_option maxHeartbeats 6400000 in
theorem goodPar_any (p : Par) (A : Option Addr) (cap : Nat) (w : World) (hE : EdusAt w A p.edus.length p.edus) (hl : p.edus.length ≤ maxLen) (hf : p.frm.size ≤ maxLen) (hd : p.dest.size ≤ maxLen) (hi : -9223372036854775808 ≤ p.id ∧ p.id ≤ 9223372036854775807) :
    Calls Try.prog 9 #[.agg #[.bool p.ack, .string p.frm, .string p.dest, .int .i64 p.id, .slice A p.edus.length cap]] w fun e w' => ∃ S, e = .returned (parV (goodP p) S) ∧ MadeE w' w.heap.size S (goodP p).edus ∧ Below w.heap.size w w' := by
  have HT := Lib.hid (BoxR.new w #[.bool p.ack, .string p.frm, .string p.dest, .int .i64 p.id, .slice A p.edus.length cap] #[.bool false, .string ⟨#[]⟩, .string ⟨#[]⟩, .int .i64 0, .slice none 0 0] 24 24 rfl)
  have HE := Lib.hid hE
  rw [maxLen_eq] at hl hf hd
  rw [goodP_def p]
  have hlW : w.heap.size + 1 < ((w.alloc (.cells #[.bool p.ack, .string p.frm, .string p.dest, .int .i64 p.id, .slice A p.edus.length cap] 24)).alloc (.cells #[.bool false, .string ⟨#[]⟩, .string ⟨#[]⟩, .int .i64 0, .slice none 0 0] 24)).heap.size := by rw [size_alloc1, size_alloc1]; omega
  obtain ⟨ack, frm, dest, id, es⟩ := p
  simp only at *
  clear hE
  have HA := Lib.hid (fun w => around_any (frm.size : Int) 3 w (by omega) (by omega) (by omega) (by omega))
  have HB := Lib.hid (fun w => around_any (dest.size : Int) 2 w (by omega) (by omega) (by omega) (by omega))
  have HC := Lib.hid (fun w => around_any id 1099511627776 w (by omega) (by omega) (by omega) (by omega))
  have ba := aroundI_bd (frm.size : Int) 3 (by decide)
  have bb := aroundI_bd (dest.size : Int) 2 (by decide)
  have bc := aroundI_bd id 1099511627776 (by decide)
  generalize aroundI (frm.size : Int) 3 = ka at *
  generalize aroundI (dest.size : Int) 2 = kb at *
  generalize aroundI id 1099511627776 = ai at *
  have HF := Lib.hid (fun w => serverOf_any ka w (by omega) (by omega))
  have HD := Lib.hid (fun w => serverOf_any (ka + 1 + kb) w (by omega) (by omega))
  generalize serverS ka = sf at *
  generalize serverS (ka + 1 + kb) = sd at *
  simp only [parV]
  have HLq := Lib.hid (fun k h hend => good_list ack es k h hend)
  generalize (bif ack then [] else (es.take 5).map publicE) = L at *
  go_enter Try.func9, Try.ntmps9
  go_upto_region 1 with (fail)
  generalize hW : (w.alloc _).alloc _ = W at *
  clear hW
  obtain ⟨d0, d1, d2, d3, d4⟩ := cells5p HT.out.2.1
  go_wp2_with fail
  refine (HA.out _).mono ?_
  rintro e w1 ⟨rfl, rfl⟩
  go_upto_region 2 with (fail)
  clear d0 d1 d2 d3 d4
  go_cut [4] (fun s4 wx => ∃ g, s4 = .pointer (some ⟨g, 0, none⟩) ∧ Hid (GdP w #[.bool ack, .string frm, .string dest, .int .i64 id, .slice A es.length cap] g #[.bool ack, .string sf, .string sd, .int .i64 (1 + ai), .slice none 0 0] wx))
  case first =>
    refine wp_region_held_drew (S := fun w' => BoxR w #[.bool ack, .string frm, .string dest, .int .i64 id, .slice A es.length cap] 24 24 w') (by kernel_rfl) HT.out.drew (fun hHeld => ?_)
    replace hlW : w.heap.size + 1 < W.drew.heap.size := hlW
    generalize hwd : W.drew = wd at hHeld hlW ⊢
    clear HT hwd
    refine wpAnyH_take (i := 0) (oi := ⟨some 10, _, _, _, _, _⟩) (v := ?vz1) rfl (by kernel_rfl) (by kernel_rfl) (by kernel_rfl) (fun _ _ _ h => h) (Or.inl ⟨by rfl, ?yz1⟩) hHeld ?rz1
    case yz1 =>
      intro wx hSx
      go_simp
      try with_reducible rfl
    try simp only [Act.put, List.setIfInBounds_toArray, List.set_cons_zero, List.set_cons_succ]
    refine wpAnyH_take (i := 1) (oi := ⟨some 11, _, _, _, _, _⟩) (v := ?vz2) rfl (by kernel_rfl) (by kernel_rfl) (by kernel_rfl) (fun _ _ _ h => h) (Or.inl ⟨by rfl, ?yz2⟩) hHeld ?rz2
    case yz2 =>
      intro wx hSx
      obtain ⟨d0, d1, d2, d3, d4⟩ := cells5p hSx.2.1
      go_simp
      try with_reducible rfl
    try simp only [Act.put, List.setIfInBounds_toArray, List.set_cons_zero, List.set_cons_succ]
    refine wpAnyH_take (i := 2) (oi := ⟨some 12, _, _, _, _, _⟩) (v := ?vz3) rfl (by kernel_rfl) (by kernel_rfl) (by kernel_rfl) (fun _ _ _ h => h) (Or.inl ⟨by rfl, ?yz3⟩) hHeld ?rz3
    case yz3 =>
      intro wx hSx
      go_simp
      try with_reducible rfl
    try simp only [Act.put, List.setIfInBounds_toArray, List.set_cons_zero, List.set_cons_succ]
    refine wpAnyH_take (i := 4) (oi := ⟨some 14, _, _, _, _, _⟩) (v := ?vz4) rfl (by kernel_rfl) (by kernel_rfl) (by kernel_rfl) (fun _ _ _ h => h) (Or.inl ⟨by rfl, ?yz4⟩) hHeld ?rz4
    case yz4 =>
      intro wx hSx
      go_simp
      try with_reducible rfl
    try simp only [Act.put, List.setIfInBounds_toArray, List.set_cons_zero, List.set_cons_succ]
    refine wpAnyH_take (i := 5) (oi := ⟨some 15, _, _, _, _, _⟩) (v := ?vz5) rfl (by kernel_rfl) (by kernel_rfl) (by kernel_rfl) (fun _ _ _ h => h) (Or.inl ⟨by rfl, ?yz5⟩) hHeld ?rz5
    case yz5 =>
      intro wx hSx
      have q := IntWalk.i64_in (ka + 1) (by omega)
      go_simp
      try with_reducible rfl
    try simp only [Act.put, List.setIfInBounds_toArray, List.set_cons_zero, List.set_cons_succ]
    refine wpAnyH_take (i := 6) (oi := ⟨some 16, _, _, _, _, _⟩) (v := ?vz6) rfl (by kernel_rfl) (by kernel_rfl) (by kernel_rfl) (fun _ _ _ h => h) (Or.inl ⟨by rfl, ?yz6⟩) hHeld ?rz6
    case yz6 =>
      intro wx hSx
      go_simp
      try with_reducible rfl
    try simp only [Act.put, List.setIfInBounds_toArray, List.set_cons_zero, List.set_cons_succ]
    refine wpAnyH_take (i := 7) (oi := ⟨some 17, _, _, _, _, _⟩) (v := ?vz7) rfl (by kernel_rfl) (by kernel_rfl) (by kernel_rfl) (fun _ _ _ h => h) (Or.inl ⟨by rfl, ?yz7⟩) hHeld ?rz7
    case yz7 =>
      intro wx hSx
      obtain ⟨d0, d1, d2, d3, d4⟩ := cells5p hSx.2.1
      go_simp
      try with_reducible rfl
    try simp only [Act.put, List.setIfInBounds_toArray, List.set_cons_zero, List.set_cons_succ]
    refine wpAnyH_take (i := 8) (oi := ⟨some 18, _, _, _, _, _⟩) (v := ?vz8) rfl (by kernel_rfl) (by kernel_rfl) (by kernel_rfl) (fun _ _ _ h => h) (Or.inl ⟨by rfl, ?yz8⟩) hHeld ?rz8
    case yz8 =>
      intro wx hSx
      go_simp
      try with_reducible rfl
    try simp only [Act.put, List.setIfInBounds_toArray, List.set_cons_zero, List.set_cons_succ]
    refine wpAnyH_take (i := 12) (oi := ⟨some 22, _, _, _, _, _⟩) (v := ?vz9) rfl (by kernel_rfl) (by kernel_rfl) (by kernel_rfl) (fun _ _ _ h => h) (Or.inl ⟨by rfl, ?yz9⟩) hHeld ?rz9
    case yz9 =>
      intro wx hSx
      go_simp
      try with_reducible rfl
    try simp only [Act.put, List.setIfInBounds_toArray, List.set_cons_zero, List.set_cons_succ]
    refine wpAnyH_take (i := 13) (oi := ⟨some 23, _, _, _, _, _⟩) (v := ?vz10) rfl (by kernel_rfl) (by kernel_rfl) (by kernel_rfl) (fun _ _ _ h => h) (Or.inl ⟨by rfl, ?yz10⟩) hHeld ?rz10
    case yz10 =>
      intro wx hSx
      obtain ⟨d0, d1, d2, d3, d4⟩ := cells5p hSx.2.1
      go_simp
      try with_reducible rfl
    try simp only [Act.put, List.setIfInBounds_toArray, List.set_cons_zero, List.set_cons_succ]
    try rw [IntWalk.i64_in (ka + 1) (by omega)]
    refine wpAnyH_ready (rs := [3, 17]) (by kernel_rfl) (by simp) ?_
    refine (AllReadyH.cons (o := ⟨some 13, _, _, _, _, _⟩) rfl (fun K hK => ?way10_0) (AllReadyH.cons (o := ⟨some 4, _, _, _, _, _⟩) rfl (fun K hK => ?way10_1) AllReadyH.nil))
    case way10_0 =>
      go_simp
      refine (HF.out _).mono ?_
      rintro e wn ⟨rfl, hbn⟩
      replace hlW := Nat.lt_of_lt_of_le hlW hbn.size
      replace hHeld := hHeld.later hbn
      refine hK.out _ _ hHeld (fun _ => ?_)
      clear hK K hbn
      try simp only [Act.put, List.setIfInBounds_toArray, List.set_cons_zero, List.set_cons_succ]
      refine anyH_asks (i := 9) (oi := ⟨some 19, _, _, _, _, _⟩) (v := .int .i64 kb) rfl (by kernel_rfl) (by kernel_rfl) (by kernel_rfl) (fun _ _ _ h => h) ⟨by rfl, fun wx hSx => ⟨_, _, ?ez12, HB.out _⟩⟩ hHeld ?rz12
      case ez12 => go_simp
      try simp only [Act.put, List.setIfInBounds_toArray, List.set_cons_zero, List.set_cons_succ]
      refine wpAnyH_take (i := 10) (oi := ⟨some 20, _, _, _, _, _⟩) (v := ?vz13) rfl (by kernel_rfl) (by kernel_rfl) (by kernel_rfl) (fun _ _ _ h => h) (Or.inl ⟨by rfl, ?yz13⟩) hHeld ?rz13
      case yz13 =>
        intro wx hSx
        have q := IntWalk.i64_in (ka + 1 + kb) (by omega)
        go_simp
        try with_reducible rfl
      try simp only [Act.put, List.setIfInBounds_toArray, List.set_cons_zero, List.set_cons_succ]
      try rw [IntWalk.i64_in (ka + 1 + kb) (by omega)]
      refine wpAnyH_ready (rs := [11, 17]) (by kernel_rfl) (by simp) ?_
      refine (AllReadyH.cons (o := ⟨some 21, _, _, _, _, _⟩) rfl (fun K hK => ?way13_0) (AllReadyH.cons (o := ⟨some 4, _, _, _, _, _⟩) rfl (fun K hK => ?way13_1) AllReadyH.nil))
      case way13_0 =>
        go_simp
        refine (HD.out _).mono ?_
        rintro e wm ⟨rfl, hbn⟩
        replace hlW := Nat.lt_of_lt_of_le hlW hbn.size
        replace hHeld := hHeld.later hbn
        refine hK.out _ _ hHeld (fun _ => ?_)
        clear hK K hbn
        try simp only [Act.put, List.setIfInBounds_toArray, List.set_cons_zero, List.set_cons_succ]
        refine anyH_asks (i := 14) (oi := ⟨some 24, _, _, _, _, _⟩) (v := .int .i64 ai) rfl (by kernel_rfl) (by kernel_rfl) (by kernel_rfl) (fun _ _ _ h => h) ⟨by rfl, fun wx hSx => ⟨_, _, ?ez15, HC.out _⟩⟩ hHeld ?rz15
        case ez15 => go_simp
        try simp only [Act.put, List.setIfInBounds_toArray, List.set_cons_zero, List.set_cons_succ]
        refine wpAnyH_take (i := 15) (oi := ⟨some 25, _, _, _, _, _⟩) (v := ?vz16) rfl (by kernel_rfl) (by kernel_rfl) (by kernel_rfl) (fun _ _ _ h => h) (Or.inl ⟨by rfl, ?yz16⟩) hHeld ?rz16
        case yz16 =>
          intro wx hSx
          have q := IntWalk.i64_in (1 + ai) (by omega)
          go_simp
          try with_reducible rfl
        try simp only [Act.put, List.setIfInBounds_toArray, List.set_cons_zero, List.set_cons_succ]
        try rw [IntWalk.i64_in (1 + ai) (by omega)]
        refine wpAnyH_take (i := 16) (oi := ⟨some 26, _, _, _, _, _⟩) (v := ?vz17) rfl (by kernel_rfl) (by kernel_rfl) (by kernel_rfl) (fun _ _ _ h => h) (Or.inl ⟨by rfl, ?yz17⟩) hHeld ?rz17
        case yz17 =>
          intro wx hSx
          go_simp
          try with_reducible rfl
        try simp only [Act.put, List.setIfInBounds_toArray, List.set_cons_zero, List.set_cons_succ]
        refine wpAnyH_ready (rs := [17]) (by kernel_rfl) (by simp) ?_
        refine (AllReadyH.cons (o := ⟨some 4, _, _, _, _, _⟩) rfl (fun K hK => ?way17_0) AllReadyH.nil)
        case way17_0 =>
          have hnew := heap_alloc_new wm (.cells #[.bool false, .string ⟨#[]⟩, .string ⟨#[]⟩, .int .i64 0, .slice none 0 0] 24)
          have hH := hHeld.later (below_new wm (.cells #[.bool false, .string ⟨#[]⟩, .string ⟨#[]⟩, .int .i64 0, .slice none 0 0] 24))
          go_simp
          refine hK.out _ _ hH (fun _ => ?_)
          replace hHeld := hH
          clear hK K hH
          try simp only [Act.put, List.setIfInBounds_toArray, List.set_cons_zero, List.set_cons_succ]
          generalize hW3 : World.alloc _ _ = W3 at hnew hHeld ⊢
          clear hW3
          generalize hgg : wm.heap.size = g at hnew hlW ⊢
          clear hgg
          refine wpAnyH_ready (rs := [18]) (by kernel_rfl) (by simp) ?_
          refine (AllReadyH.cons (o := ⟨none, _, _, _, _, _⟩) rfl (fun K hK => ?way18_0) AllReadyH.nil)
          case way18_0 =>
            rw [if_pos (by rfl)]
            refine wp_store_row 24 (.tmp 4) (.tmp 26) rfl g #[.bool ack, .string sf, .string sd, .int .i64 (1 + ai), .slice none 0 0] rfl rfl 24 _ hnew parR_size rfl (one5 _ _ _ _ _ _ _) ?_
            have hset := setRow_heap _ _ _ #[.bool ack, .string sf, .string sd, .int .i64 (1 + ai), .slice none 0 0] _ _ hnew
            obtain ⟨X, hX, hx3⟩ := hHeld.2.2
            have hH : BoxR w #[.bool ack, .string frm, .string dest, .int .i64 id, .slice A es.length cap] 24 24 _ := ⟨below_setRow (g := g) hHeld.1 (by omega) #[.bool ack, .string sf, .string sd, .int .i64 (1 + ai), .slice none 0 0], by rw [setRow_other _ g _ _ (by omega)]; exact hHeld.2.1, X, hX, by rw [setRow_other _ g _ _ (by omega)]; exact hx3⟩
            refine hK.out _ _ hH (fun _ => ?_)
            replace hHeld := hH
            clear hK K hH hx3
            try simp only [Act.put, List.setIfInBounds_toArray, List.set_cons_zero, List.set_cons_succ]
            generalize hW2 : World.setRow _ _ _ = W2 at hset hHeld ⊢
            clear hW2
            refine wpAnyH_done (by kernel_rfl) ?_ _
            have HG := Lib.hid (show GdP w #[.bool ack, .string frm, .string dest, .int .i64 id, .slice A es.length cap] g #[.bool ack, .string sf, .string sd, .int .i64 (1 + ai), .slice none 0 0] W2 from ⟨hHeld, hset, hlW⟩)
            clear hHeld hset
            go_wp2_with fail
            go_meet
            exact ⟨g, rfl, HG⟩
      case way13_1 =>
        have hnew := heap_alloc_new wn (.cells #[.bool false, .string ⟨#[]⟩, .string ⟨#[]⟩, .int .i64 0, .slice none 0 0] 24)
        have hH := hHeld.later (below_new wn (.cells #[.bool false, .string ⟨#[]⟩, .string ⟨#[]⟩, .int .i64 0, .slice none 0 0] 24))
        go_simp
        refine hK.out _ _ hH (fun _ => ?_)
        replace hHeld := hH
        clear hK K hH
        try simp only [Act.put, List.setIfInBounds_toArray, List.set_cons_zero, List.set_cons_succ]
        generalize hW3 : World.alloc _ _ = W3 at hnew hHeld ⊢
        clear hW3
        generalize hgg : wn.heap.size = g at hnew hlW ⊢
        clear hgg
        refine wpAnyH_ready (rs := [11]) (by kernel_rfl) (by simp) ?_
        refine (AllReadyH.cons (o := ⟨some 21, _, _, _, _, _⟩) rfl (fun K hK => ?way19_0) AllReadyH.nil)
        case way19_0 =>
          go_simp
          refine (HD.out _).mono ?_
          rintro e wm ⟨rfl, hbn⟩
          replace hnew := (hbn.block _ (heap_lt hnew)).trans hnew
          replace hHeld := hHeld.later hbn
          refine hK.out _ _ hHeld (fun _ => ?_)
          clear hK K hbn
          try simp only [Act.put, List.setIfInBounds_toArray, List.set_cons_zero, List.set_cons_succ]
          refine anyH_asks (i := 14) (oi := ⟨some 24, _, _, _, _, _⟩) (v := .int .i64 ai) rfl (by kernel_rfl) (by kernel_rfl) (by kernel_rfl) (fun _ _ _ h => h) ⟨by rfl, fun wx hSx => ⟨_, _, ?ez21, HC.out _⟩⟩ hHeld ?rz21
          case ez21 => go_simp
          try simp only [Act.put, List.setIfInBounds_toArray, List.set_cons_zero, List.set_cons_succ]
          refine wpAnyH_take (i := 15) (oi := ⟨some 25, _, _, _, _, _⟩) (v := ?vz22) rfl (by kernel_rfl) (by kernel_rfl) (by kernel_rfl) (fun _ _ _ h => h) (Or.inl ⟨by rfl, ?yz22⟩) hHeld ?rz22
          case yz22 =>
            intro wx hSx
            have q := IntWalk.i64_in (1 + ai) (by omega)
            go_simp
            try with_reducible rfl
          try simp only [Act.put, List.setIfInBounds_toArray, List.set_cons_zero, List.set_cons_succ]
          try rw [IntWalk.i64_in (1 + ai) (by omega)]
          refine wpAnyH_take (i := 16) (oi := ⟨some 26, _, _, _, _, _⟩) (v := ?vz23) rfl (by kernel_rfl) (by kernel_rfl) (by kernel_rfl) (fun _ _ _ h => h) (Or.inl ⟨by rfl, ?yz23⟩) hHeld ?rz23
          case yz23 =>
            intro wx hSx
            go_simp
            try with_reducible rfl
          try simp only [Act.put, List.setIfInBounds_toArray, List.set_cons_zero, List.set_cons_succ]
          refine wpAnyH_ready (rs := [18]) (by kernel_rfl) (by simp) ?_
          refine (AllReadyH.cons (o := ⟨none, _, _, _, _, _⟩) rfl (fun K hK => ?way23_0) AllReadyH.nil)
          case way23_0 =>
            rw [if_pos (by rfl)]
            refine wp_store_row 24 (.tmp 4) (.tmp 26) rfl g #[.bool ack, .string sf, .string sd, .int .i64 (1 + ai), .slice none 0 0] rfl rfl 24 _ hnew parR_size rfl (one5 _ _ _ _ _ _ _) ?_
            have hset := setRow_heap _ _ _ #[.bool ack, .string sf, .string sd, .int .i64 (1 + ai), .slice none 0 0] _ _ hnew
            obtain ⟨X, hX, hx3⟩ := hHeld.2.2
            have hH : BoxR w #[.bool ack, .string frm, .string dest, .int .i64 id, .slice A es.length cap] 24 24 _ := ⟨below_setRow (g := g) hHeld.1 (by omega) #[.bool ack, .string sf, .string sd, .int .i64 (1 + ai), .slice none 0 0], by rw [setRow_other _ g _ _ (by omega)]; exact hHeld.2.1, X, hX, by rw [setRow_other _ g _ _ (by omega)]; exact hx3⟩
            refine hK.out _ _ hH (fun _ => ?_)
            replace hHeld := hH
            clear hK K hH hx3
            try simp only [Act.put, List.setIfInBounds_toArray, List.set_cons_zero, List.set_cons_succ]
            generalize hW2 : World.setRow _ _ _ = W2 at hset hHeld ⊢
            clear hW2
            refine wpAnyH_done (by kernel_rfl) ?_ _
            have HG := Lib.hid (show GdP w #[.bool ack, .string frm, .string dest, .int .i64 id, .slice A es.length cap] g #[.bool ack, .string sf, .string sd, .int .i64 (1 + ai), .slice none 0 0] W2 from ⟨hHeld, hset, hlW⟩)
            clear hHeld hset
            go_wp2_with fail
            go_meet
            exact ⟨g, rfl, HG⟩
    case way10_1 =>
      have hnew := heap_alloc_new wd (.cells #[.bool false, .string ⟨#[]⟩, .string ⟨#[]⟩, .int .i64 0, .slice none 0 0] 24)
      have hH := hHeld.later (below_new wd (.cells #[.bool false, .string ⟨#[]⟩, .string ⟨#[]⟩, .int .i64 0, .slice none 0 0] 24))
      go_simp
      refine hK.out _ _ hH (fun _ => ?_)
      replace hHeld := hH
      clear hK K hH
      try simp only [Act.put, List.setIfInBounds_toArray, List.set_cons_zero, List.set_cons_succ]
      generalize hW3 : World.alloc _ _ = W3 at hnew hHeld ⊢
      clear hW3
      generalize hgg : wd.heap.size = g at hnew hlW ⊢
      clear hgg
      refine wpAnyH_ready (rs := [3]) (by kernel_rfl) (by simp) ?_
      refine (AllReadyH.cons (o := ⟨some 13, _, _, _, _, _⟩) rfl (fun K hK => ?way24_0) AllReadyH.nil)
      case way24_0 =>
        go_simp
        refine (HF.out _).mono ?_
        rintro e wn ⟨rfl, hbn⟩
        replace hnew := (hbn.block _ (heap_lt hnew)).trans hnew
        replace hHeld := hHeld.later hbn
        refine hK.out _ _ hHeld (fun _ => ?_)
        clear hK K hbn
        try simp only [Act.put, List.setIfInBounds_toArray, List.set_cons_zero, List.set_cons_succ]
        refine anyH_asks (i := 9) (oi := ⟨some 19, _, _, _, _, _⟩) (v := .int .i64 kb) rfl (by kernel_rfl) (by kernel_rfl) (by kernel_rfl) (fun _ _ _ h => h) ⟨by rfl, fun wx hSx => ⟨_, _, ?ez26, HB.out _⟩⟩ hHeld ?rz26
        case ez26 => go_simp
        try simp only [Act.put, List.setIfInBounds_toArray, List.set_cons_zero, List.set_cons_succ]
        refine wpAnyH_take (i := 10) (oi := ⟨some 20, _, _, _, _, _⟩) (v := ?vz27) rfl (by kernel_rfl) (by kernel_rfl) (by kernel_rfl) (fun _ _ _ h => h) (Or.inl ⟨by rfl, ?yz27⟩) hHeld ?rz27
        case yz27 =>
          intro wx hSx
          have q := IntWalk.i64_in (ka + 1 + kb) (by omega)
          go_simp
          try with_reducible rfl
        try simp only [Act.put, List.setIfInBounds_toArray, List.set_cons_zero, List.set_cons_succ]
        try rw [IntWalk.i64_in (ka + 1 + kb) (by omega)]
        refine wpAnyH_ready (rs := [11]) (by kernel_rfl) (by simp) ?_
        refine (AllReadyH.cons (o := ⟨some 21, _, _, _, _, _⟩) rfl (fun K hK => ?way27_0) AllReadyH.nil)
        case way27_0 =>
          go_simp
          refine (HD.out _).mono ?_
          rintro e wm ⟨rfl, hbn⟩
          replace hnew := (hbn.block _ (heap_lt hnew)).trans hnew
          replace hHeld := hHeld.later hbn
          refine hK.out _ _ hHeld (fun _ => ?_)
          clear hK K hbn
          try simp only [Act.put, List.setIfInBounds_toArray, List.set_cons_zero, List.set_cons_succ]
          refine anyH_asks (i := 14) (oi := ⟨some 24, _, _, _, _, _⟩) (v := .int .i64 ai) rfl (by kernel_rfl) (by kernel_rfl) (by kernel_rfl) (fun _ _ _ h => h) ⟨by rfl, fun wx hSx => ⟨_, _, ?ez29, HC.out _⟩⟩ hHeld ?rz29
          case ez29 => go_simp
          try simp only [Act.put, List.setIfInBounds_toArray, List.set_cons_zero, List.set_cons_succ]
          refine wpAnyH_take (i := 15) (oi := ⟨some 25, _, _, _, _, _⟩) (v := ?vz30) rfl (by kernel_rfl) (by kernel_rfl) (by kernel_rfl) (fun _ _ _ h => h) (Or.inl ⟨by rfl, ?yz30⟩) hHeld ?rz30
          case yz30 =>
            intro wx hSx
            have q := IntWalk.i64_in (1 + ai) (by omega)
            go_simp
            try with_reducible rfl
          try simp only [Act.put, List.setIfInBounds_toArray, List.set_cons_zero, List.set_cons_succ]
          try rw [IntWalk.i64_in (1 + ai) (by omega)]
          refine wpAnyH_take (i := 16) (oi := ⟨some 26, _, _, _, _, _⟩) (v := ?vz31) rfl (by kernel_rfl) (by kernel_rfl) (by kernel_rfl) (fun _ _ _ h => h) (Or.inl ⟨by rfl, ?yz31⟩) hHeld ?rz31
          case yz31 =>
            intro wx hSx
            go_simp
            try with_reducible rfl
          try simp only [Act.put, List.setIfInBounds_toArray, List.set_cons_zero, List.set_cons_succ]
          refine wpAnyH_ready (rs := [18]) (by kernel_rfl) (by simp) ?_
          refine (AllReadyH.cons (o := ⟨none, _, _, _, _, _⟩) rfl (fun K hK => ?way31_0) AllReadyH.nil)
          case way31_0 =>
            rw [if_pos (by rfl)]
            refine wp_store_row 24 (.tmp 4) (.tmp 26) rfl g #[.bool ack, .string sf, .string sd, .int .i64 (1 + ai), .slice none 0 0] rfl rfl 24 _ hnew parR_size rfl (one5 _ _ _ _ _ _ _) ?_
            have hset := setRow_heap _ _ _ #[.bool ack, .string sf, .string sd, .int .i64 (1 + ai), .slice none 0 0] _ _ hnew
            obtain ⟨X, hX, hx3⟩ := hHeld.2.2
            have hH : BoxR w #[.bool ack, .string frm, .string dest, .int .i64 id, .slice A es.length cap] 24 24 _ := ⟨below_setRow (g := g) hHeld.1 (by omega) #[.bool ack, .string sf, .string sd, .int .i64 (1 + ai), .slice none 0 0], by rw [setRow_other _ g _ _ (by omega)]; exact hHeld.2.1, X, hX, by rw [setRow_other _ g _ _ (by omega)]; exact hx3⟩
            refine hK.out _ _ hH (fun _ => ?_)
            replace hHeld := hH
            clear hK K hH hx3
            try simp only [Act.put, List.setIfInBounds_toArray, List.set_cons_zero, List.set_cons_succ]
            generalize hW2 : World.setRow _ _ _ = W2 at hset hHeld ⊢
            clear hW2
            refine wpAnyH_done (by kernel_rfl) ?_ _
            have HG := Lib.hid (show GdP w #[.bool ack, .string frm, .string dest, .int .i64 id, .slice A es.length cap] g #[.bool ack, .string sf, .string sd, .int .i64 (1 + ai), .slice none 0 0] W2 from ⟨hHeld, hset, hlW⟩)
            clear hHeld hset
            go_wp2_with fail
            go_meet
            exact ⟨g, rfl, HG⟩
  case rest =>
    obtain ⟨g, rfl, HG⟩ := hcut
    go_wp2_with fail
    clear HT HA HB HC HF HD
    go_loopw [5] (fun iv wr => ∃ (k : Nat) (S : Value), k ≤ min es.length 5 ∧ (ack = true → k = 0) ∧ iv = .int .i64 (k : Int) ∧ Hid (GdP w #[.bool ack, .string frm, .string dest, .int .i64 id, .slice A es.length cap] g #[.bool ack, .string sf, .string sd, .int .i64 (1 + ai), S] wr) ∧ Hid (MadeE wr w.heap.size S ((es.take k).map publicE))) (fun iv _ => 5 - (intOf iv).toNat)
    case atStart => exact ⟨0, _, Nat.zero_le _, fun _ => rfl, rfl, HG, Lib.hid (MadeE.nil _ _)⟩
    case round =>
      obtain ⟨k, S, hk, hack, rfl, HG', HM⟩ := hrel
      clear HG
      have HG := HG'
      clear HG'
      obtain ⟨d0, d1, d2, d3, d4⟩ := cells5p HG.out.1.2.1
      by_cases h1 : k < es.length
      rotate_left
      · have q1 : decide ((k : Int) < (es.length : Int)) = false := by simp; omega
        have hk5 : k = min es.length 5 := by omega
        have HLL := Lib.hid (HLq.out k hack (.inr hk5))
        clear hack hk5 HLq
        rw [HLL.out] at HM
        clear HLL
        have hle : ∃ le, le = L := ⟨_, rfl⟩
        obtain ⟨le, rfl⟩ := hle
        obtain ⟨A2, cap2, rfl, z1, z2, z3, z4⟩ := HM.out.slice
        clear z1 z2 z3 z4 d0 d1 d2 d3 d4
        obtain ⟨c0, c1, c2, c3, c4⟩ := cells5p HG.out.2.1
        obtain ⟨d0, d1, d2, d3, d4⟩ := cells5p HG.out.1.2.1
        obtain ⟨X, hX, hx3⟩ := HG.out.1.2.2
        have Hset := Lib.hid (setRow_heap _ _ _ #[.bool ack, .string sf, .string sd, .int .i64 (1 + ai), .slice A2 le.length cap2] _ _ hx3)
        have HB3 := Lib.hid (HG.out.1.set #[.bool ack, .string sf, .string sd, .int .i64 (1 + ai), .slice A2 le.length cap2] rfl).1
        have HM3 := Lib.hid (made_keep HM.out hx3 (by decide) (grown_setRow wr (w.heap.size + 1) #[.bool ack, .string sf, .string sd, .int .i64 (1 + ai), .slice A2 le.length cap2]))
        replace hx3 := Lib.hid hx3
        go_wp2_with (refine wpList_store_row rfl 24 (.tmp 2) (.tmp 54) rfl (w.heap.size + 1) #[.bool ack, .string sf, .string sd, .int .i64 (1 + ai), .slice A2 le.length cap2] rfl rfl 24 X hx3.out parR_size (hX.trans rfl) (one5 _ _ _ _ _ _ _) ?_)
        generalize hW2 : World.setRow _ _ _ = W3 at Hset HB3 HM3 ⊢
        clear hW2 d0 d1 d2 d3 d4 c0 c1 c2 c3 c4
        obtain ⟨d0, d1, d2, d3, d4⟩ := cells5p Hset.out
        go_wp2_with fail
        refine bodyPost_ret (v := .agg #[.bool ack, .string sf, .string sd, .int .i64 (1 + ai), .slice A2 le.length cap2]) ?_ rfl ⟨_, rfl, HM3.out, HB3.out⟩
        simp [results, Try.results9, go_sem, d0, d1, d2, d3, d4]
      have q1 : decide ((k : Int) < (es.length : Int)) = true := by simp; omega
      by_cases h2 : k < 5
      rotate_left
      · have q2 : decide ((k : Int) < 5) = false := by simp; omega
        have hk5 : k = min es.length 5 := by omega
        have HLL := Lib.hid (HLq.out k hack (.inr hk5))
        clear hack hk5 HLq
        rw [HLL.out] at HM
        clear HLL
        have hle : ∃ le, le = L := ⟨_, rfl⟩
        obtain ⟨le, rfl⟩ := hle
        obtain ⟨A2, cap2, rfl, z1, z2, z3, z4⟩ := HM.out.slice
        clear z1 z2 z3 z4 d0 d1 d2 d3 d4
        obtain ⟨c0, c1, c2, c3, c4⟩ := cells5p HG.out.2.1
        obtain ⟨d0, d1, d2, d3, d4⟩ := cells5p HG.out.1.2.1
        obtain ⟨X, hX, hx3⟩ := HG.out.1.2.2
        have Hset := Lib.hid (setRow_heap _ _ _ #[.bool ack, .string sf, .string sd, .int .i64 (1 + ai), .slice A2 le.length cap2] _ _ hx3)
        have HB3 := Lib.hid (HG.out.1.set #[.bool ack, .string sf, .string sd, .int .i64 (1 + ai), .slice A2 le.length cap2] rfl).1
        have HM3 := Lib.hid (made_keep HM.out hx3 (by decide) (grown_setRow wr (w.heap.size + 1) #[.bool ack, .string sf, .string sd, .int .i64 (1 + ai), .slice A2 le.length cap2]))
        replace hx3 := Lib.hid hx3
        go_wp2_with (refine wpList_store_row rfl 24 (.tmp 2) (.tmp 54) rfl (w.heap.size + 1) #[.bool ack, .string sf, .string sd, .int .i64 (1 + ai), .slice A2 le.length cap2] rfl rfl 24 X hx3.out parR_size (hX.trans rfl) (one5 _ _ _ _ _ _ _) ?_)
        generalize hW2 : World.setRow _ _ _ = W3 at Hset HB3 HM3 ⊢
        clear hW2 d0 d1 d2 d3 d4 c0 c1 c2 c3 c4
        obtain ⟨d0, d1, d2, d3, d4⟩ := cells5p Hset.out
        go_wp2_with fail
        refine bodyPost_ret (v := .agg #[.bool ack, .string sf, .string sd, .int .i64 (1 + ai), .slice A2 le.length cap2]) ?_ rfl ⟨_, rfl, HM3.out, HB3.out⟩
        simp [results, Try.results9, go_sem, d0, d1, d2, d3, d4]
      have q2 : decide ((k : Int) < 5) = true := by simp; omega
      cases ack
      rotate_left
      · have HLL := Lib.hid (HLq.out k hack (.inl rfl))
        clear hack HLq
        rw [HLL.out] at HM
        clear HLL
        have hle : ∃ le, le = L := ⟨_, rfl⟩
        obtain ⟨le, rfl⟩ := hle
        obtain ⟨A2, cap2, rfl, z1, z2, z3, z4⟩ := HM.out.slice
        clear z1 z2 z3 z4 d0 d1 d2 d3 d4
        obtain ⟨c0, c1, c2, c3, c4⟩ := cells5p HG.out.2.1
        obtain ⟨d0, d1, d2, d3, d4⟩ := cells5p HG.out.1.2.1
        obtain ⟨X, hX, hx3⟩ := HG.out.1.2.2
        have Hset := Lib.hid (setRow_heap _ _ _ #[.bool true, .string sf, .string sd, .int .i64 (1 + ai), .slice A2 le.length cap2] _ _ hx3)
        have HB3 := Lib.hid (HG.out.1.set #[.bool true, .string sf, .string sd, .int .i64 (1 + ai), .slice A2 le.length cap2] rfl).1
        have HM3 := Lib.hid (made_keep HM.out hx3 (by decide) (grown_setRow wr (w.heap.size + 1) #[.bool true, .string sf, .string sd, .int .i64 (1 + ai), .slice A2 le.length cap2]))
        replace hx3 := Lib.hid hx3
        go_wp2_with (refine wpList_store_row rfl 24 (.tmp 2) (.tmp 54) rfl (w.heap.size + 1) #[.bool true, .string sf, .string sd, .int .i64 (1 + ai), .slice A2 le.length cap2] rfl rfl 24 X hx3.out parR_size (hX.trans rfl) (one5 _ _ _ _ _ _ _) ?_)
        generalize hW2 : World.setRow _ _ _ = W3 at Hset HB3 HM3 ⊢
        clear hW2 d0 d1 d2 d3 d4 c0 c1 c2 c3 c4
        obtain ⟨d0, d1, d2, d3, d4⟩ := cells5p Hset.out
        go_wp2_with fail
        refine bodyPost_ret (v := .agg #[.bool true, .string sf, .string sd, .int .i64 (1 + ai), .slice A2 le.length cap2]) ?_ rfl ⟨_, rfl, HM3.out, HB3.out⟩
        simp [results, Try.results9, go_sem, d0, d1, d2, d3, d4]
      · obtain ⟨e, he⟩ := get_lt h1
        obtain ⟨b, off, rfl, hb, hr⟩ := HE.out.at he
        have hix := fun w => index_edu (b := b) (off := off) (cap := cap) h1 w
        have HP := Lib.hid (fun w => publicW_any e w (HE.out.2.1 e (mem_at he)))
        have HS := Lib.hid (map_step (f := publicE) he)
        have hnw := Lib.hid (public_well e)
        replace hr := Lib.hid hr
        clear he hack HLq
        generalize publicE e = ne at *
        obtain ⟨x0, x1, x2, x3, x4, x5, x6, x7, x8, x9, x10⟩ := e
        simp only [Edu.val] at HP
        rw [← val_fold ne] at HP
        go_wp2_with fail
        clear d0 d1 d2 d3 d4
        refine wp_region_held_drew (S := fun w' => BoxR w #[.bool false, .string frm, .string dest, .int .i64 id, .slice (some ⟨b, off, none⟩) es.length cap] 24 24 w') (by kernel_rfl) HG.out.1.drew (fun hHeld => ?_)
        replace HG := Lib.hid (HG.out.drew)
        replace HM := Lib.hid (show MadeE wr.drew w.heap.size S _ from HM.out)
        have hc4 := cellG HG.out
        generalize hwd : wr.drew = wd at *
        clear hwd
        refine wpAnyH_take (i := 0) (oi := ⟨some 43, _, _, _, _, _⟩) (v := ?vz33) rfl (by kernel_rfl) (by kernel_rfl) (by kernel_rfl) (fun _ _ _ h => h) (Or.inl ⟨by rfl, ?yz33⟩) hHeld ?rz33
        case yz33 =>
          intro wx hSx
          go_simp
          try with_reducible rfl
        try simp only [Act.put, List.setIfInBounds_toArray, List.set_cons_zero, List.set_cons_succ]
        refine wpAnyH_take (i := 2) (oi := ⟨some 45, _, _, _, _, _⟩) (v := ?vz34) rfl (by kernel_rfl) (by kernel_rfl) (by kernel_rfl) (fun _ _ _ h => h) (Or.inl ⟨by rfl, ?yz34⟩) hHeld ?rz34
        case yz34 =>
          intro wx hSx
          go_simp
          try with_reducible rfl
        try simp only [Act.put, List.setIfInBounds_toArray, List.set_cons_zero, List.set_cons_succ]
        refine wpAnyH_take (i := 3) (oi := ⟨some 46, _, _, _, _, _⟩) (v := ?vz35) rfl (by kernel_rfl) (by kernel_rfl) (by kernel_rfl) (fun _ _ _ h => h) (Or.inl ⟨by rfl, ?yz35⟩) hHeld ?rz35
        case yz35 =>
          intro wx hSx
          obtain ⟨d0, d1, d2, d3, d4⟩ := cells5p hSx.2.1
          go_simp
          try with_reducible rfl
        try simp only [Act.put, List.setIfInBounds_toArray, List.set_cons_zero, List.set_cons_succ]
        refine wpAnyH_take (i := 4) (oi := ⟨some 47, _, _, _, _, _⟩) (v := ?vz36) rfl (by kernel_rfl) (by kernel_rfl) (by kernel_rfl) (fun _ _ _ h => h) (Or.inl ⟨by rfl, ?yz36⟩) hHeld ?rz36
        case yz36 =>
          intro wx hSx
          go_simp
          try with_reducible rfl
        try simp only [Act.put, List.setIfInBounds_toArray, List.set_cons_zero, List.set_cons_succ]
        refine wpAnyH_take (i := 5) (oi := ⟨some 48, _, _, _, _, _⟩) (v := ?vz37) rfl (by kernel_rfl) (by kernel_rfl) (by kernel_rfl) (fun _ _ _ h => h) (Or.inl ⟨by rfl, ?yz37⟩) hHeld ?rz37
        case yz37 =>
          intro wx hSx
          go_simp
          try with_reducible rfl
        try simp only [Act.put, List.setIfInBounds_toArray, List.set_cons_zero, List.set_cons_succ]
        refine wpAnyH_take (i := 6) (oi := ⟨some 49, _, _, _, _, _⟩) (v := ?vz38) rfl (by kernel_rfl) (by kernel_rfl) (by kernel_rfl) (fun _ _ _ h => h) (Or.inl ⟨by rfl, ?yz38⟩) hHeld ?rz38
        case yz38 =>
          intro wx hSx
          obtain ⟨d0, d1, d2, d3, d4, d5, d6, d7, d8, d9, d10⟩ := range11 (range_below hr.out hSx.1)
          go_simp
          first | done | (simp only [Edu.val]; done) | rfl | (try with_reducible rfl)
        try simp only [Act.put, List.setIfInBounds_toArray, List.set_cons_zero, List.set_cons_succ]
        refine wpAnyH_ready (rs := [1, 7]) (by kernel_rfl) (by simp) ?_
        refine (AllReadyH.cons (o := ⟨some 44, _, _, _, _, _⟩) rfl (fun K hK => ?way38_0) (AllReadyH.cons (o := ⟨some 50, _, _, _, _, _⟩) rfl (fun K hK => ?way38_1) AllReadyH.nil))
        case way38_0 =>
          go_simp
          refine hK.out _ _ HG.out.1 (fun _ => ?_)
          clear hK K
          try simp only [Act.put, List.setIfInBounds_toArray, List.set_cons_zero, List.set_cons_succ]
          refine wpAnyH_ready (rs := [7]) (by kernel_rfl) (by simp) ?_
          refine (AllReadyH.cons (o := ⟨some 50, _, _, _, _, _⟩) rfl (fun K hK => ?way39_0) AllReadyH.nil)
          case way39_0 =>
            go_simp
            refine (HP.out _).mono ?_
            rintro e w4 ⟨rfl, hb4⟩
            replace HM := Lib.hid (HM.out.below hb4)
            replace HG := Lib.hid (HG.out.later hb4)
            have hHeld := HG.out.1
            clear hb4
            have hc4 := cellG HG.out
            refine hK.out _ _ HG.out.1 (fun _ => ?_)
            clear hK K
            try simp only [Act.put, List.setIfInBounds_toArray, List.set_cons_zero, List.set_cons_succ]
            refine wpAnyH_ready (rs := [8]) (by kernel_rfl) (by simp) ?_
            refine (AllReadyH.cons (o := ⟨some 51, _, _, _, _, _⟩) rfl (fun K hK => ?way40_0) AllReadyH.nil)
            case way40_0 =>
              rw [if_pos (by rfl)]
              refine wp_buildE (.tmp 50) rfl ne rfl ?_
              have HG5 := Lib.hid (HG.out.later (below_new w4 (.cells ne.cells.toArray 50)))
              have HM5 := Lib.hid (HM.out.below (below_new w4 (.cells ne.cells.toArray 50)))
              have hS5 := Lib.hid (Src.ofEdu w4 ne w4.heap.size rfl)
              clear HG HM hc4 hHeld
              have hc4 := cellG HG5.out
              generalize hW : (w4.alloc (.cells ne.cells.toArray 50)) = w5 at *
              generalize hP : w4.heap.size = B5 at *
              clear hW hP
              refine hK.out _ _ HG5.out.1 (fun _ => ?_)
              clear hK K
              try simp only [Act.put, List.setIfInBounds_toArray, List.set_cons_zero, List.set_cons_succ]
              refine wpAnyH_ready (rs := [9]) (by kernel_rfl) (by simp) ?_
              refine (AllReadyH.cons (o := ⟨some 52, _, _, _, _, _⟩) rfl (fun K hK => ?way41_0) AllReadyH.nil)
              case way41_0 =>
                rw [if_pos (by rfl)]
                refine wp_putE (.tmp 44) (.tmp 51) rfl rfl HM5.out HG5.out.1.1.size _ ne hnw.out rfl hS5.out (by rw [List.length_map, List.length_take]; omega) ?_
                intro g6 c6 w6 hg6 ho6 hb6 hk6
                have HG6 := Lib.hid (HG5.out.put hb6 hk6)
                have HM6 := Lib.hid (MadeE.own (B := w.heap.size) (n := ((es.take k).map publicE).length + 1) (by simp) hg6 ho6)
                clear hg6 ho6 hb6 hk6 HG5 HM5 hS5 hc4
                have hHeld := HG6.out.1
                generalize hnn : ((es.take k).map publicE).length + 1 = nn at *
                clear hnn
                refine hK.out _ _ HG6.out.1 (fun _ => ?_)
                clear hK K
                try simp only [Act.put, List.setIfInBounds_toArray, List.set_cons_zero, List.set_cons_succ]
                refine wpAnyH_take (i := 10) (oi := ⟨some 53, _, _, _, _, _⟩) (v := ?vz43) rfl (by kernel_rfl) (by kernel_rfl) (by kernel_rfl) (fun _ _ _ h => h) (Or.inl ⟨by rfl, ?yz43⟩) hHeld ?rz43
                case yz43 =>
                  intro wx hSx
                  go_simp
                  try with_reducible rfl
                try simp only [Act.put, List.setIfInBounds_toArray, List.set_cons_zero, List.set_cons_succ]
                refine wpAnyH_ready (rs := [11]) (by kernel_rfl) (by simp) ?_
                refine (AllReadyH.cons (o := ⟨none, _, _, _, _, _⟩) rfl (fun K hK => ?way43_0) AllReadyH.nil)
                case way43_0 =>
                  have hc6 := cellG HG6.out
                  have hf6 := free_at HG6.out.2.1 4
                  go_simp
                  have HG7 := Lib.hid (show GdP w #[.bool false, .string frm, .string dest, .int .i64 id, .slice (some ⟨b, off, none⟩) es.length cap] g #[.bool false, .string sf, .string sd, .int .i64 (1 + ai), .slice (some ⟨g6, 0, none⟩) nn c6] _ from HG6.out.store (u := .slice (some ⟨g6, 0, none⟩) nn c6) (i := 4))
                  have HM7 := Lib.hid (made_keep HM6.out HG6.out.2.1 (by decide) (grown_set w6 g 4 (.slice (some ⟨g6, 0, none⟩) nn c6)))
                  generalize hW : World.setCell _ _ _ = w7 at HG7 HM7 ⊢
                  clear hW hc6 hf6 HG6 HM6 hHeld
                  refine hK.out _ _ HG7.out.1 (fun _ => ?_)
                  clear hK K
                  try simp only [Act.put, List.setIfInBounds_toArray, List.set_cons_zero, List.set_cons_succ]
                  refine wpAnyH_done (by kernel_rfl) ?_ _
                  go_wp2_with fail
                  rw [← HS.out] at HM7
                  refine ⟨⟨k + 1, _, by omega, (fun h => by cases h), by go_num, HG7, HM7⟩, ?_⟩
                  simp [intOf]; omega
        case way38_1 =>
          go_simp
          refine (HP.out _).mono ?_
          rintro e w4 ⟨rfl, hb4⟩
          replace HM := Lib.hid (HM.out.below hb4)
          replace HG := Lib.hid (HG.out.later hb4)
          have hHeld := HG.out.1
          clear hb4
          have hc4 := cellG HG.out
          refine hK.out _ _ HG.out.1 (fun _ => ?_)
          clear hK K
          try simp only [Act.put, List.setIfInBounds_toArray, List.set_cons_zero, List.set_cons_succ]
          refine wpAnyH_ready (rs := [1, 8]) (by kernel_rfl) (by simp) ?_
          refine (AllReadyH.cons (o := ⟨some 44, _, _, _, _, _⟩) rfl (fun K hK => ?way44_0) (AllReadyH.cons (o := ⟨some 51, _, _, _, _, _⟩) rfl (fun K hK => ?way44_1) AllReadyH.nil))
          case way44_0 =>
            go_simp
            refine hK.out _ _ HG.out.1 (fun _ => ?_)
            clear hK K
            try simp only [Act.put, List.setIfInBounds_toArray, List.set_cons_zero, List.set_cons_succ]
            refine wpAnyH_ready (rs := [8]) (by kernel_rfl) (by simp) ?_
            refine (AllReadyH.cons (o := ⟨some 51, _, _, _, _, _⟩) rfl (fun K hK => ?way45_0) AllReadyH.nil)
            case way45_0 =>
              rw [if_pos (by rfl)]
              refine wp_buildE (.tmp 50) rfl ne rfl ?_
              have HG5 := Lib.hid (HG.out.later (below_new w4 (.cells ne.cells.toArray 50)))
              have HM5 := Lib.hid (HM.out.below (below_new w4 (.cells ne.cells.toArray 50)))
              have hS5 := Lib.hid (Src.ofEdu w4 ne w4.heap.size rfl)
              clear HG HM hc4 hHeld
              have hc4 := cellG HG5.out
              generalize hW : (w4.alloc (.cells ne.cells.toArray 50)) = w5 at *
              generalize hP : w4.heap.size = B5 at *
              clear hW hP
              refine hK.out _ _ HG5.out.1 (fun _ => ?_)
              clear hK K
              try simp only [Act.put, List.setIfInBounds_toArray, List.set_cons_zero, List.set_cons_succ]
              refine wpAnyH_ready (rs := [9]) (by kernel_rfl) (by simp) ?_
              refine (AllReadyH.cons (o := ⟨some 52, _, _, _, _, _⟩) rfl (fun K hK => ?way46_0) AllReadyH.nil)
              case way46_0 =>
                rw [if_pos (by rfl)]
                refine wp_putE (.tmp 44) (.tmp 51) rfl rfl HM5.out HG5.out.1.1.size _ ne hnw.out rfl hS5.out (by rw [List.length_map, List.length_take]; omega) ?_
                intro g6 c6 w6 hg6 ho6 hb6 hk6
                have HG6 := Lib.hid (HG5.out.put hb6 hk6)
                have HM6 := Lib.hid (MadeE.own (B := w.heap.size) (n := ((es.take k).map publicE).length + 1) (by simp) hg6 ho6)
                clear hg6 ho6 hb6 hk6 HG5 HM5 hS5 hc4
                have hHeld := HG6.out.1
                generalize hnn : ((es.take k).map publicE).length + 1 = nn at *
                clear hnn
                refine hK.out _ _ HG6.out.1 (fun _ => ?_)
                clear hK K
                try simp only [Act.put, List.setIfInBounds_toArray, List.set_cons_zero, List.set_cons_succ]
                refine wpAnyH_take (i := 10) (oi := ⟨some 53, _, _, _, _, _⟩) (v := ?vz48) rfl (by kernel_rfl) (by kernel_rfl) (by kernel_rfl) (fun _ _ _ h => h) (Or.inl ⟨by rfl, ?yz48⟩) hHeld ?rz48
                case yz48 =>
                  intro wx hSx
                  go_simp
                  try with_reducible rfl
                try simp only [Act.put, List.setIfInBounds_toArray, List.set_cons_zero, List.set_cons_succ]
                refine wpAnyH_ready (rs := [11]) (by kernel_rfl) (by simp) ?_
                refine (AllReadyH.cons (o := ⟨none, _, _, _, _, _⟩) rfl (fun K hK => ?way48_0) AllReadyH.nil)
                case way48_0 =>
                  have hc6 := cellG HG6.out
                  have hf6 := free_at HG6.out.2.1 4
                  go_simp
                  have HG7 := Lib.hid (show GdP w #[.bool false, .string frm, .string dest, .int .i64 id, .slice (some ⟨b, off, none⟩) es.length cap] g #[.bool false, .string sf, .string sd, .int .i64 (1 + ai), .slice (some ⟨g6, 0, none⟩) nn c6] _ from HG6.out.store (u := .slice (some ⟨g6, 0, none⟩) nn c6) (i := 4))
                  have HM7 := Lib.hid (made_keep HM6.out HG6.out.2.1 (by decide) (grown_set w6 g 4 (.slice (some ⟨g6, 0, none⟩) nn c6)))
                  generalize hW : World.setCell _ _ _ = w7 at HG7 HM7 ⊢
                  clear hW hc6 hf6 HG6 HM6 hHeld
                  refine hK.out _ _ HG7.out.1 (fun _ => ?_)
                  clear hK K
                  try simp only [Act.put, List.setIfInBounds_toArray, List.set_cons_zero, List.set_cons_succ]
                  refine wpAnyH_done (by kernel_rfl) ?_ _
                  go_wp2_with fail
                  rw [← HS.out] at HM7
                  refine ⟨⟨k + 1, _, by omega, (fun h => by cases h), by go_num, HG7, HM7⟩, ?_⟩
                  simp [intOf]; omega
          case way44_1 =>
            rw [if_pos (by rfl)]
            refine wp_buildE (.tmp 50) rfl ne rfl ?_
            have HG5 := Lib.hid (HG.out.later (below_new w4 (.cells ne.cells.toArray 50)))
            have HM5 := Lib.hid (HM.out.below (below_new w4 (.cells ne.cells.toArray 50)))
            have hS5 := Lib.hid (Src.ofEdu w4 ne w4.heap.size rfl)
            clear HG HM hc4 hHeld
            have hc4 := cellG HG5.out
            generalize hW : (w4.alloc (.cells ne.cells.toArray 50)) = w5 at *
            generalize hP : w4.heap.size = B5 at *
            clear hW hP
            refine hK.out _ _ HG5.out.1 (fun _ => ?_)
            clear hK K
            try simp only [Act.put, List.setIfInBounds_toArray, List.set_cons_zero, List.set_cons_succ]
            refine wpAnyH_ready (rs := [1]) (by kernel_rfl) (by simp) ?_
            refine (AllReadyH.cons (o := ⟨some 44, _, _, _, _, _⟩) rfl (fun K hK => ?way49_0) AllReadyH.nil)
            case way49_0 =>
              go_simp
              refine hK.out _ _ HG5.out.1 (fun _ => ?_)
              clear hK K
              try simp only [Act.put, List.setIfInBounds_toArray, List.set_cons_zero, List.set_cons_succ]
              refine wpAnyH_ready (rs := [9]) (by kernel_rfl) (by simp) ?_
              refine (AllReadyH.cons (o := ⟨some 52, _, _, _, _, _⟩) rfl (fun K hK => ?way50_0) AllReadyH.nil)
              case way50_0 =>
                rw [if_pos (by rfl)]
                refine wp_putE (.tmp 44) (.tmp 51) rfl rfl HM5.out HG5.out.1.1.size _ ne hnw.out rfl hS5.out (by rw [List.length_map, List.length_take]; omega) ?_
                intro g6 c6 w6 hg6 ho6 hb6 hk6
                have HG6 := Lib.hid (HG5.out.put hb6 hk6)
                have HM6 := Lib.hid (MadeE.own (B := w.heap.size) (n := ((es.take k).map publicE).length + 1) (by simp) hg6 ho6)
                clear hg6 ho6 hb6 hk6 HG5 HM5 hS5 hc4
                have hHeld := HG6.out.1
                generalize hnn : ((es.take k).map publicE).length + 1 = nn at *
                clear hnn
                refine hK.out _ _ HG6.out.1 (fun _ => ?_)
                clear hK K
                try simp only [Act.put, List.setIfInBounds_toArray, List.set_cons_zero, List.set_cons_succ]
                refine wpAnyH_take (i := 10) (oi := ⟨some 53, _, _, _, _, _⟩) (v := ?vz52) rfl (by kernel_rfl) (by kernel_rfl) (by kernel_rfl) (fun _ _ _ h => h) (Or.inl ⟨by rfl, ?yz52⟩) hHeld ?rz52
                case yz52 =>
                  intro wx hSx
                  go_simp
                  try with_reducible rfl
                try simp only [Act.put, List.setIfInBounds_toArray, List.set_cons_zero, List.set_cons_succ]
                refine wpAnyH_ready (rs := [11]) (by kernel_rfl) (by simp) ?_
                refine (AllReadyH.cons (o := ⟨none, _, _, _, _, _⟩) rfl (fun K hK => ?way52_0) AllReadyH.nil)
                case way52_0 =>
                  have hc6 := cellG HG6.out
                  have hf6 := free_at HG6.out.2.1 4
                  go_simp
                  have HG7 := Lib.hid (show GdP w #[.bool false, .string frm, .string dest, .int .i64 id, .slice (some ⟨b, off, none⟩) es.length cap] g #[.bool false, .string sf, .string sd, .int .i64 (1 + ai), .slice (some ⟨g6, 0, none⟩) nn c6] _ from HG6.out.store (u := .slice (some ⟨g6, 0, none⟩) nn c6) (i := 4))
                  have HM7 := Lib.hid (made_keep HM6.out HG6.out.2.1 (by decide) (grown_set w6 g 4 (.slice (some ⟨g6, 0, none⟩) nn c6)))
                  generalize hW : World.setCell _ _ _ = w7 at HG7 HM7 ⊢
                  clear hW hc6 hf6 HG6 HM6 hHeld
                  refine hK.out _ _ HG7.out.1 (fun _ => ?_)
                  clear hK K
                  try simp only [Act.put, List.setIfInBounds_toArray, List.set_cons_zero, List.set_cons_succ]
                  refine wpAnyH_done (by kernel_rfl) ?_ _
                  go_wp2_with fail
                  rw [← HS.out] at HM7
                  refine ⟨⟨k + 1, _, by omega, (fun h => by cases h), by go_num, HG7, HM7⟩, ?_⟩
                  simp [intOf]; omega
end Go.Proofs.Ytnabbebkmafakaa
