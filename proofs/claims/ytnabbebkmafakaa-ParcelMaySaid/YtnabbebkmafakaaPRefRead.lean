/-
  The document's Read of a parcel, walked.
-/
import Derived.Test.YtnabbebkmafakaaPFew
namespace Go.Proofs.Ytnabbebkmafakaa
set_option maxRecDepth 20000
open Go.RowKit
set_option linter.unusedVariables false
set_option linter.unusedSimpArgs false

/-- While the document reads a parcel. -/
def RfP (w : World) (g E : Nat) (cs : Array Value) (s : St) (w' : World) : Prop :=
  Below w.heap.size w w' ∧ (∃ X : Array Value, X.size = 5 ∧ w'.heap[w.heap.size]? = some (.cells X 24 (0, 0))) ∧ RfQ w' w.heap.size g s ∧ w'.heap[E]? = some (.cells cs 24 (0, 0)) ∧ w.heap.size < g ∧ w.heap.size < E ∧ g ≠ E
theorem RfP.later {w w' w'' : World} {g E : Nat} {cs : Array Value} {s : St} (h : RfP w g E cs s w') (hb : Below w'.heap.size w' w'') : RfP w g E cs s w'' := by
  obtain ⟨h1, ⟨X, hX, h2⟩, h3, h4, h5⟩ := h
  exact ⟨Go.Proofs.Ytnabbebkmafakaa.later h1 hb, ⟨X, hX, (hb.block _ (heap_lt h2)).trans h2⟩, h3.below hb, (hb.block _ (heap_lt h4)).trans h4, h5⟩
theorem RfP.drewN {w w' : World} {g E : Nat} {cs : Array Value} {s : St} (h : RfP w g E cs s w') (n : Nat) : RfP w g E cs s (w'.drewN n) := ⟨below_drewN h.1 n, h.2⟩
theorem RfP.read {w w' w'' : World} {g E : Nat} {cs : Array Value} {s s' : St} (h : RfP w g E cs s w') (hr : RfQ w'' w.heap.size g s') (hg : w'.grownBy w'' (some g)) : RfP w g E cs s' w'' := by
  obtain ⟨h1, ⟨X, hX, h2⟩, h3, h4, h5, h6, h7⟩ := h
  exact ⟨below_grown h1 hg (by omega), ⟨X, hX, (hg.block _ (heap_lt h2) (fun e => by injection e with e; omega)).trans h2⟩, hr, (hg.block _ (heap_lt h4) (fun e => h7 (by injection e with e; exact e.symm))).trans h4, h5, h6, h7⟩
theorem RfP.store {w w' : World} {g E i : Nat} {cs : Array Value} {s : St} {u : Value} (h : RfP w g E cs s w') : RfP w g E (cs.setIfInBounds i u) s (w'.setCell ⟨E, i, none⟩ u) := by
  obtain ⟨h1, ⟨X, hX, h2⟩, ⟨v, bs, I, hh, hr, r⟩, h4, h5, h6, h7⟩ := h
  have hg := grown_set w' E i u
  exact ⟨h1.setCell (by simp; omega) _, ⟨X, hX, (hg.block _ (heap_lt h2) (fun e => by injection e with e; omega)).trans h2⟩, ⟨v, bs, I, (hg.block _ (heap_lt hh) (fun e => h7 (by injection e))).trans hh, hr.store (by omega) _, r⟩, heap_set h4 i u, h5, h6, h7⟩
theorem RfP.put {w w' w'' : World} {g E : Nat} {cs : Array Value} {s : St} (h : RfP w g E cs s w') (hb : Below w.heap.size w' w'') (hk : ∀ k, k < w'.heap.size → (∀ cur, w'.heap[k]? ≠ some (.cells cur 50 (0, 0))) → w''.heap[k]? = w'.heap[k]?) : RfP w g E cs s w'' := by
  obtain ⟨h1, ⟨X, hX, h2⟩, ⟨v, bs, I, hh, hr, r⟩, h4, h5⟩ := h
  exact ⟨h1.trans hb, ⟨X, hX, keep_other hk h2 (by decide)⟩, ⟨v, bs, I, keep_other hk hh (by decide), ⟨hr.1.keep fun b hb' _ => hb.block b hb', hr.2⟩, r⟩, keep_other hk h4 (by decide), h5⟩
theorem RfP.e {w w' : World} {g E : Nat} {cs : Array Value} {s : St} (h : RfP w g E cs s w') : w'.cell? ⟨g, 2, none⟩ = some (.int .i64 (s.2 : Int)) := by
  obtain ⟨_, _, ⟨v, bs, I, hh, _⟩, _⟩ := h
  exact cell_at hh 2
theorem RfP.made {w w' w'' : World} {B g E : Nat} {cs : Array Value} {S : Value} {s : St} {es : List Edu} (hr : RfP w g E cs s w') (h : MadeE w' B S es) (hg : w'.grownBy w'' (some g)) : MadeE w'' B S es := by
  obtain ⟨_, _, ⟨v, bs, I, hh, _⟩, _⟩ := hr
  exact made_keep h hh (by decide) hg
theorem cellF {w : World} {g E : Nat} {a b c d S : Value} {s : St} {w' : World} (h : RfP w g E #[a, b, c, d, S] s w') : w'.cell? ⟨E, 4, none⟩ = some S := cell_at h.2.2.2.1 4
/-- Is the next one an EDU? -/
def okM (m : Int) (s : St) : Prop := (textS s m).2.2 = 0 ∧ readB 1000 (textS s m).1 = true
theorem readM_step {m : Int} {n k : Nat} {s s5 : St} {es : List Edu} (hk : k < n) (h : readL m n s5 = (readL m (n - k) s).map (fun r => (es ++ r.1, r.2))) (hok : okM m s) : readL m n s5 = (readL m (n - (k + 1)) (textS s m).2).map (fun r => (es ++ [(readE 1000 (textS s m).1).1] ++ r.1, r.2)) := by
  unfold okM at hok
  rw [h, show n - k = n - (k + 1) + 1 by omega, readL, if_pos hok, Option.map_map]
  congr 1
  funext r
  simp
theorem readM_stop {m : Int} {n k : Nat} {s : St} {es : List Edu} (hk : k < n) (hok : ¬ okM m s) : (readL m (n - k) s).map (fun r => (es ++ r.1, r.2)) = none := by
  unfold okM at hok
  rw [show n - k = n - (k + 1) + 1 by omega, readL, if_neg hok]
  rfl
theorem readM_end {m : Int} {n : Nat} {s s5 : St} {es : List Edu} (h : readL m n s5 = (readL m (n - n) s).map (fun r => (es ++ r.1, r.2))) : readL m n s5 = some (es, s) := by
  rw [h, Nat.sub_self, readL]
  simp
theorem readM_start (m : Int) (n : Nat) (s : St) : readL m n s = (readL m (n - 0) s).map (fun r => ([] ++ r.1, r.2)) := by
  rw [Nat.sub_zero]
  cases readL m n s <;> rfl
theorem readP_ref {m1 m2 : Int} {bs : List UInt8} {ack : Bool} {f t : List UInt8} {i n : Nat} {s1 s2 s3 s4 s5 : St} (h1 : flagS (bs, 0) = (ack, s1)) (h2 : textS s1 m1 = (f, s2)) (h3 : textS s2 m1 = (t, s3)) (h4 : numS s3 = (i, s4)) (h5 : numS s4 = (n, s5)) :
    readP m1 m2 bs = if s5.2 = 0 then finishP ack f t i n (readL m2 n s5) else none := by
  unfold readP
  simp only [h1, h2, h3, h4, h5]
  by_cases h0 : s5.2 = 0
  · rw [if_pos h0]
    unfold finishP
    by_cases hn : n ≤ 100
    · rw [if_pos ⟨h0, hn⟩, if_pos hn]
      cases readL m2 n s5 <;> rfl
    · rw [if_neg (fun h => hn h.2), if_neg hn]
  · rw [if_neg (fun h => h0 h.1), if_neg h0]
theorem readE_may {bs : List UInt8} (h : readB 1000 bs = true) : mayB (readE 1000 bs).1 = true := by
  unfold readB at h
  rw [Bool.and_eq_true] at h
  exact h.2

set_option maxHeartbeats 6400000 in
theorem refReadPar_any (v : Value) (bs : List UInt8) (w : World) (h : ArgQ w w.heap.size v bs) (hl : bs.length ≤ 1000000) :
    Calls Try.prog 18 #[v] w (ReadPost w (readP 1000 100000 bs)) := by
  have HRow := Lib.hid h
  obtain ⟨A, cc, rfl, _⟩ := h
  have H1 := Lib.hid (show flagS (bs, 0) = ((flagS (bs, 0)).1, (flagS (bs, 0)).2) from rfl)
  have L1 := flagS_len (bs, 0)
  generalize (flagS (bs, 0)).1 = ack at H1 L1
  generalize (flagS (bs, 0)).2 = s1 at H1 L1
  have H2 := Lib.hid (show textS s1 1000 = ((textS s1 1000).1, (textS s1 1000).2) from rfl)
  have L2 := textS_len s1 1000
  have T2 := text_len s1 1000
  generalize (textS s1 1000).1 = f at H2 L2 T2
  generalize (textS s1 1000).2 = s2 at H2 L2 T2
  have H3 := Lib.hid (show textS s2 1000 = ((textS s2 1000).1, (textS s2 1000).2) from rfl)
  have L3 := textS_len s2 1000
  have T3 := text_len s2 1000
  generalize (textS s2 1000).1 = t at H3 L3 T3
  generalize (textS s2 1000).2 = s3 at H3 L3 T3
  have H4 := Lib.hid (show numS s3 = ((numS s3).1, (numS s3).2) from rfl)
  have L4 := numS_len s3
  generalize (numS s3).1 = i at H4 L4
  generalize (numS s3).2 = s4 at H4 L4
  have H5 := Lib.hid (show numS s4 = ((numS s4).1, (numS s4).2) from rfl)
  have L5 := numS_len s4
  generalize (numS s4).1 = n at H5 L5
  generalize (numS s4).2 = s5 at H5 L5
  have N4 := numS_small H4.out
  have N5 := numS_small H5.out
  have HO := Lib.hid (readP_ref (m2 := 100000) H1.out H2.out H3.out H4.out H5.out)
  generalize readP 1000 100000 bs = o at *
  simp only at L1
  go_enter Try.func18, Try.ntmps18
  go_wp2_with fail
  have hE : RfP w (w.heap.size + 1) (w.heap.size + 1 + 1) #[.bool false, .string ⟨#[]⟩, .string ⟨#[]⟩, .int .i64 0, .slice none 0 0] (bs, 0) (((w.alloc (.cells #[.bool false, .string ⟨#[]⟩, .string ⟨#[]⟩, .int .i64 0, .slice none 0 0] 24)).alloc (.cells #[.slice A bs.length cc, .int .i64 0, .int .i64 0] 68)).alloc (.cells #[.bool false, .string ⟨#[]⟩, .string ⟨#[]⟩, .int .i64 0, .slice none 0 0] 24)) := by
    obtain ⟨e0, e1, e2, hb, _⟩ := at_three (w := w) (.cells #[.bool false, .string ⟨#[]⟩, .string ⟨#[]⟩, .int .i64 0, .slice none 0 0] 24) (.cells #[.slice A bs.length cc, .int .i64 0, .int .i64 0] 68) (.cells #[.bool false, .string ⟨#[]⟩, .string ⟨#[]⟩, .int .i64 0, .slice none 0 0] 24) rfl
    obtain ⟨_, e1', _, _⟩ := at_two (w := w) (.cells #[.bool false, .string ⟨#[]⟩, .string ⟨#[]⟩, .int .i64 0, .slice none 0 0] 24) (.cells #[.slice A bs.length cc, .int .i64 0, .int .i64 0] 68) rfl
    have hr1 := HRow.out.below (below_new w (.cells #[.bool false, .string ⟨#[]⟩, .string ⟨#[]⟩, .int .i64 0, .slice none 0 0] 24))
    have hr2 : RfQ ((w.alloc (.cells #[.bool false, .string ⟨#[]⟩, .string ⟨#[]⟩, .int .i64 0, .slice none 0 0] 24)).alloc (.cells #[.slice A bs.length cc, .int .i64 0, .int .i64 0] 68)) w.heap.size (w.heap.size + 1) (bs, 0) := ⟨_, bs, 0, e1', ⟨hr1.below (below_new _ _), by omega⟩, Nat.zero_le _, hl, by simp⟩
    exact ⟨hb, ⟨_, rfl, e0⟩, hr2.below (below_new _ _), e2, by omega, by omega, by omega⟩
  generalize hW : (((w.alloc (.cells #[.bool false, .string ⟨#[]⟩, .string ⟨#[]⟩, .int .i64 0, .slice none 0 0] 24)).alloc (.cells #[.slice A bs.length cc, .int .i64 0, .int .i64 0] 68)).alloc (.cells #[.bool false, .string ⟨#[]⟩, .string ⟨#[]⟩, .int .i64 0, .slice none 0 0] 24)) = W at *
  have HE := Lib.hid hE
  clear hW hE HRow
  generalize hg0 : w.heap.size + 1 = g at *
  generalize hE0 : g + 1 = E at *
  clear hg0 hE0
  refine (refFlagRQ_any w.heap.size g (bs, 0) _ HE.out.2.2.1).mono ?_
  rintro e w2 ⟨rfl, hr2, hg2⟩
  rw [H1.out] at hr2 ⊢
  replace HE := Lib.hid (HE.out.read hr2 hg2)
  clear hr2 hg2 W
  have hc0 : w2.cell? ⟨E, 0, none⟩ = some (.bool false) := cell_at HE.out.2.2.2.1 0
  have hf0 := free_at HE.out.2.2.2.1 0
  simp only
  go_wp2_with fail
  replace HE := Lib.hid (show RfP w g E #[.bool ack, .string ⟨#[]⟩, .string ⟨#[]⟩, .int .i64 0, .slice none 0 0] s1 (w2.setCell ⟨E, 0, none⟩ (.bool ack)) from HE.out.store)
  generalize hW : (w2.setCell ⟨E, 0, none⟩ (.bool ack)) = W2 at *
  clear hW hc0 hf0 w2
  refine (refTextRQ_any w.heap.size g s1 1000 _ HE.out.2.2.1 (by decide) (by decide)).mono ?_
  rintro e w2 ⟨rfl, hr2, hg2⟩
  rw [H2.out] at hr2 ⊢
  replace HE := Lib.hid (HE.out.read hr2 hg2)
  clear hr2 hg2 W2
  have hc0 : w2.cell? ⟨E, 1, none⟩ = some (.string ⟨#[]⟩) := cell_at HE.out.2.2.2.1 1
  have hf0 := free_at HE.out.2.2.2.1 1
  simp only
  go_wp2_with fail
  replace HE := Lib.hid (show RfP w g E #[.bool ack, .string (strOf f), .string ⟨#[]⟩, .int .i64 0, .slice none 0 0] s2 (w2.setCell ⟨E, 1, none⟩ (.string (strOf f))) from HE.out.store)
  generalize hW : (w2.setCell ⟨E, 1, none⟩ (.string (strOf f))) = W2 at *
  clear hW hc0 hf0 w2
  refine (refTextRQ_any w.heap.size g s2 1000 _ HE.out.2.2.1 (by decide) (by decide)).mono ?_
  rintro e w2 ⟨rfl, hr2, hg2⟩
  rw [H3.out] at hr2 ⊢
  replace HE := Lib.hid (HE.out.read hr2 hg2)
  clear hr2 hg2 W2
  have hc0 : w2.cell? ⟨E, 2, none⟩ = some (.string ⟨#[]⟩) := cell_at HE.out.2.2.2.1 2
  have hf0 := free_at HE.out.2.2.2.1 2
  simp only
  go_wp2_with fail
  replace HE := Lib.hid (show RfP w g E #[.bool ack, .string (strOf f), .string (strOf t), .int .i64 0, .slice none 0 0] s3 (w2.setCell ⟨E, 2, none⟩ (.string (strOf t))) from HE.out.store)
  generalize hW : (w2.setCell ⟨E, 2, none⟩ (.string (strOf t))) = W2 at *
  clear hW hc0 hf0 w2
  refine (refNumRQ_any w.heap.size g s3 _ HE.out.2.2.1).mono ?_
  rintro e w2 ⟨rfl, hr2, hg2⟩
  rw [H4.out] at hr2 ⊢
  replace HE := Lib.hid (HE.out.read hr2 hg2)
  clear hr2 hg2 W2
  have hc0 : w2.cell? ⟨E, 3, none⟩ = some (.int .i64 0) := cell_at HE.out.2.2.2.1 3
  have hf0 := free_at HE.out.2.2.2.1 3
  simp only
  go_wp2_with fail
  replace HE := Lib.hid (show RfP w g E #[.bool ack, .string (strOf f), .string (strOf t), .int .i64 (i : Int), .slice none 0 0] s4 (w2.setCell ⟨E, 3, none⟩ (.int .i64 (i : Int))) from HE.out.store)
  generalize hW : (w2.setCell ⟨E, 3, none⟩ (.int .i64 (i : Int))) = W2 at *
  clear hW hc0 hf0 w2
  refine (refNumRQ_any w.heap.size g s4 _ HE.out.2.2.1).mono ?_
  rintro e w2 ⟨rfl, hr2, hg2⟩
  rw [H5.out] at hr2 ⊢
  replace HE := Lib.hid (HE.out.read hr2 hg2)
  clear hr2 hg2 W2 H1 H2 H3 H4 H5
  simp only
  have he := HE.out.e
  by_cases h5 : s5.2 = 0
  rotate_left
  · have q0 : ((s5.2 : Int) == 0) = false := by simp; omega
    have q0' : decide ((s5.2 : Int) = 0) = false := by simp; omega
    rw [if_neg h5] at HO
    obtain ⟨X, hX, hx3⟩ := HE.out.2.1
    have Hset := Lib.hid (setRow_heap _ _ _ #[.bool false, .string ⟨#[]⟩, .string ⟨#[]⟩, .int .i64 0, .slice none 0 0] _ _ hx3)
    have HB3 := Lib.hid (below_setRow HE.out.1 (Nat.le_refl w.heap.size) #[.bool false, .string ⟨#[]⟩, .string ⟨#[]⟩, .int .i64 0, .slice none 0 0])
    replace hx3 := Lib.hid hx3
    go_wp2_with (refine wpList_store_row rfl 24 (.tmp 2) (.tmp 38) rfl w.heap.size #[.bool false, .string ⟨#[]⟩, .string ⟨#[]⟩, .int .i64 0, .slice none 0 0] rfl rfl 24 X hx3.out parR_size (hX.trans rfl) (one5 _ _ _ _ _ _ _) ?_)
    generalize hW2 : World.setRow _ _ _ = W5 at Hset HB3 ⊢
    clear hW2 he
    obtain ⟨d0, d1, d2, d3, d4⟩ := cells5p Hset.out
    go_wp2_with fail
    refine bodyPost_ret (v := .tuple #[.agg #[.bool false, .string ⟨#[]⟩, .string ⟨#[]⟩, .int .i64 0, .slice none 0 0], .int .i64 2]) ?_ rfl ⟨HB3.out, .inr ⟨HO.out, rfl⟩⟩
    simp [results, Try.results18, go_sem, d0, d1, d2, d3, d4]
  rw [if_pos h5] at HO
  rw [h5] at he
  have H5 := Lib.hid h5
  clear h5
  by_cases hn : n ≤ 100
  rotate_left
  · have q1 : decide ((100 : Int) < (n : Int)) = true := by simp; omega
    rw [finishP_many hn] at HO
    obtain ⟨X, hX, hx3⟩ := HE.out.2.1
    have Hset := Lib.hid (setRow_heap _ _ _ #[.bool false, .string ⟨#[]⟩, .string ⟨#[]⟩, .int .i64 0, .slice none 0 0] _ _ hx3)
    have HB3 := Lib.hid (below_setRow HE.out.1 (Nat.le_refl w.heap.size) #[.bool false, .string ⟨#[]⟩, .string ⟨#[]⟩, .int .i64 0, .slice none 0 0])
    replace hx3 := Lib.hid hx3
    go_wp2_with (refine wpList_store_row rfl 24 (.tmp 2) (.tmp 38) rfl w.heap.size #[.bool false, .string ⟨#[]⟩, .string ⟨#[]⟩, .int .i64 0, .slice none 0 0] rfl rfl 24 X hx3.out parR_size (hX.trans rfl) (one5 _ _ _ _ _ _ _) ?_)
    generalize hW2 : World.setRow _ _ _ = W5 at Hset HB3 ⊢
    clear hW2 he
    obtain ⟨d0, d1, d2, d3, d4⟩ := cells5p Hset.out
    go_wp2_with fail
    refine bodyPost_ret (v := .tuple #[.agg #[.bool false, .string ⟨#[]⟩, .string ⟨#[]⟩, .int .i64 0, .slice none 0 0], .int .i64 2]) ?_ rfl ⟨HB3.out, .inr ⟨HO.out, rfl⟩⟩
    simp [results, Try.results18, go_sem, d0, d1, d2, d3, d4]
  have q1 : decide ((100 : Int) < (n : Int)) = false := by simp; omega
  go_wp2_with fail
  clear he
  go_loopw [7] (fun iv wr => ∃ (k : Nat) (es : List Edu) (S : Value) (s : St), k ≤ n ∧ iv = .int .i64 (k : Int) ∧ Hid (es.length = k) ∧ s.1.length ≤ 1000000 ∧ Hid (readL 100000 n s5 = (readL 100000 (n - k) s).map (fun r => (es ++ r.1, r.2))) ∧ Hid (RfP w g E #[.bool ack, .string (strOf f), .string (strOf t), .int .i64 (i : Int), S] s wr) ∧ Hid (MadeE wr w.heap.size S es)) (fun iv _ => n - (intOf iv).toNat)
  case atStart => exact ⟨0, [], .slice none 0 0, s5, Nat.zero_le _, rfl, Lib.hid rfl, by omega, Lib.hid (readM_start 100000 n s5), HE, Lib.hid (MadeE.nil _ _)⟩
  case round =>
    obtain ⟨k, es, S, s, hk, rfl, hes, hsl, hrl, HE', HM⟩ := hrel
    clear HE
    have HE := HE'
    clear HE'
    by_cases hlt : k < n
    · have q2 : decide ((k : Int) < (n : Int)) = true := by simp; omega
      have HY := Lib.hid (fun hok => readM_step hlt hrl.out hok)
      have HNo := Lib.hid (fun hok : ¬ okM 100000 s => show o = none by rw [HO.out, hrl.out, readM_stop hlt hok]; exact finishP_none)
      have hT := Nat.le_trans (text_len s 100000) hsl
      have hS2 := Nat.le_trans (textS_len s 100000) hsl
      have HOK := Lib.hid (show okM 100000 s ↔ (textS s 100000).2.2 = 0 ∧ readB 1000 (textS s 100000).1 = true from Iff.rfl)
      have HMY := Lib.hid (fun hb => readE_may (bs := (textS s 100000).1) hb)
      have HAY := Lib.hid (fun hb => answerN_yes (m := 1000) (bs := (textS s 100000).1) hb)
      have HAN := Lib.hid (fun hb => answerN_no (m := 1000) (bs := (textS s 100000).1) hb)
      go_wp2_with fail
      refine (refTextRQ_any w.heap.size g s 100000 _ HE.out.2.2.1 (by decide) (by decide)).mono ?_
      rintro e w3 ⟨rfl, hr3, hg3⟩
      replace HM := Lib.hid (HE.out.made HM.out hg3)
      replace HE := Lib.hid (HE.out.read hr3 hg3)
      clear hr3 hg3
      generalize okM 100000 s = OK at *
      generalize hrd : (readE 1000 (textS s 100000).1).1 = ne at *
      generalize (textS s 100000).2 = s' at *
      generalize (textS s 100000).1 = tx at *
      clear hrd
      have hcv := fun w => conv_bytes (strOf tx) w
      go_wp2_with fail
      have hq := bytes_argQ (strOf tx) w3 (by rw [strOf_size, maxLen_eq]; omega)
      rw [strOf_data, ← Lib.bytesWorld_size w3 5 (strOf tx)] at hq
      refine (refReadQ_any _ tx _ hq hT).mono ?_
      rintro e w4 ⟨rfl, hb4⟩
      replace HE := Lib.hid ((HE.out.later (bytes_below _ _)).later hb4)
      replace HM := Lib.hid ((HM.out.below (bytes_below _ _)).below hb4)
      clear hb4 hq hcv
      generalize readB 1000 tx = rb at *
      generalize answerN 1000 tx = an at *
      generalize answerE 1000 tx = ae at *
      by_cases hok : s'.2 = 0 ∧ rb = true
      rotate_left
      · have HNN := Lib.hid (HNo.out (fun h => hok (HOK.out.1 h)))
        replace HO := HNN
        clear HNN HNo HY HOK HMY HAY
        obtain ⟨x0, x1, x2, x3, x4, x5, x6, x7, x8, x9, x10⟩ := ae
        simp only [Edu.val]
        by_cases h5 : s'.2 = 0
        rotate_left
        · have q0 : ((s'.2 : Int) == 0) = false := by simp; omega
          have q0' : decide ((s'.2 : Int) = 0) = false := by simp; omega
          go_upto_region 15 with (fail)
          replace HE := Lib.hid (HE.out.later (below_new w4 (.cells #[.int .i64 x0, .string x1, .string x2, .string x3, .string x4, .bool x5, .bool x6, .int .i64 x7, .int .i64 x8, .int .i64 x9, .int .i64 x10] 50)))
          generalize hW : (w4.alloc (.cells #[.int .i64 x0, .string x1, .string x2, .string x3, .string x4, .bool x5, .bool x6, .int .i64 x7, .int .i64 x8, .int .i64 x9, .int .i64 x10] 50)) = W4 at *
          clear hW
          have he := HE.out.e
          obtain ⟨X, hX, hx3⟩ := HE.out.2.1
          have Hset := Lib.hid (setRow_heap _ _ _ #[.bool false, .string ⟨#[]⟩, .string ⟨#[]⟩, .int .i64 0, .slice none 0 0] _ _ hx3)
          have HB3 := Lib.hid (below_setRow HE.out.1 (Nat.le_refl w.heap.size) #[.bool false, .string ⟨#[]⟩, .string ⟨#[]⟩, .int .i64 0, .slice none 0 0])
          replace hx3 := Lib.hid hx3
          go_wp2_with (refine wpList_store_row rfl 24 (.tmp 2) (.tmp 61) rfl w.heap.size #[.bool false, .string ⟨#[]⟩, .string ⟨#[]⟩, .int .i64 0, .slice none 0 0] rfl rfl 24 X hx3.out parR_size (hX.trans rfl) (one5 _ _ _ _ _ _ _) ?_)
          generalize hW2 : World.setRow _ _ _ = W5 at Hset HB3 ⊢
          clear hW2 he
          obtain ⟨d0, d1, d2, d3, d4⟩ := cells5p Hset.out
          go_wp2_with fail
          refine bodyPost_ret (v := .tuple #[.agg #[.bool false, .string ⟨#[]⟩, .string ⟨#[]⟩, .int .i64 0, .slice none 0 0], .int .i64 2]) ?_ rfl ⟨HB3.out, .inr ⟨HO.out, rfl⟩⟩
          simp [results, Try.results18, go_sem, d0, d1, d2, d3, d4]
        · have hrb : rb = false := by
            cases rb
            · rfl
            · exact absurd ⟨h5, rfl⟩ hok
          rw [HAN.out hrb]
          go_upto_region 15 with (fail)
          replace HE := Lib.hid (HE.out.later (below_new w4 (.cells #[.int .i64 x0, .string x1, .string x2, .string x3, .string x4, .bool x5, .bool x6, .int .i64 x7, .int .i64 x8, .int .i64 x9, .int .i64 x10] 50)))
          generalize hW : (w4.alloc (.cells #[.int .i64 x0, .string x1, .string x2, .string x3, .string x4, .bool x5, .bool x6, .int .i64 x7, .int .i64 x8, .int .i64 x9, .int .i64 x10] 50)) = W4 at *
          clear hW
          have he := HE.out.e
          rw [h5] at he
          clear h5 hok hrb HAN
          obtain ⟨X, hX, hx3⟩ := HE.out.2.1
          have Hset := Lib.hid (setRow_heap _ _ _ #[.bool false, .string ⟨#[]⟩, .string ⟨#[]⟩, .int .i64 0, .slice none 0 0] _ _ hx3)
          have HB3 := Lib.hid (below_setRow HE.out.1 (Nat.le_refl w.heap.size) #[.bool false, .string ⟨#[]⟩, .string ⟨#[]⟩, .int .i64 0, .slice none 0 0])
          replace hx3 := Lib.hid hx3
          go_wp2_with (refine wpList_store_row rfl 24 (.tmp 2) (.tmp 61) rfl w.heap.size #[.bool false, .string ⟨#[]⟩, .string ⟨#[]⟩, .int .i64 0, .slice none 0 0] rfl rfl 24 X hx3.out parR_size (hX.trans rfl) (one5 _ _ _ _ _ _ _) ?_)
          generalize hW2 : World.setRow _ _ _ = W5 at Hset HB3 ⊢
          clear hW2 he
          obtain ⟨d0, d1, d2, d3, d4⟩ := cells5p Hset.out
          go_wp2_with fail
          refine bodyPost_ret (v := .tuple #[.agg #[.bool false, .string ⟨#[]⟩, .string ⟨#[]⟩, .int .i64 0, .slice none 0 0], .int .i64 2]) ?_ rfl ⟨HB3.out, .inr ⟨HO.out, rfl⟩⟩
          simp [results, Try.results18, go_sem, d0, d1, d2, d3, d4]
      obtain ⟨h5, hrb⟩ := hok
      obtain ⟨a1, a2⟩ := HAY.out hrb
      have HY2 := Lib.hid (HY.out (HOK.out.2 ⟨h5, hrb⟩))
      have hme := Lib.hid (HMY.out hrb)
      rw [a1, a2]
      clear HNo HY HOK HMY HAY HAN a1 a2 hrb
      obtain ⟨x0, x1, x2, x3, x4, x5, x6, x7, x8, x9, x10⟩ := ne
      simp only [Edu.val]
      go_upto_region 15 with (fail)
      have hnew := heap_alloc_new w4 (.cells #[.int .i64 x0, .string x1, .string x2, .string x3, .string x4, .bool x5, .bool x6, .int .i64 x7, .int .i64 x8, .int .i64 x9, .int .i64 x10] 50)
      replace HM := Lib.hid (HM.out.below (below_new w4 (.cells #[.int .i64 x0, .string x1, .string x2, .string x3, .string x4, .bool x5, .bool x6, .int .i64 x7, .int .i64 x8, .int .i64 x9, .int .i64 x10] 50)))
      replace HE := Lib.hid (HE.out.later (below_new w4 (.cells #[.int .i64 x0, .string x1, .string x2, .string x3, .string x4, .bool x5, .bool x6, .int .i64 x7, .int .i64 x8, .int .i64 x9, .int .i64 x10] 50)))
      generalize hW : (w4.alloc (.cells #[.int .i64 x0, .string x1, .string x2, .string x3, .string x4, .bool x5, .bool x6, .int .i64 x7, .int .i64 x8, .int .i64 x9, .int .i64 x10] 50)) = W4 at *
      generalize hgg : w4.heap.size = F at *
      clear hW hgg
      have he := HE.out.e
      rw [h5] at he
      have hc4 := cellF HE.out
      obtain ⟨f0, f1, f2, f3, f4, f5, f6, f7, f8, f9, f10⟩ := cells11 hnew
      clear hnew h5
      have HE5 := Lib.hid (HE.out.later (below_new W4 (.cells #[.int .i64 x0, .string x1, .string x2, .string x3, .string x4, .bool x5, .bool x6, .int .i64 x7, .int .i64 x8, .int .i64 x9, .int .i64 x10] 50)))
      have HM5 := Lib.hid (HM.out.below (below_new W4 (.cells #[.int .i64 x0, .string x1, .string x2, .string x3, .string x4, .bool x5, .bool x6, .int .i64 x7, .int .i64 x8, .int .i64 x9, .int .i64 x10] 50)))
      have hS5 := Lib.hid (Src.ofEdu W4 ⟨x0, x1, x2, x3, x4, x5, x6, x7, x8, x9, x10⟩ W4.heap.size rfl)
      go_wp2_with (first | (at_builtin; refine wpList_putE rfl (.tmp 63) (.tmp 65) rfl rfl HM5.out HE5.out.1.size _ ⟨x0, x1, x2, x3, x4, x5, x6, x7, x8, x9, x10⟩ (may_well hme.out) rfl hS5.out (by rw [hes.out]; omega) ?_; intro g6 c6 w6 hg6 ho6 hb6 hk6; have HE6 := Lib.hid (HE5.out.put hb6 hk6); have HM6 := Lib.hid (MadeE.own (B := w.heap.size) (n := es.length + 1) (by simp) hg6 ho6); clear hg6 ho6 hb6 hk6; have hc6 := cellF HE6.out; have hf6 := free_at HE6.out.2.2.2.1 4) | (refine wpList_buildE rfl (.tmp 64) rfl ⟨x0, x1, x2, x3, x4, x5, x6, x7, x8, x9, x10⟩ rfl ?_))
      have HE7 := Lib.hid (show RfP w g E #[.bool ack, .string (strOf f), .string (strOf t), .int .i64 (i : Int), .slice (some ⟨g6, 0, none⟩) (es.length + 1) c6] s' _ from HE6.out.store (u := .slice (some ⟨g6, 0, none⟩) (es.length + 1) c6) (i := 4))
      have HM7 := Lib.hid (made_keep HM6.out HE6.out.2.2.2.1 (by decide) (grown_set w6 E 4 (.slice (some ⟨g6, 0, none⟩) (es.length + 1) c6)))
      refine ⟨⟨k + 1, _, _, s', by omega, by go_num, Lib.hid (by rw [List.length_append, hes.out]; rfl), hS2, HY2, HE7, HM7⟩, ?_⟩
      simp [intOf]; omega
    · obtain rfl : k = n := by omega
      have q2 : decide ((k : Int) < (k : Int)) = false := by simp
      have HR := Lib.hid (readM_end hrl.out)
      rw [HR.out] at HO
      clear hrl HR
      obtain ⟨A2, cap2, rfl, z1, z2, z3, z4⟩ := HM.out.slice
      have HMay := Lib.hid (fun w' (hb : Below wr.heap.size wr w') => refMayPar_any ⟨ack, strOf f, strOf t, (i : Int), es⟩ A2 cap2 w' (z4.below hb) (by simp only; omega) (str_bs f (by omega)) (str_bs t (by omega)))
      simp only at HMay
      clear z1 z2 z3 z4
      obtain ⟨d0, d1, d2, d3, d4⟩ := cells5p HE.out.2.2.2.1
      go_wp2_with fail
      refine (HMay.out _ (Below.refl _ _)).mono ?_
      rintro e w9 ⟨rfl, hb9⟩
      replace HE := Lib.hid (HE.out.later hb9)
      replace HM := Lib.hid (HM.out.below hb9)
      clear hb9 HMay d0 d1 d2 d3 d4
      go_wp2_with fail
      refine (refEndQ_any w.heap.size g s _ HE.out.2.2.1).mono ?_
      rintro e w10 ⟨rfl, m, rfl⟩
      replace HE := Lib.hid (HE.out.drewN m)
      replace HM := Lib.hid (show MadeE (w9.drewN m) w.heap.size _ es from HM.out)
      generalize hW : w9.drewN m = w10 at *
      clear hW
      by_cases hend : endS s = 0
      rotate_left
      · have q3 : decide ((endS s : Int) = 0) = false := by simp; omega
        have q4 : ((endS s : Int) == 0) = false := by simp; omega
        rw [finishP_no (fun h => hend h.1)] at HO
        obtain ⟨X, hX, hx3⟩ := HE.out.2.1
        have Hset := Lib.hid (setRow_heap _ _ _ #[.bool false, .string ⟨#[]⟩, .string ⟨#[]⟩, .int .i64 0, .slice none 0 0] _ _ hx3)
        have HB3 := Lib.hid (below_setRow HE.out.1 (Nat.le_refl w.heap.size) #[.bool false, .string ⟨#[]⟩, .string ⟨#[]⟩, .int .i64 0, .slice none 0 0])
        replace hx3 := Lib.hid hx3
        go_wp2_with (refine wpList_store_row rfl 24 (.tmp 2) (.tmp 77) rfl w.heap.size #[.bool false, .string ⟨#[]⟩, .string ⟨#[]⟩, .int .i64 0, .slice none 0 0] rfl rfl 24 X hx3.out parR_size (hX.trans rfl) (one5 _ _ _ _ _ _ _) ?_)
        generalize hW2 : World.setRow _ _ _ = W5 at Hset HB3 ⊢
        clear hW2 
        obtain ⟨d0, d1, d2, d3, d4⟩ := cells5p Hset.out
        go_wp2_with fail
        refine bodyPost_ret (v := .tuple #[.agg #[.bool false, .string ⟨#[]⟩, .string ⟨#[]⟩, .int .i64 0, .slice none 0 0], .int .i64 2]) ?_ rfl ⟨HB3.out, .inr ⟨HO.out, rfl⟩⟩
        simp [results, Try.results18, go_sem, d0, d1, d2, d3, d4]
      have HEN := Lib.hid hend
      rw [hend]
      clear hend
      cases hmm : mayP ⟨ack, strOf f, strOf t, (i : Int), es⟩
      · rw [finishP_no (fun h => by rw [hmm] at h; cases h.2)] at HO
        clear hmm
        obtain ⟨X, hX, hx3⟩ := HE.out.2.1
        have Hset := Lib.hid (setRow_heap _ _ _ #[.bool false, .string ⟨#[]⟩, .string ⟨#[]⟩, .int .i64 0, .slice none 0 0] _ _ hx3)
        have HB3 := Lib.hid (below_setRow HE.out.1 (Nat.le_refl w.heap.size) #[.bool false, .string ⟨#[]⟩, .string ⟨#[]⟩, .int .i64 0, .slice none 0 0])
        replace hx3 := Lib.hid hx3
        go_wp2_with (refine wpList_store_row rfl 24 (.tmp 2) (.tmp 77) rfl w.heap.size #[.bool false, .string ⟨#[]⟩, .string ⟨#[]⟩, .int .i64 0, .slice none 0 0] rfl rfl 24 X hx3.out parR_size (hX.trans rfl) (one5 _ _ _ _ _ _ _) ?_)
        generalize hW2 : World.setRow _ _ _ = W5 at Hset HB3 ⊢
        clear hW2 
        obtain ⟨d0, d1, d2, d3, d4⟩ := cells5p Hset.out
        go_wp2_with fail
        refine bodyPost_ret (v := .tuple #[.agg #[.bool false, .string ⟨#[]⟩, .string ⟨#[]⟩, .int .i64 0, .slice none 0 0], .int .i64 2]) ?_ rfl ⟨HB3.out, .inr ⟨HO.out, rfl⟩⟩
        simp [results, Try.results18, go_sem, d0, d1, d2, d3, d4]
      rw [finishP_yes hn HEN.out hmm] at HO
      clear hmm HEN
      obtain ⟨d0, d1, d2, d3, d4⟩ := cells5p HE.out.2.2.2.1
      obtain ⟨X, hX, hx3⟩ := HE.out.2.1
      have Hset := Lib.hid (setRow_heap _ _ _ #[.bool ack, .string (strOf f), .string (strOf t), .int .i64 (i : Int), .slice A2 es.length cap2] _ _ hx3)
      have HB3 := Lib.hid (below_setRow HE.out.1 (Nat.le_refl w.heap.size) #[.bool ack, .string (strOf f), .string (strOf t), .int .i64 (i : Int), .slice A2 es.length cap2])
      have HM3 := Lib.hid (made_keep HM.out hx3 (by decide) (grown_setRow w10 w.heap.size #[.bool ack, .string (strOf f), .string (strOf t), .int .i64 (i : Int), .slice A2 es.length cap2]))
      replace hx3 := Lib.hid hx3
      go_wp2_with (refine wpList_store_row rfl 24 (.tmp 2) (.tmp 78) rfl w.heap.size #[.bool ack, .string (strOf f), .string (strOf t), .int .i64 (i : Int), .slice A2 es.length cap2] rfl rfl 24 X hx3.out parR_size (hX.trans rfl) (one5 _ _ _ _ _ _ _) ?_)
      generalize hW2 : World.setRow _ _ _ = W3 at Hset HB3 HM3 ⊢
      clear hW2 d0 d1 d2 d3 d4
      obtain ⟨d0, d1, d2, d3, d4⟩ := cells5p Hset.out
      go_wp2_with fail
      refine bodyPost_ret (v := .tuple #[.agg #[.bool ack, .string (strOf f), .string (strOf t), .int .i64 (i : Int), .slice A2 es.length cap2], .int .i64 0]) ?_ rfl ⟨HB3.out, .inl ⟨_, _, HO.out, rfl, HM3.out⟩⟩
      simp [results, Try.results18, go_sem, d0, d1, d2, d3, d4]
end Go.Proofs.Ytnabbebkmafakaa
