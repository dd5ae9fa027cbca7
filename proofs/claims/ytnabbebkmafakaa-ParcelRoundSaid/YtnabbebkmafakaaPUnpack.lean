/-
  Package parcel: unpack, walked.
-/
import Derived.Test.YtnabbebkmafakaaPPlain
namespace Go.Proofs.Ytnabbebkmafakaa
set_option maxRecDepth 20000
open Go.RowKit
set_option linter.unusedVariables false
set_option linter.unusedSimpArgs false

/-- While a parcel is read: the reader, the parcel so far, the cell of what is answered. -/
def RdP (w : World) (g E : Nat) (cs : Array Value) (s : St) (w' : World) : Prop :=
  Below w.heap.size w w' ∧ (∃ X : Array Value, X.size = 5 ∧ w'.heap[w.heap.size]? = some (.cells X 33 (0, 0))) ∧ Rd w' 0 g s ∧ w'.heap[E]? = some (.cells cs 33 (0, 0)) ∧ w.heap.size < g ∧ w.heap.size < E ∧ g ≠ E
theorem RdP.later {w w' w'' : World} {g E : Nat} {cs : Array Value} {s : St} (h : RdP w g E cs s w') (hb : Below w'.heap.size w' w'') : RdP w g E cs s w'' := by
  obtain ⟨h1, ⟨X, hX, h2⟩, h3, h4, h5⟩ := h
  exact ⟨Go.Proofs.Ytnabbebkmafakaa.later h1 hb, ⟨X, hX, (hb.block _ (heap_lt h2)).trans h2⟩, h3.below hb, (hb.block _ (heap_lt h4)).trans h4, h5⟩
theorem RdP.read {w w' w'' : World} {g E : Nat} {cs : Array Value} {s s' : St} (h : RdP w g E cs s w') (hr : Rd w'' 0 g s') (hg : w'.grownBy w'' (some g)) : RdP w g E cs s' w'' := by
  obtain ⟨h1, ⟨X, hX, h2⟩, h3, h4, h5, h6, h7⟩ := h
  exact ⟨below_grown h1 hg (by omega), ⟨X, hX, (hg.block _ (heap_lt h2) (fun e => by injection e with e; omega)).trans h2⟩, hr, (hg.block _ (heap_lt h4) (fun e => h7 (by injection e with e; exact e.symm))).trans h4, h5, h6, h7⟩
theorem RdP.store {w w' : World} {g E i : Nat} {cs : Array Value} {s : St} {u : Value} (h : RdP w g E cs s w') : RdP w g E (cs.setIfInBounds i u) s (w'.setCell ⟨E, i, none⟩ u) := by
  obtain ⟨h1, ⟨X, hX, h2⟩, ⟨⟨v, hh, hr⟩, ho⟩, h4, h5, h6, h7⟩ := h
  have hg := grown_set w' E i u
  exact ⟨h1.setCell (by simp; omega) _, ⟨X, hX, (hg.block _ (heap_lt h2) (fun e => by injection e with e; omega)).trans h2⟩, ⟨⟨v, (hg.block _ (heap_lt hh) (fun e => h7 (by injection e))).trans hh, hr.grown hg (not_bytes h4 (by decide))⟩, ho⟩, heap_set h4 i u, h5, h6, h7⟩
/-- One EDU is put behind the others. -/
theorem RdP.put {w w' w'' : World} {g E : Nat} {cs : Array Value} {s : St} (h : RdP w g E cs s w') (hb : Below w.heap.size w' w'') (hk : ∀ k, k < w'.heap.size → (∀ cur, w'.heap[k]? ≠ some (.cells cur 50 (0, 0))) → w''.heap[k]? = w'.heap[k]?) : RdP w g E cs s w'' := by
  obtain ⟨h1, ⟨X, hX, h2⟩, ⟨⟨v, hh, hr⟩, ho⟩, h4, h5⟩ := h
  have hf : ∀ {k : Nat} {c : Array Value} {t : TypeId}, w'.heap[k]? = some (.cells c t (0, 0)) → t ≠ 50 → w''.heap[k]? = w'.heap[k]? := fun {k c t} hc ht => hk k (heap_lt hc) (fun cur e => by
    rw [hc] at e
    injection e with e
    injection e with _ e
    exact ht e)
  exact ⟨h1.trans hb, ⟨X, hX, (hf h2 (by decide)).trans h2⟩, ⟨⟨v, (hf hh (by decide)).trans hh, hr.keep fun b cur _ hc => hf hc (by decide)⟩, ho⟩, (hf h4 (by decide)).trans h4, h5⟩
/-- What unpack comes to. -/
def parV (p : Par) (S : Value) : Value := .agg #[.bool p.ack, .string p.frm, .string p.dest, .int .i64 p.id, S]
def UnPost (w : World) (o : Option Par) (e : Ending) (w' : World) : Prop :=
  Below w.heap.size w w' ∧ ((∃ p S, o = some p ∧ e = .returned (parV p S) ∧ MadeE w' w.heap.size S p.edus) ∨ (o = none ∧ e = .panicked gaveUp))
theorem Rd.ok {w : World} {lo g : Nat} {s : St} (h : Rd w lo g s) : Ok s := h.2
theorem str_bs (bs : List UInt8) (h : bs.length ≤ 1000000) : (strOf bs).size ≤ maxLen := by rw [strOf_size, maxLen_eq]; omega

theorem cell4 {w : World} {g E : Nat} {a b c d S : Value} {s : St} {w' : World} (h : RdP w g E #[a, b, c, d, S] s w') : w'.cell? ⟨E, 4, none⟩ = some S := cell_at h.2.2.2.1 4
theorem made_keep {w' w'' : World} {B k : Nat} {S : Value} {es : List Edu} {c : Array Value} {t : TypeId} (h : MadeE w' B S es) (hk : w'.heap[k]? = some (.cells c t (0, 0))) (ht : t ≠ 50) (hg : w'.grownBy w'' (some k)) : MadeE w'' B S es :=
  h.block fun j hj hl ⟨cur, hc, _⟩ => hg.block j hl (fun e => by
    injection e with e
    subst e
    rw [hk] at hc
    injection hc with hc
    injection hc with _ hc
    exact ht hc)
theorem MadeE.read4 {w w' w'' : World} {B g E : Nat} {cs : Array Value} {S : Value} {s : St} {es : List Edu} (h : MadeE w' B S es) (hr : RdP w g E cs s w') (hg : w'.grownBy w'' (some g)) : MadeE w'' B S es := by
  obtain ⟨_, _, ⟨⟨v, hh, _⟩, _⟩, _⟩ := hr
  exact made_keep h hh (by decide) hg
theorem MadeE.store4 {w w' : World} {B g E i : Nat} {cs : Array Value} {S u : Value} {s : St} {es : List Edu} (h : MadeE w' B S es) (hr : RdP w g E cs s w') : MadeE (w'.setCell ⟨E, i, none⟩ u) B S es :=
  made_keep h hr.2.2.2.1 (by decide) (grown_set w' E i u)
theorem grown_setRow (w : World) (g : Nat) (c : Array Value) : w.grownBy (w.setRow g c) (some g) :=
  ⟨rfl, rfl, rfl, by simp, fun k hk hn => setRow_other w g k c (fun e => hn (by rw [e]))⟩
theorem par_size : (Try.prog.info? 33).map (·.size) = some 5 := by kernel_rfl
theorem one5 (a : Bool) (f t : ByteArray) (i : Int) (A : Option Addr) (n cap : Nat) : (#[.bool a, .string f, .string t, .int .i64 i, .slice A n cap] : Array Value).all (·.oneCell') = true := by simp [Value.oneCell']
theorem readL_start (n : Nat) (s : St) : readL 1000000 n s = (readL 1000000 (n - 0) s).map (fun r => ([] ++ r.1, r.2)) := by
  rw [Nat.sub_zero]
  cases readL 1000000 n s <;> rfl
theorem readL_step {n k : Nat} {s s5 : St} {es : List Edu} (hk : k < n) (h : readL 1000000 n s5 = (readL 1000000 (n - k) s).map (fun r => (es ++ r.1, r.2))) (hok : okE s) : readL 1000000 n s5 = (readL 1000000 (n - (k + 1)) (nextS s)).map (fun r => (es ++ [nextE s] ++ r.1, r.2)) := by
  rw [h, show n - k = n - (k + 1) + 1 by omega, readL_ok hok, Option.map_map]
  congr 1
  funext r
  simp
theorem readL_stop {n k : Nat} {s : St} {es : List Edu} (hk : k < n) (hok : ¬ okE s) : (readL 1000000 (n - k) s).map (fun r => (es ++ r.1, r.2)) = none := by
  rw [show n - k = n - (k + 1) + 1 by omega, readL_bad hok]
  rfl
theorem readL_end {n : Nat} {s s5 : St} {es : List Edu} (h : readL 1000000 n s5 = (readL 1000000 (n - n) s).map (fun r => (es ++ r.1, r.2))) : readL 1000000 n s5 = some (es, s) := by
  rw [h, Nat.sub_self, readL]
  simp
set_option maxHeartbeats 3200000 in
theorem unpack_any (v : Value) (bs : List UInt8) (lo : Nat) (w : World) (h : ArgQ w lo v bs) (hl : bs.length ≤ 1000000) :
    Calls Try.prog 40 #[v] w (UnPost w (readP 16 1000000 bs)) := by
  have HRow := Lib.hid h
  have H1 := Lib.hid (show flagS (bs, 0) = ((flagS (bs, 0)).1, (flagS (bs, 0)).2) from rfl)
  have L1 := flagS_len (bs, 0)
  generalize (flagS (bs, 0)).1 = ack at H1 L1
  generalize (flagS (bs, 0)).2 = s1 at H1 L1
  have H2 := Lib.hid (show textS s1 16 = ((textS s1 16).1, (textS s1 16).2) from rfl)
  have L2 := textS_len s1 16
  have T2 := text_len s1 16
  generalize (textS s1 16).1 = f at H2 L2 T2
  generalize (textS s1 16).2 = s2 at H2 L2 T2
  have H3 := Lib.hid (show textS s2 16 = ((textS s2 16).1, (textS s2 16).2) from rfl)
  have L3 := textS_len s2 16
  have T3 := text_len s2 16
  generalize (textS s2 16).1 = t at H3 L3 T3
  generalize (textS s2 16).2 = s3 at H3 L3 T3
  have H4 := Lib.hid (show numS s3 = ((numS s3).1, (numS s3).2) from rfl)
  have L4 := numS_len s3
  generalize (numS s3).1 = i at H4 L4
  generalize (numS s3).2 = s4 at H4 L4
  have H5 := Lib.hid (show numS s4 = ((numS s4).1, (numS s4).2) from rfl)
  have L5 := numS_len s4
  generalize (numS s4).1 = n at H5 L5
  generalize (numS s4).2 = s5 at H5 L5
  have N4 := numS_small H4.out
  have N5 := numS_small H5.out
  have HO := Lib.hid (fun hok : Ok s4 => readP_finish H1.out H2.out H3.out H4.out H5.out hok)
  generalize readP 16 1000000 bs = o at *
  simp only at L1
  clear h
  go_enter Try.func40, Try.ntmps40
  go_wp2_with fail
  have hz := heap_alloc_new w (.cells #[.bool false, .string ⟨#[]⟩, .string ⟨#[]⟩, .int .i64 0, .slice none 0 0] 33)
  have hbz := below_new w (.cells #[.bool false, .string ⟨#[]⟩, .string ⟨#[]⟩, .int .i64 0, .slice none 0 0] 33)
  have hsz := size_alloc1 w (.cells #[.bool false, .string ⟨#[]⟩, .string ⟨#[]⟩, .int .i64 0, .slice none 0 0] 33)
  have HRow2 := Lib.hid (HRow.out.below hbz)
  generalize hW : (w.alloc (.cells #[.bool false, .string ⟨#[]⟩, .string ⟨#[]⟩, .int .i64 0, .slice none 0 0] 33)) = W at *
  clear hW HRow
  refine (readQ_any v bs lo _ HRow2.out hl).mono ?_
  rintro e w1 ⟨⟨g, rfl, hg, hrd⟩, hb1⟩
  have hz1 := (hb1.block _ (heap_lt hz)).trans hz
  have HB1 := Lib.hid (later hbz (hb1.mono (by omega)))
  have hgw : w.heap.size < g := by omega
  have hgl := hrd.lt
  replace hrd := Lib.hid (hrd.mono (Nat.zero_le _))
  clear hb1 hg hz hbz hsz HRow2 W
  go_wp2_with fail
  have HE := Lib.hid (show RdP w g w1.heap.size #[.bool false, .string ⟨#[]⟩, .string ⟨#[]⟩, .int .i64 0, .slice none 0 0] (bs, 0) (w1.alloc (.cells #[.bool false, .string ⟨#[]⟩, .string ⟨#[]⟩, .int .i64 0, .slice none 0 0] 33)) from ⟨later HB1.out (below_new _ _), ⟨_, rfl, ((below_new w1 _).block _ (heap_lt hz1)).trans hz1⟩, hrd.out.below (below_new _ _), heap_alloc_new _ _, hgw, Nat.lt_of_lt_of_le hgw (Nat.le_of_lt hgl), Nat.ne_of_lt hgl⟩)
  generalize hW : (w1.alloc (.cells #[.bool false, .string ⟨#[]⟩, .string ⟨#[]⟩, .int .i64 0, .slice none 0 0] 33)) = W at *
  generalize hE : w1.heap.size = E at *
  clear hW hE HB1 hz1 hrd hgl hgw
  clear w1
  refine (readFlag_any 0 g (bs, 0) _ HE.out.2.2.1 hl).mono ?_
  rintro e w2 ⟨rfl, hr2, hg2⟩
  rw [H1.out] at hr2 ⊢
  replace HE := Lib.hid (HE.out.read hr2 hg2)
  clear hr2 hg2 W
  have hc0 : w2.cell? ⟨E, 0, none⟩ = _ := cell_at HE.out.2.2.2.1 0
  replace hc0 : w2.cell? ⟨E, 0, none⟩ = some (.bool false) := hc0
  have hf0 := free_at HE.out.2.2.2.1 0
  simp only
  go_wp2_with fail
  replace HE := Lib.hid (show RdP w g E #[.bool ack, .string ⟨#[]⟩, .string ⟨#[]⟩, .int .i64 0, .slice none 0 0] s1 (w2.setCell ⟨E, 0, none⟩ (.bool ack)) from HE.out.store)
  generalize hW : (w2.setCell ⟨E, 0, none⟩ (.bool ack)) = W2 at *
  clear hW hc0 hf0 w2
  refine (readText_any 0 g s1 16 _ HE.out.2.2.1 (by omega) (by omega) (by omega)).mono ?_
  rintro e w2 ⟨rfl, hr2, hg2⟩
  rw [H2.out] at hr2 ⊢
  replace HE := Lib.hid (HE.out.read hr2 hg2)
  clear hr2 hg2 W2
  have hc0 : w2.cell? ⟨E, 1, none⟩ = _ := cell_at HE.out.2.2.2.1 1
  replace hc0 : w2.cell? ⟨E, 1, none⟩ = some (.string ⟨#[]⟩) := hc0
  have hf0 := free_at HE.out.2.2.2.1 1
  simp only
  go_wp2_with fail
  replace HE := Lib.hid (show RdP w g E #[.bool ack, .string (strOf f), .string ⟨#[]⟩, .int .i64 0, .slice none 0 0] s2 (w2.setCell ⟨E, 1, none⟩ (.string (strOf f))) from HE.out.store)
  generalize hW : (w2.setCell ⟨E, 1, none⟩ (.string (strOf f))) = W2 at *
  clear hW hc0 hf0 w2
  refine (readText_any 0 g s2 16 _ HE.out.2.2.1 (by omega) (by omega) (by omega)).mono ?_
  rintro e w2 ⟨rfl, hr2, hg2⟩
  rw [H3.out] at hr2 ⊢
  replace HE := Lib.hid (HE.out.read hr2 hg2)
  clear hr2 hg2 W2
  have hc0 : w2.cell? ⟨E, 2, none⟩ = _ := cell_at HE.out.2.2.2.1 2
  replace hc0 : w2.cell? ⟨E, 2, none⟩ = some (.string ⟨#[]⟩) := hc0
  have hf0 := free_at HE.out.2.2.2.1 2
  simp only
  go_wp2_with fail
  replace HE := Lib.hid (show RdP w g E #[.bool ack, .string (strOf f), .string (strOf t), .int .i64 0, .slice none 0 0] s3 (w2.setCell ⟨E, 2, none⟩ (.string (strOf t))) from HE.out.store)
  generalize hW : (w2.setCell ⟨E, 2, none⟩ (.string (strOf t))) = W2 at *
  clear hW hc0 hf0 w2
  refine (readNum_any 0 g s3 _ HE.out.2.2.1 (by omega)).mono ?_
  rintro e w2 ⟨rfl, hr2, hg2⟩
  rw [H4.out] at hr2 ⊢
  replace HE := Lib.hid (HE.out.read hr2 hg2)
  clear hr2 hg2 W2
  have hc0 : w2.cell? ⟨E, 3, none⟩ = _ := cell_at HE.out.2.2.2.1 3
  replace hc0 : w2.cell? ⟨E, 3, none⟩ = some (.int .i64 0) := hc0
  have hf0 := free_at HE.out.2.2.2.1 3
  simp only
  go_wp2_with fail
  replace HE := Lib.hid (show RdP w g E #[.bool ack, .string (strOf f), .string (strOf t), .int .i64 (i : Int), .slice none 0 0] s4 (w2.setCell ⟨E, 3, none⟩ (.int .i64 (i : Int))) from HE.out.store)
  generalize hW : (w2.setCell ⟨E, 3, none⟩ (.int .i64 (i : Int))) = W2 at *
  clear hW hc0 hf0 w2
  refine (readNum_any 0 g s4 _ HE.out.2.2.1 (by omega)).mono ?_
  rintro e w2 ⟨rfl, hr2, hg2⟩
  rw [H5.out] at hr2 ⊢
  replace HO := Lib.hid (HO.out HE.out.2.2.1.ok)
  replace HE := Lib.hid (HE.out.read hr2 hg2)
  clear hr2 hg2 W2 H1 H2 H3 H4 H5
  simp only
  by_cases hn : n ≤ 100
  rotate_left
  · have q1 : decide ((n : Int) ≤ 100) = false := by simp; omega
    rw [finishP_many hn] at HO
    go_wp2_with fail
    refine (need_no _).mono ?_
    rintro e w3 ⟨rfl, rfl⟩
    exact ⟨rfl, HE.out.1, .inr ⟨HO.out, rfl⟩⟩
  have q1 : decide ((n : Int) ≤ 100) = true := by simp; omega
  go_wp2_with fail
  refine (need_yes _).mono ?_
  rintro e w3 ⟨rfl, rfl⟩
  go_wp2_with fail
  go_loopw [26] (fun iv wr => ∃ (k : Nat) (es : List Edu) (S : Value) (s : St), k ≤ n ∧ iv = .int .i64 (k : Int) ∧ Hid (es.length = k) ∧ s.1.length ≤ 1000000 ∧ Hid (readL 1000000 n s5 = (readL 1000000 (n - k) s).map (fun r => (es ++ r.1, r.2))) ∧ Hid (RdP w g E #[.bool ack, .string (strOf f), .string (strOf t), .int .i64 (i : Int), S] s wr) ∧ Hid (MadeE wr w.heap.size S es)) (fun iv _ => n - (intOf iv).toNat)
  case atStart => exact ⟨0, [], .slice none 0 0, s5, Nat.zero_le _, rfl, Lib.hid rfl, by omega, Lib.hid (readL_start n s5), HE, Lib.hid (MadeE.nil _ _)⟩
  case round =>
    obtain ⟨k, es, S, s, hk, rfl, hes, hsl, hrl, HE', HM⟩ := hrel
    clear HE
    have HE := HE'
    clear HE'
    by_cases hlt : k < n
    · have q2 : decide ((k : Int) < (n : Int)) = true := by simp; omega
      by_cases hok : okE s
      · obtain ⟨t1, t2, t3⟩ := okE_left hsl hok
        have hme := okE_may hok
        have hsl' : (nextS s).1.length ≤ 1000000 := Nat.le_trans (nextS_len s) hsl
        have hrl' := Lib.hid (readL_step hlt hrl.out hok)
        generalize nextE s = ne at *
        generalize nextS s = s' at *
        generalize (textS s 1000000).1 = tx at *
        clear hok hrl
        go_wp2_with fail
        refine wp_region_held_drew (S := fun _ => True) (by kernel_rfl) trivial (fun _ => ?_)
        replace HE := Lib.hid (show RdP w g E #[.bool ack, .string (strOf f), .string (strOf t), .int .i64 (i : Int), S] s wr.drew from ⟨HE.out.1.drew, HE.out.2⟩)
        replace HM := Lib.hid (show MadeE wr.drew w.heap.size S es from HM.out)
        have hc4 := cell4 HE.out
        generalize hwd : wr.drew = wd at *
        clear hwd
        refine wpAnyH_take (i := 0) (oi := ⟨some 28, _, _, _, _, _⟩) (v := ?vx1) rfl (by kernel_rfl) (by kernel_rfl) (by kernel_rfl) (fun _ _ _ h => h) (Or.inl ⟨by rfl, ?yx1⟩) trivial ?rx1
        case yx1 =>
          intro wx hSx
          go_simp
          try with_reducible rfl
        try simp only [Act.put, List.setIfInBounds_toArray, List.set_cons_zero, List.set_cons_succ]
        refine wpAnyH_take (i := 2) (oi := ⟨some 30, _, _, _, _, _⟩) (v := ?vx2) rfl (by kernel_rfl) (by kernel_rfl) (by kernel_rfl) (fun _ _ _ h => h) (Or.inl ⟨by rfl, ?yx2⟩) trivial ?rx2
        case yx2 =>
          intro wx hSx
          go_simp
          try with_reducible rfl
        try simp only [Act.put, List.setIfInBounds_toArray, List.set_cons_zero, List.set_cons_succ]
        refine wpAnyH_ready (rs := [1, 3]) (by kernel_rfl) (by simp) ?_
        refine (AllReadyH.cons (o := ⟨some 29, _, _, _, _, _⟩) rfl (fun K hK => ?way2_0) (AllReadyH.cons (o := ⟨some 31, _, _, _, _, _⟩) rfl (fun K hK => ?way2_1) AllReadyH.nil))
        case way2_0 =>
          go_simp
          refine hK.out _ _ trivial (fun _ => ?_)
          clear hK K
          try simp only [Act.put, List.setIfInBounds_toArray, List.set_cons_zero, List.set_cons_succ]
          refine wpAnyH_ready (rs := [3]) (by kernel_rfl) (by simp) ?_
          refine (AllReadyH.cons (o := ⟨some 31, _, _, _, _, _⟩) rfl (fun K hK => ?way3_0) AllReadyH.nil)
          case way3_0 =>
            go_simp
            refine (unpackEdu_yes 0 g s _ HE.out.2.2.1 hsl _ _ t1 _ t2 t3).mono ?_
            rintro e w4 ⟨rfl, hr4, hg4⟩
            replace HM := Lib.hid (HM.out.read4 HE.out hg4)
            replace HE := Lib.hid (HE.out.read hr4 hg4)
            clear hr4 hg4
            have hc4 := cell4 HE.out
            refine hK.out _ _ trivial (fun _ => ?_)
            clear hK K
            try simp only [Act.put, List.setIfInBounds_toArray, List.set_cons_zero, List.set_cons_succ]
            refine wpAnyH_ready (rs := [4]) (by kernel_rfl) (by simp) ?_
            refine (AllReadyH.cons (o := ⟨some 32, _, _, _, _, _⟩) rfl (fun K hK => ?way4_0) AllReadyH.nil)
            case way4_0 =>
              rw [if_pos (by rfl)]
              refine wp_buildE (.tmp 31) rfl ne rfl ?_
              have HE5 := Lib.hid (HE.out.later (below_new w4 (.cells ne.cells.toArray 50)))
              have HM5 := Lib.hid (HM.out.below (below_new w4 (.cells ne.cells.toArray 50)))
              have hS5 := Lib.hid (Src.ofEdu w4 ne w4.heap.size rfl)
              clear HE HM hc4
              have hc4 := cell4 HE5.out
              generalize hW : (w4.alloc (.cells ne.cells.toArray 50)) = w5 at *
              generalize hP : w4.heap.size = B5 at *
              clear hW hP
              refine hK.out _ _ trivial (fun _ => ?_)
              clear hK K
              try simp only [Act.put, List.setIfInBounds_toArray, List.set_cons_zero, List.set_cons_succ]
              refine wpAnyH_ready (rs := [5]) (by kernel_rfl) (by simp) ?_
              refine (AllReadyH.cons (o := ⟨some 33, _, _, _, _, _⟩) rfl (fun K hK => ?way5_0) AllReadyH.nil)
              case way5_0 =>
                rw [if_pos (by rfl)]
                refine wp_putE (.tmp 29) (.tmp 32) rfl rfl HM5.out HE5.out.1.size _ ne (may_well hme) rfl hS5.out (by rw [hes.out]; omega) ?_
                intro g6 c6 w6 hg6 ho6 hb6 hk6
                have HE6 := Lib.hid (HE5.out.put hb6 hk6)
                have HM6 := Lib.hid (MadeE.own (B := w.heap.size) (n := es.length + 1) (by simp) hg6 ho6)
                clear hg6 ho6 hb6 hk6 HE5 HM5 hS5 hc4
                refine hK.out _ _ trivial (fun _ => ?_)
                clear hK K
                try simp only [Act.put, List.setIfInBounds_toArray, List.set_cons_zero, List.set_cons_succ]
                refine wpAnyH_take (i := 6) (oi := ⟨some 34, _, _, _, _, _⟩) (v := ?vx7) rfl (by kernel_rfl) (by kernel_rfl) (by kernel_rfl) (fun _ _ _ h => h) (Or.inl ⟨by rfl, ?yx7⟩) trivial ?rx7
                case yx7 =>
                  intro wx hSx
                  go_simp
                  try with_reducible rfl
                try simp only [Act.put, List.setIfInBounds_toArray, List.set_cons_zero, List.set_cons_succ]
                refine wpAnyH_ready (rs := [7]) (by kernel_rfl) (by simp) ?_
                refine (AllReadyH.cons (o := ⟨none, _, _, _, _, _⟩) rfl (fun K hK => ?way7_0) AllReadyH.nil)
                case way7_0 =>
                  have hc6 := cell4 HE6.out
                  have hf6 := free_at HE6.out.2.2.2.1 4
                  go_simp
                  have HE7 := Lib.hid (show RdP w g E #[.bool ack, .string (strOf f), .string (strOf t), .int .i64 (i : Int), .slice (some ⟨g6, 0, none⟩) (es.length + 1) c6] s' _ from HE6.out.store (u := .slice (some ⟨g6, 0, none⟩) (es.length + 1) c6) (i := 4))
                  have HM7 := Lib.hid (HM6.out.store4 (u := .slice (some ⟨g6, 0, none⟩) (es.length + 1) c6) (i := 4) HE6.out)
                  generalize hW : World.setCell _ _ _ = w7 at HE7 HM7 ⊢
                  clear hW hc6 hf6 HE6 HM6
                  refine hK.out _ _ trivial (fun _ => ?_)
                  clear hK K
                  try simp only [Act.put, List.setIfInBounds_toArray, List.set_cons_zero, List.set_cons_succ]
                  refine wpAnyH_done (by kernel_rfl) ?_ _
                  go_wp2_with fail
                  refine ⟨⟨k + 1, es ++ [ne], _, s', by omega, by go_num, Lib.hid (by rw [List.length_append, hes.out]; rfl), hsl', Lib.hid (hrl'.out), HE7, HM7⟩, ?_⟩
                  simp [intOf]; omega
        case way2_1 =>
          go_simp
          refine (unpackEdu_yes 0 g s _ HE.out.2.2.1 hsl _ _ t1 _ t2 t3).mono ?_
          rintro e w4 ⟨rfl, hr4, hg4⟩
          replace HM := Lib.hid (HM.out.read4 HE.out hg4)
          replace HE := Lib.hid (HE.out.read hr4 hg4)
          clear hr4 hg4
          have hc4 := cell4 HE.out
          refine hK.out _ _ trivial (fun _ => ?_)
          clear hK K
          try simp only [Act.put, List.setIfInBounds_toArray, List.set_cons_zero, List.set_cons_succ]
          refine wpAnyH_ready (rs := [1, 4]) (by kernel_rfl) (by simp) ?_
          refine (AllReadyH.cons (o := ⟨some 29, _, _, _, _, _⟩) rfl (fun K hK => ?way8_0) (AllReadyH.cons (o := ⟨some 32, _, _, _, _, _⟩) rfl (fun K hK => ?way8_1) AllReadyH.nil))
          case way8_0 =>
            go_simp
            refine hK.out _ _ trivial (fun _ => ?_)
            clear hK K
            try simp only [Act.put, List.setIfInBounds_toArray, List.set_cons_zero, List.set_cons_succ]
            refine wpAnyH_ready (rs := [4]) (by kernel_rfl) (by simp) ?_
            refine (AllReadyH.cons (o := ⟨some 32, _, _, _, _, _⟩) rfl (fun K hK => ?way9_0) AllReadyH.nil)
            case way9_0 =>
              rw [if_pos (by rfl)]
              refine wp_buildE (.tmp 31) rfl ne rfl ?_
              have HE5 := Lib.hid (HE.out.later (below_new w4 (.cells ne.cells.toArray 50)))
              have HM5 := Lib.hid (HM.out.below (below_new w4 (.cells ne.cells.toArray 50)))
              have hS5 := Lib.hid (Src.ofEdu w4 ne w4.heap.size rfl)
              clear HE HM hc4
              have hc4 := cell4 HE5.out
              generalize hW : (w4.alloc (.cells ne.cells.toArray 50)) = w5 at *
              generalize hP : w4.heap.size = B5 at *
              clear hW hP
              refine hK.out _ _ trivial (fun _ => ?_)
              clear hK K
              try simp only [Act.put, List.setIfInBounds_toArray, List.set_cons_zero, List.set_cons_succ]
              refine wpAnyH_ready (rs := [5]) (by kernel_rfl) (by simp) ?_
              refine (AllReadyH.cons (o := ⟨some 33, _, _, _, _, _⟩) rfl (fun K hK => ?way10_0) AllReadyH.nil)
              case way10_0 =>
                rw [if_pos (by rfl)]
                refine wp_putE (.tmp 29) (.tmp 32) rfl rfl HM5.out HE5.out.1.size _ ne (may_well hme) rfl hS5.out (by rw [hes.out]; omega) ?_
                intro g6 c6 w6 hg6 ho6 hb6 hk6
                have HE6 := Lib.hid (HE5.out.put hb6 hk6)
                have HM6 := Lib.hid (MadeE.own (B := w.heap.size) (n := es.length + 1) (by simp) hg6 ho6)
                clear hg6 ho6 hb6 hk6 HE5 HM5 hS5 hc4
                refine hK.out _ _ trivial (fun _ => ?_)
                clear hK K
                try simp only [Act.put, List.setIfInBounds_toArray, List.set_cons_zero, List.set_cons_succ]
                refine wpAnyH_take (i := 6) (oi := ⟨some 34, _, _, _, _, _⟩) (v := ?vx12) rfl (by kernel_rfl) (by kernel_rfl) (by kernel_rfl) (fun _ _ _ h => h) (Or.inl ⟨by rfl, ?yx12⟩) trivial ?rx12
                case yx12 =>
                  intro wx hSx
                  go_simp
                  try with_reducible rfl
                try simp only [Act.put, List.setIfInBounds_toArray, List.set_cons_zero, List.set_cons_succ]
                refine wpAnyH_ready (rs := [7]) (by kernel_rfl) (by simp) ?_
                refine (AllReadyH.cons (o := ⟨none, _, _, _, _, _⟩) rfl (fun K hK => ?way12_0) AllReadyH.nil)
                case way12_0 =>
                  have hc6 := cell4 HE6.out
                  have hf6 := free_at HE6.out.2.2.2.1 4
                  go_simp
                  have HE7 := Lib.hid (show RdP w g E #[.bool ack, .string (strOf f), .string (strOf t), .int .i64 (i : Int), .slice (some ⟨g6, 0, none⟩) (es.length + 1) c6] s' _ from HE6.out.store (u := .slice (some ⟨g6, 0, none⟩) (es.length + 1) c6) (i := 4))
                  have HM7 := Lib.hid (HM6.out.store4 (u := .slice (some ⟨g6, 0, none⟩) (es.length + 1) c6) (i := 4) HE6.out)
                  generalize hW : World.setCell _ _ _ = w7 at HE7 HM7 ⊢
                  clear hW hc6 hf6 HE6 HM6
                  refine hK.out _ _ trivial (fun _ => ?_)
                  clear hK K
                  try simp only [Act.put, List.setIfInBounds_toArray, List.set_cons_zero, List.set_cons_succ]
                  refine wpAnyH_done (by kernel_rfl) ?_ _
                  go_wp2_with fail
                  refine ⟨⟨k + 1, es ++ [ne], _, s', by omega, by go_num, Lib.hid (by rw [List.length_append, hes.out]; rfl), hsl', Lib.hid (hrl'.out), HE7, HM7⟩, ?_⟩
                  simp [intOf]; omega
          case way8_1 =>
            rw [if_pos (by rfl)]
            refine wp_buildE (.tmp 31) rfl ne rfl ?_
            have HE5 := Lib.hid (HE.out.later (below_new w4 (.cells ne.cells.toArray 50)))
            have HM5 := Lib.hid (HM.out.below (below_new w4 (.cells ne.cells.toArray 50)))
            have hS5 := Lib.hid (Src.ofEdu w4 ne w4.heap.size rfl)
            clear HE HM hc4
            have hc4 := cell4 HE5.out
            generalize hW : (w4.alloc (.cells ne.cells.toArray 50)) = w5 at *
            generalize hP : w4.heap.size = B5 at *
            clear hW hP
            refine hK.out _ _ trivial (fun _ => ?_)
            clear hK K
            try simp only [Act.put, List.setIfInBounds_toArray, List.set_cons_zero, List.set_cons_succ]
            refine wpAnyH_ready (rs := [1]) (by kernel_rfl) (by simp) ?_
            refine (AllReadyH.cons (o := ⟨some 29, _, _, _, _, _⟩) rfl (fun K hK => ?way13_0) AllReadyH.nil)
            case way13_0 =>
              go_simp
              refine hK.out _ _ trivial (fun _ => ?_)
              clear hK K
              try simp only [Act.put, List.setIfInBounds_toArray, List.set_cons_zero, List.set_cons_succ]
              refine wpAnyH_ready (rs := [5]) (by kernel_rfl) (by simp) ?_
              refine (AllReadyH.cons (o := ⟨some 33, _, _, _, _, _⟩) rfl (fun K hK => ?way14_0) AllReadyH.nil)
              case way14_0 =>
                rw [if_pos (by rfl)]
                refine wp_putE (.tmp 29) (.tmp 32) rfl rfl HM5.out HE5.out.1.size _ ne (may_well hme) rfl hS5.out (by rw [hes.out]; omega) ?_
                intro g6 c6 w6 hg6 ho6 hb6 hk6
                have HE6 := Lib.hid (HE5.out.put hb6 hk6)
                have HM6 := Lib.hid (MadeE.own (B := w.heap.size) (n := es.length + 1) (by simp) hg6 ho6)
                clear hg6 ho6 hb6 hk6 HE5 HM5 hS5 hc4
                refine hK.out _ _ trivial (fun _ => ?_)
                clear hK K
                try simp only [Act.put, List.setIfInBounds_toArray, List.set_cons_zero, List.set_cons_succ]
                refine wpAnyH_take (i := 6) (oi := ⟨some 34, _, _, _, _, _⟩) (v := ?vx16) rfl (by kernel_rfl) (by kernel_rfl) (by kernel_rfl) (fun _ _ _ h => h) (Or.inl ⟨by rfl, ?yx16⟩) trivial ?rx16
                case yx16 =>
                  intro wx hSx
                  go_simp
                  try with_reducible rfl
                try simp only [Act.put, List.setIfInBounds_toArray, List.set_cons_zero, List.set_cons_succ]
                refine wpAnyH_ready (rs := [7]) (by kernel_rfl) (by simp) ?_
                refine (AllReadyH.cons (o := ⟨none, _, _, _, _, _⟩) rfl (fun K hK => ?way16_0) AllReadyH.nil)
                case way16_0 =>
                  have hc6 := cell4 HE6.out
                  have hf6 := free_at HE6.out.2.2.2.1 4
                  go_simp
                  have HE7 := Lib.hid (show RdP w g E #[.bool ack, .string (strOf f), .string (strOf t), .int .i64 (i : Int), .slice (some ⟨g6, 0, none⟩) (es.length + 1) c6] s' _ from HE6.out.store (u := .slice (some ⟨g6, 0, none⟩) (es.length + 1) c6) (i := 4))
                  have HM7 := Lib.hid (HM6.out.store4 (u := .slice (some ⟨g6, 0, none⟩) (es.length + 1) c6) (i := 4) HE6.out)
                  generalize hW : World.setCell _ _ _ = w7 at HE7 HM7 ⊢
                  clear hW hc6 hf6 HE6 HM6
                  refine hK.out _ _ trivial (fun _ => ?_)
                  clear hK K
                  try simp only [Act.put, List.setIfInBounds_toArray, List.set_cons_zero, List.set_cons_succ]
                  refine wpAnyH_done (by kernel_rfl) ?_ _
                  go_wp2_with fail
                  refine ⟨⟨k + 1, es ++ [ne], _, s', by omega, by go_num, Lib.hid (by rw [List.length_append, hes.out]; rfl), hsl', Lib.hid (hrl'.out), HE7, HM7⟩, ?_⟩
                  simp [intOf]; omega
      · have t1 := badE_left hsl hok
        have hno := Lib.hid (show o = none by rw [HO.out, hrl.out, readL_stop hlt hok]; exact finishP_none)
        clear hok hrl HO
        go_wp2_with fail
        refine wp_region_held_drew (S := fun _ => True) (by kernel_rfl) trivial (fun _ => ?_)
        replace HE := Lib.hid (show RdP w g E #[.bool ack, .string (strOf f), .string (strOf t), .int .i64 (i : Int), S] s wr.drew from ⟨HE.out.1.drew, HE.out.2⟩)
        replace HM := Lib.hid (show MadeE wr.drew w.heap.size S es from HM.out)
        have hc4 := cell4 HE.out
        generalize hwd : wr.drew = wd at *
        clear hwd
        refine wpAnyH_take (i := 0) (oi := ⟨some 28, _, _, _, _, _⟩) (v := ?vx18) rfl (by kernel_rfl) (by kernel_rfl) (by kernel_rfl) (fun _ _ _ h => h) (Or.inl ⟨by rfl, ?yx18⟩) trivial ?rx18
        case yx18 =>
          intro wx hSx
          go_simp
          try with_reducible rfl
        try simp only [Act.put, List.setIfInBounds_toArray, List.set_cons_zero, List.set_cons_succ]
        refine wpAnyH_take (i := 2) (oi := ⟨some 30, _, _, _, _, _⟩) (v := ?vx19) rfl (by kernel_rfl) (by kernel_rfl) (by kernel_rfl) (fun _ _ _ h => h) (Or.inl ⟨by rfl, ?yx19⟩) trivial ?rx19
        case yx19 =>
          intro wx hSx
          go_simp
          try with_reducible rfl
        try simp only [Act.put, List.setIfInBounds_toArray, List.set_cons_zero, List.set_cons_succ]
        refine wpAnyH_ready (rs := [1, 3]) (by kernel_rfl) (by simp) ?_
        refine (AllReadyH.cons (o := ⟨some 29, _, _, _, _, _⟩) rfl (fun K hK => ?way19_0) (AllReadyH.cons (o := ⟨some 31, _, _, _, _, _⟩) rfl (fun K hK => ?way19_1) AllReadyH.nil))
        case way19_0 =>
          go_simp
          refine hK.out _ _ trivial (fun _ => ?_)
          clear hK K
          try simp only [Act.put, List.setIfInBounds_toArray, List.set_cons_zero, List.set_cons_succ]
          refine wpAnyH_ready (rs := [3]) (by kernel_rfl) (by simp) ?_
          refine (AllReadyH.cons (o := ⟨some 31, _, _, _, _, _⟩) rfl (fun K hK => ?way20_0) AllReadyH.nil)
          case way20_0 =>
            go_simp
            refine (unpackEdu_no 0 g s _ HE.out.2.2.1 hsl t1).mono ?_
            rintro e w4 ⟨rfl, hg4⟩
            exact ⟨rfl, below_grown HE.out.1 hg4 (Nat.le_of_lt HE.out.2.2.2.2.1), .inr ⟨hno.out, rfl⟩⟩
        case way19_1 =>
          go_simp
          refine (unpackEdu_no 0 g s _ HE.out.2.2.1 hsl t1).mono ?_
          rintro e w4 ⟨rfl, hg4⟩
          exact ⟨rfl, below_grown HE.out.1 hg4 (Nat.le_of_lt HE.out.2.2.2.2.1), .inr ⟨hno.out, rfl⟩⟩
    · obtain rfl : k = n := by omega
      have q2 : decide ((k : Int) < (k : Int)) = false := by simp
      have HR := Lib.hid (readL_end hrl.out)
      rw [HR.out] at HO
      clear hrl HR
      go_wp2_with fail
      obtain ⟨A, cap, rfl, z1, z2, z3, z4⟩ := HM.out.slice
      have HZ := Lib.hid z4
      have HMay := Lib.hid (fun w' (hb : Below wr.heap.size wr w') => mayPar_any ⟨ack, strOf f, strOf t, (i : Int), es⟩ A cap w' (z4.below hb) (by simp only; omega) (str_bs f (by omega)) (str_bs t (by omega)))
      simp only at HMay
      clear z1 z2 z3 z4 HZ
      refine (end_any 0 g s _ HE.out.2.2.1 hsl).mono ?_
      rintro e w8 ⟨rfl, rfl⟩
      by_cases hend : endS s = 0
      rotate_left
      · have q3 : decide ((endS s : Int) = 0) = false := by simp; omega
        have q4 : ((endS s : Int) == 0) = false := by simp; omega
        rw [finishP_no (fun h => hend h.1)] at HO
        go_wp2_with fail
        refine (need_no _).mono ?_
        rintro e w3 ⟨rfl, rfl⟩
        exact ⟨rfl, HE.out.1, .inr ⟨HO.out, rfl⟩⟩
      have HEN := Lib.hid hend
      rw [hend]
      clear hend
      go_wp2_with fail
      refine (need_yes _).mono ?_
      rintro e w8 ⟨rfl, rfl⟩
      obtain ⟨d0, d1, d2, d3, d4⟩ := cells5p HE.out.2.2.2.1
      go_wp2_with fail
      refine (HMay.out _ (Below.refl _ _)).mono ?_
      rintro e w9 ⟨rfl, hb9⟩
      replace HE := Lib.hid (HE.out.later hb9)
      replace HM := Lib.hid (HM.out.below hb9)
      clear hb9 HMay d0 d1 d2 d3 d4
      cases hmm : mayP ⟨ack, strOf f, strOf t, (i : Int), es⟩
      · rw [finishP_no (fun h => by rw [hmm] at h; cases h.2)] at HO
        clear hmm
        go_wp2_with fail
        refine (need_no _).mono ?_
        rintro e w3 ⟨rfl, rfl⟩
        exact ⟨rfl, HE.out.1, .inr ⟨HO.out, rfl⟩⟩
      rw [finishP_yes hn HEN.out hmm] at HO
      clear hmm HEN
      go_wp2_with fail
      refine (need_yes _).mono ?_
      rintro e w10 ⟨rfl, rfl⟩
      obtain ⟨d0, d1, d2, d3, d4⟩ := cells5p HE.out.2.2.2.1
      obtain ⟨X, hX, hx3⟩ := HE.out.2.1
      have Hset := Lib.hid (setRow_heap _ _ _ #[.bool ack, .string (strOf f), .string (strOf t), .int .i64 (i : Int), .slice A es.length cap] _ _ hx3)
      have HB := Lib.hid (below_setRow HE.out.1 (Nat.le_refl w.heap.size) #[.bool ack, .string (strOf f), .string (strOf t), .int .i64 (i : Int), .slice A es.length cap])
      have HM2 := Lib.hid (made_keep HM.out hx3 (by decide) (grown_setRow w9 w.heap.size #[.bool ack, .string (strOf f), .string (strOf t), .int .i64 (i : Int), .slice A es.length cap]))
      replace hx3 := Lib.hid hx3
      go_wp2_with (refine wpList_store_row rfl 33 (.tmp 2) (.tmp 43) rfl w.heap.size #[.bool ack, .string (strOf f), .string (strOf t), .int .i64 (i : Int), .slice A es.length cap] rfl rfl 33 X hx3.out par_size (hX.trans rfl) (one5 _ _ _ _ _ _ _) ?_)
      generalize hW2 : World.setRow _ _ _ = W3 at Hset HB HM2 ⊢
      clear hW2 d0 d1 d2 d3 d4
      obtain ⟨d0, d1, d2, d3, d4⟩ := cells5p Hset.out
      go_wp2_with fail
      refine bodyPost_ret (v := .agg #[.bool ack, .string (strOf f), .string (strOf t), .int .i64 (i : Int), .slice A es.length cap]) ?_ rfl ⟨HB.out, .inl ⟨_, _, HO.out, rfl, HM2.out⟩⟩
      simp [results, Try.results40, go_sem, d0, d1, d2, d3, d4]
end Go.Proofs.Ytnabbebkmafakaa
