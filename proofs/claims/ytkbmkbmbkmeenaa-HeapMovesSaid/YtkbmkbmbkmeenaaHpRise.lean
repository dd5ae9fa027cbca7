/-
  The heap's firstBelow, rise, sink, settle.
-/
import Derived.Test.YtkbmkbmbkmeenaaHpSet
import Derived.LoopTactic
namespace Go.Proofs.Ytkbmkbmbkmeenaa
set_option maxRecDepth 20000
open Go.RowKit
set_option linter.unusedVariables false
set_option linter.unusedSimpArgs false
variable {S : Nat → Prop} {w w' w'' : World} {g mb : Nat} {v : Value} {es : List Ent} {D : Dm}

theorem HSt.ents {b off n cap i : Nat} (h : HSt w g (.slice (some ⟨b, off, none⟩) n cap) mb es D) (hi : i < es.length) : (∀ (q : Nat) (os : Array Obj), (Sort.grow (w.drewN q) os).cell? ⟨b, off + i * 2, none⟩ = some (.int .i64 (nth es i).tick)) ∧ ∀ (q : Nat) (os : Array Obj), (Sort.grow (w.drewN q) os).cell? ⟨b, off + i * 2 + 1, none⟩ = some (.string (nth es i).key) := by
  obtain ⟨d0, d1⟩ := h.ent hi
  have hb := h.old b (.inr (.inl rfl))
  exact ⟨fun q os => cell_grown hb d0 q os, fun q os => cell_grown hb d1 q os⟩
theorem HSt.c0s (h : HSt w g v mb es D) (q : Nat) (os : Array Obj) : (Sort.grow (w.drewN q) os).cell? ⟨g, 0, none⟩ = some v := cell_grown (h.old g (.inl rfl)) h.c0 q os

theorem mixedO : Try.prog.follows .mixedOrders = true := by kernel_rfl
set_option maxHeartbeats 300000 in
theorem firstBelow_any (h : HSt w g v mb es D) {i : Nat} (h1 : 2 * i + 1 < es.length) (hn : es.length ≤ 1000) :
    Calls Try.prog 55 #[.pointer (some ⟨g, 0, none⟩), .int .i64 (i : Int)] w fun e w' => e = .returned (.int .i64 (belowL es i : Int)) ∧ ∃ q os', w' = Sort.grow (w.drewN q) os' := by
  obtain ⟨b, off, cap, rfl, hc1, hc2⟩ := h.slice h1
  unfold maxLen at hc2
  have c0 := h.c0s
  have mixed := mixedO
  by_cases h2 : 2 * i + 2 < es.length
  · have q1 : decide (2 * (i : Int) + 2 < (es.length : Int)) = true := decide_eq_true (by omega)
    have hx1 := index_any (P := Try.prog) knC (by decide) (b := b) (off := off) (cap := cap) h1
    have hx2 := index_any (P := Try.prog) knC (by decide) (b := b) (off := off) (cap := cap) h2
    rw [show ((2 * i + 1 : Nat) : Int) = 2 * (i : Int) + 1 by omega] at hx1
    rw [show ((2 * i + 2 : Nat) : Int) = 2 * (i : Int) + 2 by omega] at hx2
    obtain ⟨d0, d1⟩ := h.ents h1
    obtain ⟨d2, d3⟩ := h.ents h2
    simp only [LC] at hx1 hx2
    have hb : belowL es i = bif beforeB (nth es (2 * i + 2)) (nth es (2 * i + 1)) then 2 * i + 2 else 2 * i + 1 := by
      unfold belowL
      rw [decide_eq_true h2, Bool.true_and]
    generalize nth es (2 * i + 1) = x at *
    generalize nth es (2 * i + 2) = y at *
    have HB := Lib.hid hb
    have H := Lib.hid h
    clear hb h
    generalize off + (2 * i + 1) * 2 = o1 at *
    generalize off + (2 * i + 2) * 2 = o2 at *
    go_enter Try.func55, Try.ntmps55
    go_upto_region 2 with (fail)
    go_quiet_grown (first | (go_at_call 54; exact Calls.grown_of (before_any y x _)))
    cases hbb : beforeB y x
    all_goals
      go_wp2_with fail
      go_ret
      rw [HB.out, hbb]
      exact ⟨rfl, _, _, rfl⟩
  · have q1 : decide (2 * (i : Int) + 2 < (es.length : Int)) = false := decide_eq_false (by omega)
    have hb : belowL es i = 2 * i + 1 := by
      unfold belowL
      rw [decide_eq_false h2]
      rfl
    have HB := Lib.hid hb
    clear c0
    have c0 := h.c0
    have H := Lib.hid h
    clear hb h
    go_enter Try.func55, Try.ntmps55
    go_upto_region 2 with (fail)
    go_quiet (fail)
    go_wp2_with fail
    go_ret
    rw [HB.out]
    exact ⟨rfl, nq, #[], by rw [Sort.grow_empty]⟩

/-- While an entry's place is looked for: the hole is at k. -/
structure HoleS (P : List Ent → Nat → Prop) (w wr : World) (g : Nat) (v : Value) (mb : Nat) (es : List Ent) (B : Nat) (e : Ent) (k : Nat) (es1 : List Ent) (D1 : Dm) : Prop where
  st : HSt wr g v mb es1 D1
  box : wr.heap[B]? = some (.cells #[.int .i64 e.tick, .string e.key] 45 (0, 0))
  lt : k < es1.length
  len : es1.length = es.length
  perm : (es1.set k e).Perm es
  pl : PlH D1 (es1.set k e) k
  turns : Turns (own3 g v mb) w wr
  base : w.heap.size ≤ B
  new : ∀ q, own3 g v mb q → q < w.heap.size
  keys : KeysE es
  okP : P (es1.set k e) k
theorem HoleS.size {P : List Ent → Nat → Prop} {w wr : World} {B k : Nat} {e : Ent} {es1 : List Ent} {D1 : Dm} (h : HoleS P w wr g v mb es B e k es1 D1) (hn : es.length ≤ 1000) : Maps.size D1 ≤ 1000 := by
  have := h.pl.size h.st.map.fine
  rw [List.length_set, h.len] at this
  omega
theorem HoleS.grow {P : List Ent → Nat → Prop} {w wr w2 : World} {B k : Nat} {e : Ent} {es1 : List Ent} {D1 : Dm} (h : HoleS P w wr g v mb es B e k es1 D1) (hb : Below wr.heap.size wr w2) : HoleS P w w2 g v mb es B e k es1 D1 :=
  ⟨h.st.below hb, (hb.block B (smem_lt h.box)).trans h.box, h.lt, h.len, h.perm, h.pl, h.turns.trans (Turns.below hb), h.base, h.new, h.keys, h.okP⟩
theorem HoleS.step {P : List Ent → Nat → Prop} {w wr w2 : World} {B k a : Nat} {e : Ent} {es1 : List Ent} {D1 : Dm} (h : HoleS P w wr g v mb es B e k es1 D1) (ha : a < es1.length) (hak : a ≠ k)
    (hs : HSt w2 g v mb (es1.set k (nth es1 a)) (D1.put (kl (nth es1 a).key) (numD k))) (ht : Turns (own3 g v mb) wr w2) (hP : P (swp (es1.set k e) k a) a) : HoleS P w w2 g v mb es B e a (es1.set k (nth es1 a)) (D1.put (kl (nth es1 a).key) (numD k)) := by
  have hV : (es1.set k (nth es1 a)).set a e = swp (es1.set k e) k a := by
    unfold swp
    rw [nth_set e _ h.lt, nth_set e _ h.lt, if_pos rfl, if_neg hak, List.set_set]
  have hk1 : k < (es1.set k e).length := by rw [List.length_set]; exact h.lt
  have ha1 : a < (es1.set k e).length := by rw [List.length_set]; exact ha
  have hn : nth (es1.set k e) a = nth es1 a := by rw [nth_set e _ h.lt, if_neg hak]
  refine ⟨hs, (ht.block B (smem_lt h.box) (fun q => by have := h.new B q; have := h.base; omega)).trans h.box, by rw [List.length_set]; exact ha, by rw [List.length_set]; exact h.len, ?_, ?_, h.turns.trans ht, h.base, h.new, h.keys, ?_⟩
  · rw [hV]
    exact (swp_perm hk1 ha1).trans h.perm
  · rw [hV]
    have := h.pl.move h.st.map.fine.isMap hk1 ha1 hak (h.keys.perm h.perm)
    rw [hn] at this
    exact this
  · rw [hV]
    exact hP
theorem HoleS.stop {P : List Ent → Nat → Prop} {w wr : World} {B k : Nat} {e : Ent} {es1 : List Ent} {D1 : Dm} (h : HoleS P w wr g v mb es B e k es1 D1) : Pl (D1.put (kl e.key) (numD k)) (es1.set k e) := by
  have := h.pl.fill h.st.map.fine.isMap (by rw [List.length_set]; exact h.lt) (h.keys.perm h.perm)
  rw [nth_set e _ h.lt, if_pos rfl] at this
  exact this
theorem HoleS.start {P : List Ent → Nat → Prop} {i : Nat} (h : HSt w g v mb es D) (hi : i < es.length) (hk : KeysE es) (hp : PlH D es i) (hP : P es i) : HoleS P w (w.alloc (.cells #[.int .i64 (nth es i).tick, .string (nth es i).key] 45)) g v mb es w.heap.size (nth es i) i es D := by
  refine ⟨h.alloc _, heap_alloc_new w _, hi, rfl, ?_, ?_, Turns.below (Below.alloc (Below.refl w.heap.size w) (Nat.le_refl _) _), Nat.le_refl _, h.old, hk, ?_⟩
  · rw [nth_set_self hi]
  · rw [nth_set_self hi]; exact hp
  · rw [nth_set_self hi]; exact hP
theorem HoleS.other {P : List Ent → Nat → Prop} {w wr : World} {B k a : Nat} {e : Ent} {es1 : List Ent} {D1 : Dm} (h : HoleS P w wr g v mb es B e k es1 D1) (ha : a < es1.length) (hak : a ≠ k) : nth (es1.set k e) a = nth es1 a ∧ nth (es1.set k e) k = e ∧ nth es1 a ∈ es := by
  have h1 : nth (es1.set k e) a = nth es1 a := by rw [nth_set e _ h.lt, if_neg hak]
  refine ⟨h1, by rw [nth_set e _ h.lt, if_pos rfl], h.perm.mem_iff.1 ?_⟩
  rw [← h1]
  exact nth_mem (by rw [List.length_set]; exact ha)
theorem HoleS.boxs {P : List Ent → Nat → Prop} {w wr : World} {B k : Nat} {e : Ent} {es1 : List Ent} {D1 : Dm} (h : HoleS P w wr g v mb es B e k es1 D1) : (∀ (q : Nat) (os : Array Obj), (Sort.grow (wr.drewN q) os).cell? ⟨B, 0, none⟩ = some (.int .i64 e.tick)) ∧ ∀ (q : Nat) (os : Array Obj), (Sort.grow (wr.drewN q) os).cell? ⟨B, 1, none⟩ = some (.string e.key) :=
  ⟨fun q os => cell_grown (a := ⟨B, 0, none⟩) (smem_lt h.box) (cell_at h.box 0) q os, fun q os => cell_grown (a := ⟨B, 1, none⟩) (smem_lt h.box) (cell_at h.box 1) q os⟩

set_option maxHeartbeats 400000 in
theorem rise_any (h : HSt w g v mb es D) {i : Nat} (hi : i < es.length) (hn : es.length ≤ 1000) (hk : KeysE es) (hok : ∀ x ∈ es, x.key.size ≤ maxLen) (hp : PlH D es i) (hw : Wrong es i) :
    Calls Try.prog 40 #[.pointer (some ⟨g, 0, none⟩), .int .i64 (i : Int)] w fun e w' => e = .returned (.tuple #[]) ∧ ∃ es' D', HSt w' g v mb es' D' ∧ es'.Perm es ∧ Pl D' es' ∧ DownE es' i ∧ Turns (own3 g v mb) w w' := by
  have HS := Lib.hid (HoleS.start (P := fun V k => RiseI V k i) h hi hk hp ⟨Nat.le_refl _, .inl ⟨rfl, hw⟩⟩)
  have HX := Lib.hid (hok _ (nth_mem hi))
  obtain ⟨b, off, cap, rfl, hc1, hc2⟩ := h.slice hi
  unfold maxLen at hc2
  have c0 := h.c0
  obtain ⟨d0, d1⟩ := h.ent hi
  have hix := index_any (P := Try.prog) knC (by decide) (b := b) (off := off) (cap := cap) hi
  simp only [LC] at hix
  have HOK := Lib.hid hok
  have mixed := mixedO
  generalize nth es i = e at *
  clear h hk hp hw hok
  go_enter Try.func40, Try.ntmps40
  go_wp2_with fail
  clear c0 d0 d1 hix
  generalize w.heap.size = B at HS ⊢
  generalize w.alloc _ = w0 at HS ⊢
  go_loopw [1] (fun x wr => ∃ (k : Nat) (es1 : List Ent) (D1 : Dm), x = .int .i64 (k : Int) ∧ k < es.length ∧ Hid (HoleS (fun V k => RiseI V k i) w wr g (.slice (some ⟨b, off, none⟩) es.length cap) mb es B e k es1 D1)) (fun x _ => (intOf x).toNat)
  case atStart => exact ⟨i, es, D, rfl, hi, HS⟩
  case round =>
    obtain ⟨k, es1, D1, rfl, hkl, HS1⟩ := hrel
    have HI := Lib.hid hi
    clear HS hi
    have hl1 := HS1.out.len
    have HL := Lib.hid hl1
    clear hl1
    have stop : ∀ (w3 : World), Hid (HoleS (fun V k => RiseI V k i) w w3 g (.slice (some ⟨b, off, none⟩) es.length cap) mb es B e k es1 D1) → Calls Try.prog 39 #[.pointer (some ⟨g, 0, none⟩), .int .i64 (k : Int), .agg #[.int .i64 e.tick, .string e.key]] w3 fun e' w' => e' = .returned (.tuple #[]) ∧ HSt w' g (.slice (some ⟨b, off, none⟩) es.length cap) mb (es1.set k e) (D1.put (kl e.key) (numD k)) ∧ Turns (own3 g (.slice (some ⟨b, off, none⟩) es.length cap) mb) w3 w' :=
      fun w3 h3 => set_any h3.out.st h3.out.lt (by rw [HL.out]; exact hn) (h3.out.size hn) e HX.out
    by_cases h0 : 0 < k
    · have q1 : decide (0 < k) = true := decide_eq_true h0
      have q2 : decide ((0 : Int) < (k : Int)) = true := decide_eq_true (by omega)
      obtain ⟨a, ha⟩ : ∃ a : Nat, a = (k - 1) / 2 := ⟨_, rfl⟩
      have hdiv : ((k : Int) - 1).tdiv 2 = (a : Int) := by rw [ha, Int.tdiv_eq_ediv_of_nonneg (by omega)]; omega
      have hal : a < es.length := by omega
      have HA := Lib.hid ha
      have hak : Hid (a ≠ k) := Lib.hid (by omega)
      clear ha
      have c0 := HS1.out.st.c0s
      obtain ⟨b0, b1⟩ := HS1.out.boxs
      obtain ⟨d0, d1⟩ := HS1.out.st.ents (i := a) (by rw [HL.out]; exact hal)
      have hix := index_any (P := Try.prog) knC (by decide) (b := b) (off := off) (cap := cap) hal
      simp only [LC] at hix
      have HXA : Hid ((nth es1 a).key.size ≤ maxLen) := Lib.hid (HOK.out _ (HS1.out.other (by rw [HL.out]; exact hal) hak.out).2.2)
      generalize hxa : nth es1 a = x at d0 d1 HXA
      have HXX := Lib.hid hxa
      clear hxa
      go_upto_region 3 with (fail)
      go_quiet_grown (first | (go_at_call 54; exact Calls.grown_of (before_any e x _)))
      have H2 := Lib.hid (HS1.out.grow (grow_below wr (GrownBy.mk nq osq).n (GrownBy.mk nq osq).os))
      clear c0 b0 b1 d0 d1
      generalize Sort.grow _ _ = w2 at H2 ⊢
      clear HS1
      have c0 := H2.out.st.c0
      have b0 : w2.cell? ⟨B, 0, none⟩ = some (.int .i64 e.tick) := cell_at H2.out.box 0
      have b1 : w2.cell? ⟨B, 1, none⟩ = some (.string e.key) := cell_at H2.out.box 1
      obtain ⟨d0, d1⟩ := H2.out.st.ent (i := a) (by rw [HL.out]; exact hal)
      rw [HXX.out] at d0 d1
      cases hbb : beforeB e x
      · go_wp2_with fail
        go_at_call 39
        refine (stop _ H2).mono ?_
        rintro e' w3 ⟨rfl, s3, t3⟩
        replace s3 := Lib.hid s3
        replace t3 := Lib.hid t3
        go_wp2_with fail
        go_end0
        refine ⟨rfl, _, _, s3.out, H2.out.perm, H2.out.stop, rise_end H2.out.okP (by rw [List.length_set, HL.out]; exact HI.out) (.inr ?_), H2.out.turns.trans t3.out⟩
        obtain ⟨o1, o2, _⟩ := H2.out.other (a := a) (by rw [HL.out]; exact hal) hak.out
        rw [← HA.out, o1, o2, HXX.out]
        exact hbb
      · go_wp2_with fail
        go_at_call 39
        refine (set_any H2.out.st H2.out.lt (by rw [HL.out]; exact hn) (H2.out.size hn) x HXA.out).mono ?_
        rintro e' w3 ⟨rfl, s3, t3⟩
        replace s3 := Lib.hid s3
        replace t3 := Lib.hid t3
        have H3 : Hid (HoleS (fun V k => RiseI V k i) w w3 g (.slice (some ⟨b, off, none⟩) es.length cap) mb es B e a (es1.set k x) (D1.put (kl x.key) (numD k))) := Lib.hid (by
          obtain ⟨o1, o2, _⟩ := H2.out.other (a := a) (by rw [HL.out]; exact hal) hak.out
          have s4 := s3.out
          rw [← HXX.out] at s4 ⊢
          refine H2.out.step (by rw [HL.out]; exact hal) hak.out s4 t3.out ?_
          have := rise_step H2.out.okP h0 (by rw [List.length_set]; exact H2.out.lt) (by rw [← HA.out, o1, o2, HXX.out]; exact hbb)
          rw [← HA.out] at this
          exact this)
        clear s3 t3 H2 stop
        go_wp2_with fail
        refine ⟨⟨a, _, _, rfl, hal, H3⟩, ?_⟩
        have := HA.out
        simp [intOf]; omega
    · have q1 : decide (0 < k) = false := decide_eq_false h0
      have q2 : decide ((0 : Int) < (k : Int)) = false := decide_eq_false (by omega)
      have b0 : wr.cell? ⟨B, 0, none⟩ = some (.int .i64 e.tick) := cell_at HS1.out.box 0
      have b1 : wr.cell? ⟨B, 1, none⟩ = some (.string e.key) := cell_at HS1.out.box 1
      go_wp2_with fail
      go_at_call 39
      refine (stop _ HS1).mono ?_
      rintro e' w3 ⟨rfl, s3, t3⟩
      replace s3 := Lib.hid s3
      replace t3 := Lib.hid t3
      go_wp2_with fail
      go_end0
      exact ⟨rfl, _, _, s3.out, HS1.out.perm, HS1.out.stop, rise_end HS1.out.okP (by rw [List.length_set, HL.out]; exact HI.out) (.inl (by omega)), HS1.out.turns.trans t3.out⟩
end Go.Proofs.Ytkbmkbmbkmeenaa
