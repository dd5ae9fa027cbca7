/-
  The heap's sink, settle.
-/
import Derived.Test.YtkbmkbmbkmeenaaHpRise
namespace Go.Proofs.Ytkbmkbmbkmeenaa
set_option maxRecDepth 20000
open Go.RowKit
set_option linter.unusedVariables false
set_option linter.unusedSimpArgs false
variable {S : Nat → Prop} {w w' w'' : World} {g mb : Nat} {v : Value} {es : List Ent} {D : Dm}

theorem below_set {es : List Ent} {k : Nat} (e : Ent) (h : k < es.length) : belowL (es.set k e) k = belowL es k := by
  unfold belowL
  rw [List.length_set, nth_set e _ h, nth_set e _ h, if_neg (by omega), if_neg (by omega)]

set_option maxHeartbeats 400000 in
theorem sink_any (h : HSt w g v mb es D) {i : Nat} (hi : i < es.length) (hn : es.length ≤ 1000) (hk : KeysE es) (hok : ∀ x ∈ es, x.key.size ≤ maxLen) (hp : PlH D es i) (hw : DownE es i) :
    Calls Try.prog 41 #[.pointer (some ⟨g, 0, none⟩), .int .i64 (i : Int)] w fun e w' => e = .returned (.tuple #[]) ∧ ∃ es' D', HSt w' g v mb es' D' ∧ es'.Perm es ∧ Pl D' es' ∧ HeapE es' ∧ Turns (own3 g v mb) w w' := by
  have HS := Lib.hid (HoleS.start (P := fun V k => DownE V k) h hi hk hp hw)
  have HX := Lib.hid (hok _ (nth_mem hi))
  obtain ⟨b, off, cap, rfl, hc1, hc2⟩ := h.slice hi
  unfold maxLen at hc2
  have c0 := h.c0
  obtain ⟨d0, d1⟩ := h.ent hi
  have hix := index_any (P := Try.prog) knC (by decide) (b := b) (off := off) (cap := cap) hi
  simp only [LC] at hix
  have HOK := Lib.hid hok
  have mixed := mixedO
  generalize nth es i = e at *
  clear h hk hp hw hok
  go_enter Try.func41, Try.ntmps41
  go_wp2_with fail
  clear c0 d0 d1 hix
  generalize w.heap.size = B at HS ⊢
  generalize w.alloc _ = w0 at HS ⊢
  go_loopw [1] (fun x wr => ∃ (k : Nat) (es1 : List Ent) (D1 : Dm), x = .int .i64 (k : Int) ∧ k < es.length ∧ Hid (HoleS (fun V k => DownE V k) w wr g (.slice (some ⟨b, off, none⟩) es.length cap) mb es B e k es1 D1)) (fun x _ => es.length - (intOf x).toNat)
  case atStart => exact ⟨i, es, D, rfl, hi, HS⟩
  case round =>
    obtain ⟨k, es1, D1, rfl, hkl, HS1⟩ := hrel
    have HI := Lib.hid hi
    clear HS hi
    have hl1 := HS1.out.len
    have HL := Lib.hid hl1
    clear hl1
    have stop : ∀ (w3 : World), Hid (HoleS (fun V k => DownE V k) w w3 g (.slice (some ⟨b, off, none⟩) es.length cap) mb es B e k es1 D1) → Calls Try.prog 39 #[.pointer (some ⟨g, 0, none⟩), .int .i64 (k : Int), .agg #[.int .i64 e.tick, .string e.key]] w3 fun e' w' => e' = .returned (.tuple #[]) ∧ HSt w' g (.slice (some ⟨b, off, none⟩) es.length cap) mb (es1.set k e) (D1.put (kl e.key) (numD k)) ∧ Turns (own3 g (.slice (some ⟨b, off, none⟩) es.length cap) mb) w3 w' :=
      fun w3 h3 => set_any h3.out.st h3.out.lt (by rw [HL.out]; exact hn) (h3.out.size hn) e HX.out
    have c0 := HS1.out.st.c0
    have b0 : wr.cell? ⟨B, 0, none⟩ = some (.int .i64 e.tick) := cell_at HS1.out.box 0
    have b1 : wr.cell? ⟨B, 1, none⟩ = some (.string e.key) := cell_at HS1.out.box 1
    by_cases h0 : 2 * k + 1 < es.length
    · have q1 : decide (2 * (k : Int) + 1 < (es.length : Int)) = true := decide_eq_true (by omega)
      have FB : ∀ e', Hid (HoleS (fun V k => DownE V k) w wr g (.slice (some ⟨b, off, none⟩) es.length cap) mb es B e' k es1 D1) → Calls Try.prog 55 #[.pointer (some ⟨g, 0, none⟩), .int .i64 (k : Int)] wr fun e w' => e = .returned (.int .i64 (belowL es1 k : Int)) ∧ ∃ q os', w' = Sort.grow (wr.drewN q) os' := fun e' h3 => firstBelow_any h3.out.st (by rw [HL.out]; exact h0) (by rw [HL.out]; exact hn)
      have hbc := below_cases (es := es1.set k e) (i := k) (by rw [List.length_set, HL.out]; exact h0)
      rw [below_set e HS1.out.lt] at hbc
      obtain ⟨y1, y2, y3, y4⟩ := hbc
      rw [List.length_set, HL.out] at y1
      have Y2 := Lib.hid y2
      have Y4 := Lib.hid y4
      clear y2 y4
      replace FB := FB e HS1
      generalize belowL es1 k = a at *
      have hak : Hid (a ≠ k) := Lib.hid (by omega)
      go_upto_region 2 with (fail)
      go_wp2_with fail
      refine FB.mono ?_
      rintro e' w2 ⟨rfl, q, os, rfl⟩
      have H2 := Lib.hid (HS1.out.grow (grow_below wr q os))
      clear c0 b0 b1 FB
      generalize Sort.grow _ _ = w2 at H2 ⊢
      clear HS1
      have c0 := H2.out.st.c0s
      obtain ⟨b0, b1⟩ := H2.out.boxs
      obtain ⟨d0, d1⟩ := H2.out.st.ents (i := a) (by rw [HL.out]; exact y1)
      have hix := index_any (P := Try.prog) knC (by decide) (b := b) (off := off) (cap := cap) y1
      simp only [LC] at hix
      have HXA : Hid ((nth es1 a).key.size ≤ maxLen) := Lib.hid (HOK.out _ (H2.out.other (by rw [HL.out]; exact y1) hak.out).2.2)
      generalize hxa : nth es1 a = x at d0 d1 HXA
      have HXX := Lib.hid hxa
      clear hxa
      go_upto_region 3 with (fail)
      go_quiet_grown (first | (go_at_call 54; exact Calls.grown_of (before_any x e _)))
      have H3 := Lib.hid (H2.out.grow (grow_below w2 (GrownBy.mk nq osq).n (GrownBy.mk nq osq).os))
      clear c0 b0 b1 d0 d1
      generalize Sort.grow _ _ = w3 at H3 ⊢
      clear H2
      have c0 := H3.out.st.c0
      have b0 : w3.cell? ⟨B, 0, none⟩ = some (.int .i64 e.tick) := cell_at H3.out.box 0
      have b1 : w3.cell? ⟨B, 1, none⟩ = some (.string e.key) := cell_at H3.out.box 1
      obtain ⟨d0, d1⟩ := H3.out.st.ent (i := a) (by rw [HL.out]; exact y1)
      rw [HXX.out] at d0 d1
      cases hbb : beforeB x e
      · go_wp2_with fail
        go_at_call 39
        refine (stop _ H3).mono ?_
        rintro e' w4 ⟨rfl, s3, t3⟩
        replace s3 := Lib.hid s3
        replace t3 := Lib.hid t3
        go_wp2_with fail
        go_end0
        refine ⟨rfl, _, _, s3.out, H3.out.perm, H3.out.stop, sink_end H3.out.okP (.inr ⟨a, ?_, Y4.out⟩), H3.out.turns.trans t3.out⟩
        obtain ⟨o1, o2, _⟩ := H3.out.other (a := a) (by rw [HL.out]; exact y1) hak.out
        rw [o1, o2, HXX.out]
        exact hbb
      · go_wp2_with fail
        go_at_call 39
        refine (set_any H3.out.st H3.out.lt (by rw [HL.out]; exact hn) (H3.out.size hn) x HXA.out).mono ?_
        rintro e' w4 ⟨rfl, s3, t3⟩
        replace s3 := Lib.hid s3
        replace t3 := Lib.hid t3
        have H4 : Hid (HoleS (fun V k => DownE V k) w w4 g (.slice (some ⟨b, off, none⟩) es.length cap) mb es B e a (es1.set k x) (D1.put (kl x.key) (numD k))) := Lib.hid (by
          obtain ⟨o1, o2, _⟩ := H3.out.other (a := a) (by rw [HL.out]; exact y1) hak.out
          have s4 := s3.out
          rw [← HXX.out] at s4 ⊢
          refine H3.out.step (by rw [HL.out]; exact y1) hak.out s4 t3.out ?_
          exact sink_step H3.out.okP (by rw [List.length_set]; exact H3.out.lt) (by rw [List.length_set, HL.out]; exact y1) Y2.out y3 Y4.out (by rw [o1, o2, HXX.out]; exact hbb))
        clear s3 t3 H3 stop
        go_wp2_with fail
        refine ⟨⟨a, _, _, rfl, y1, H4⟩, ?_⟩
        simp [intOf]; omega
    · have q1 : decide (2 * (k : Int) + 1 < (es.length : Int)) = false := decide_eq_false (by omega)
      go_wp2_with fail
      go_at_call 39
      refine (stop _ HS1).mono ?_
      rintro e' w3 ⟨rfl, s3, t3⟩
      replace s3 := Lib.hid s3
      replace t3 := Lib.hid t3
      go_wp2_with fail
      go_end0
      exact ⟨rfl, _, _, s3.out, HS1.out.perm, HS1.out.stop, sink_end HS1.out.okP (.inl (by rw [List.length_set, HL.out]; omega)), HS1.out.turns.trans t3.out⟩

theorem settle_any (h : HSt w g v mb es D) {i : Nat} (hi : i < es.length) (hn : es.length ≤ 1000) (hk : KeysE es) (hok : ∀ x ∈ es, x.key.size ≤ maxLen) (hp : PlH D es i) (hw : Wrong es i) :
    Calls Try.prog 34 #[.pointer (some ⟨g, 0, none⟩), .int .i64 (i : Int)] w fun e w' => e = .returned (.tuple #[]) ∧ ∃ es' D', HSt w' g v mb es' D' ∧ es'.Perm es ∧ Pl D' es' ∧ HeapE es' ∧ Turns (own3 g v mb) w w' := by
  have R := rise_any h hi hn hk hok hp hw
  have HK := Lib.hid hk
  have HOK := Lib.hid hok
  clear h hk hok hp hw
  go_enter Try.func34, Try.ntmps34
  go_wp2_with fail
  go_at_call 40
  refine R.mono ?_
  rintro e w1 ⟨rfl, es1, D1, s1, p1, l1, d1, t1⟩
  have hl := p1.length_eq
  have R2 := sink_any s1 (i := i) (by omega) (by omega) (HK.out.perm p1) (fun x hx => HOK.out x (p1.mem_iff.1 hx)) (l1.hole i) d1
  have P1 := Lib.hid p1
  have T1 := Lib.hid t1
  clear R s1 p1 l1 d1 t1
  go_wp2_with fail
  go_at_call 41
  refine R2.mono ?_
  rintro e w2 ⟨rfl, es2, D2, s2, p2, l2, d2, t2⟩
  go_wp2_with fail
  go_end0
  exact ⟨rfl, es2, D2, s2, p2.trans P1.out, l2, d2, T1.out.trans t2⟩
end Go.Proofs.Ytkbmkbmbkmeenaa
