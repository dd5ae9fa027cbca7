/-
  The heap's set: an entry is stored, and its place noted.
-/
import Derived.Test.YtkbmkbmbkmeenaaHpMem
import Derived.BigRegion
import Derived.BigQuiet
import Derived.Shelf.SlSortCmp.QuietGrown
namespace Go.Proofs.Ytkbmkbmbkmeenaa
set_option maxRecDepth 20000
open Go.RowKit
set_option linter.unusedVariables false
set_option linter.unusedSimpArgs false
variable {S : Nat → Prop} {w w' w'' : World} {g mb : Nat} {v : Value} {es : List Ent} {D : Dm}

theorem HSt.slice {i : Nat} (h : HSt w g v mb es D) (hi : i < es.length) : ∃ b off cap, v = .slice (some ⟨b, off, none⟩) es.length cap ∧ es.length ≤ cap ∧ cap ≤ maxLen := by
  rcases h.row with ⟨_, rfl⟩ | ⟨b, off, cap, cur, rfl, _, _, h1, h2, _⟩
  · exact absurd hi (Nat.not_lt_zero _)
  · exact ⟨b, off, cap, rfl, h1, h2⟩
theorem HSt.c0 (h : HSt w g v mb es D) : w.cell? ⟨g, 0, none⟩ = some v := cell_at h.hd 0
theorem HSt.c1 (h : HSt w g v mb es D) : w.cell? ⟨g, 1, none⟩ = some (.map (some mb)) := cell_at h.hd 1
theorem HSt.f0 (h : HSt w g v mb es D) : w.frozen? ⟨g, 0, none⟩ = false := free_at h.hd 0
/-- An entry's cells. -/
theorem HSt.ent {b off n cap i : Nat} (h : HSt w g (.slice (some ⟨b, off, none⟩) n cap) mb es D) (hi : i < es.length) : w.cell? ⟨b, off + i * 2, none⟩ = some (.int .i64 (nth es i).tick) ∧ w.cell? ⟨b, off + i * 2 + 1, none⟩ = some (.string (nth es i).key) := by
  obtain ⟨b', off', e, _, hr⟩ := h.row.slice.at (nth_some hi)
  injection e with e
  injection e with e1 e2 _
  subst e1 e2
  exact range2 hr
theorem HSt.there {b off n cap i : Nat} (h : HSt w g (.slice (some ⟨b, off, none⟩) n cap) mb es D) (hi : i < es.length) : (w.frozen? ⟨b, off + i * 2, none⟩ = false ∧ w.frozen? ⟨b, off + i * 2 + 1, none⟩ = false) := by
  have := h.row.there hi
  exact ⟨(this 0 (by decide)).2, (this 1 (by decide)).2⟩

set_option maxHeartbeats 400000 in
theorem set_any (h : HSt w g v mb es D) {i : Nat} (hi : i < es.length) (hn : es.length ≤ 1000) (hs : Maps.size D ≤ 1000) (x : Ent) (hx : x.key.size ≤ maxLen) :
    Calls Try.prog 39 #[.pointer (some ⟨g, 0, none⟩), .int .i64 (i : Int), .agg #[.int .i64 x.tick, .string x.key]] w fun e w' => e = .returned (.tuple #[]) ∧ HSt w' g v mb (es.set i x) (D.put (kl x.key) (numD i)) ∧ Turns (own3 g v mb) w w' := by
  obtain ⟨b, off, cap, rfl, hc1, hc2⟩ := h.slice hi
  have hix := index_any (P := Try.prog) knC (by decide) (b := b) (off := off) (cap := cap) hi
  simp only [LC] at hix
  have H0 := Lib.hid h
  clear h
  go_enter Try.func39, Try.ntmps39
  go_upto_region 1 with (fail)
  have H1 := Lib.hid (H0.out.alloc (.cells #[.int .i64 x.tick, .string x.key] 45))
  have T1 := Lib.hid (Turns.below (S := own3 g (.slice (some ⟨b, off, none⟩) es.length cap) mb) (Below.alloc (Below.refl w.heap.size w) (Nat.le_refl _) (.cells #[.int .i64 x.tick, .string x.key] 45)))
  have HB := Lib.hid (heap_alloc_new w (.cells #[.int .i64 x.tick, .string x.key] 45))
  generalize w.alloc (.cells #[.int .i64 x.tick, .string x.key] 45) = w1 at H1 T1 HB ⊢
  have hbB : w.heap.size ≠ b := fun e => by have := H0.out.old b (.inr (.inl rfl)); omega
  generalize w.heap.size = B at HB hbB ⊢
  have b0 : w1.cell? ⟨B, 0, none⟩ = some (.int .i64 x.tick) := cell_at HB.out 0
  have b1 : w1.cell? ⟨B, 1, none⟩ = some (.string x.key) := cell_at HB.out 1
  have c0 := H1.out.c0
  have c1 := H1.out.c1
  obtain ⟨f0, f1⟩ := H1.out.there hi
  obtain ⟨d0, d1⟩ := H1.out.ent hi
  go_region
  have H2 := Lib.hid ((H1.out.set hi x).drew)
  have T2 := Lib.hid (T1.out.trans (Turns.grown (S := own3 g (.slice (some ⟨b, off, none⟩) es.length cap) mb) (sm_grown w1 b (off + i * 2) [.int .i64 x.tick, .string x.key]) (fun k e => by injection e with e; subst e; exact .inr (.inl rfl))))
  replace T2 := Lib.hid T2.out.drew
  replace HB := Lib.hid ((show (w1.setCells b (off + i * 2) [.int .i64 x.tick, .string x.key]).drew.heap[B]? = w1.heap[B]? from sm_far b B hbB _ _ _).trans HB.out)
  simp only [World.setCells] at H2 T2 HB
  go_upto_region 2 with (fail)
  generalize World.drew _ = w2 at H2 T2 HB ⊢
  clear b0 b1 c0 c1 f0 f1 d0 d1 H1 T1 hix
  have b1 : w2.cell? ⟨B, 1, none⟩ = some (.string x.key) := cell_at HB.out 1
  have c1 := H2.out.c1
  obtain ⟨w3, hr, o3, t3⟩ := H2.out.drew.map.store keyed Try.underlying58 (Nat.lt_of_le_of_lt hs (by unfold maxLen; omega)) (keyIs hx) (numIs (i := i) (by omega))
  have H3 := Lib.hid (H2.out.drew.maps o3 t3)
  have T3 := Lib.hid (T2.out.drew.trans (Turns.maps t3))
  clear o3 t3
  go_region
  go_wp2_with fail
  go_end0
  exact ⟨rfl, H3.out, T3.out⟩
end Go.Proofs.Ytkbmkbmbkmeenaa
