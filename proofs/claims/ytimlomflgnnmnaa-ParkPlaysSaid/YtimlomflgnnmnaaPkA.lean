/-
  Package park: own; the library's Index, Contains, Delete at rows of EDUs.
-/
import Derived.Test.YtimlomflgnnmnaaPkM
import Derived.Lib.SliceRun
namespace Go.Proofs.Ytimlomflgnnmnaa
set_option maxRecDepth 20000
open Go.RowKit
set_option linter.unusedVariables false
set_option linter.unusedSimpArgs false

theorem TurnP.trans {P : Nat → Prop} {w w' w'' : World} (h : TurnP P w w') (h' : TurnP P w' w'') : TurnP P w w'' :=
  ⟨h'.os.trans h.os, h'.tape.trans h.tape, h'.output.trans h.output, Nat.le_trans h.size h'.size, fun k hk hp => (h'.block k (Nat.lt_of_lt_of_le hk h.size) hp).trans (h.block k hk hp)⟩
theorem TurnP.of {P : Nat → Prop} {w w' : World} (h : Below w.heap.size w w') : TurnP P w w' := ⟨h.os, h.tape, h.output, h.size, fun k hk _ => h.block k hk⟩
/-- What has been written is one of those, or new. -/
theorem TurnP.grown {P : Nat → Prop} {w w' w'' : World} {row : Option Nat} (h : TurnP P w w') (hg : w'.grownBy w'' row) (hr : ∀ k, row = some k → P k ∨ w.heap.size ≤ k) : TurnP P w w'' :=
  ⟨hg.os.trans h.os, hg.tape.trans h.tape, hg.output.trans h.output, Nat.le_trans h.size hg.size, fun k hk hp => (hg.block k (Nat.lt_of_lt_of_le hk h.size) (fun e => by
    rcases hr k e.symm with h1 | h1
    · exact hp h1
    · omega)).trans (h.block k hk hp)⟩
theorem TurnP.later {P : Nat → Prop} {w w' w'' : World} (h : TurnP P w w') (hb : Below w'.heap.size w' w'') : TurnP P w w'' := h.trans (TurnP.of hb)
theorem setCell_idem {w : World} {b i : Nat} {cur : Array Value} {t : TypeId} {f : Nat × Nat} {v : Value} (h : w.heap[b]? = some (.cells cur t f)) (hv : cur[i]? = some v) : w.setCell ⟨b, i, none⟩ v = w := by
  have hh : (w.setCell ⟨b, i, none⟩ v).heap = w.heap := by
    apply Array.ext_getElem?
    intro k
    simp only [World.setCell, Array.getElem?_modify]
    by_cases e : b = k
    · subst e
      rw [if_pos rfl, h]
      simp only [Option.map_some]
      have : cur.setIfInBounds i v = cur := by
        apply Array.ext_getElem?
        intro j
        rw [Array.getElem?_setIfInBounds]
        split
        · rename_i e
          subst e
          split
          · exact hv.symm
          · rename_i hlt
            rw [Array.getElem?_eq_none (by omega)]
        · rfl
      simp [this]
    · rw [if_neg e]
  cases w
  simp only [World.setCell] at hh ⊢
  rw [hh]

set_option maxHeartbeats 1600000 in
theorem own_any (e : Edu) (w : World) (hb : e.brief) :
    Calls Try.prog 27 #[e.val] w fun x w' => x = .returned e.val ∧ Below w.heap.size w w' := by
  obtain ⟨hr, hu, hv, ht⟩ := hb
  have H1 := Lib.hid (fun w => cloneP_any e.room w hr)
  have H2 := Lib.hid (fun w => cloneP_any e.user w hu)
  have H3 := Lib.hid (fun w => cloneP_any e.event w hv)
  have H4 := Lib.hid (fun w => cloneP_any e.thread w ht)
  obtain ⟨k, r, u, v, t, p, o, s, z, c, m⟩ := e
  simp only [Edu.val] at *
  clear hr hu hv ht
  go_enter Try.func27, Try.ntmps27
  go_upto_region 1 with (fail)
  generalize hW : (w.alloc _).alloc _ = W
  have hT := two_new hW rfl
  clear hW
  obtain ⟨d0, d1, d2, d3, d4, d5, d6, d7, d8, d9, d10⟩ := cells11 hT.2.1
  go_wp2_with fail
  go_at_call 34
  refine (H1.out _).mono ?_
  rintro e w1 ⟨rfl, hb⟩
  replace hT := hT.later hb
  clear hb H1 d0 d1 d2 d3 d4 d5 d6 d7 d8 d9 d10
  have hS := setCell_idem hT.2.1 (show _[1]? = some (.string r) from rfl)
  obtain ⟨d0, d1, d2, d3, d4, d5, d6, d7, d8, d9, d10⟩ := cells11 hT.2.1
  have z1 := free_at hT.2.1 1
  go_upto_region 2 with (fail)
  try rw [hS]
  clear hS z1
  go_wp2_with fail
  go_at_call 34
  refine (H2.out _).mono ?_
  rintro e w2 ⟨rfl, hb⟩
  replace hT := hT.later hb
  clear hb H2 d0 d1 d2 d3 d4 d5 d6 d7 d8 d9 d10
  have hS := setCell_idem hT.2.1 (show _[2]? = some (.string u) from rfl)
  obtain ⟨d0, d1, d2, d3, d4, d5, d6, d7, d8, d9, d10⟩ := cells11 hT.2.1
  have z1 := free_at hT.2.1 2
  go_upto_region 3 with (fail)
  try rw [hS]
  clear hS z1
  go_wp2_with fail
  go_at_call 34
  refine (H3.out _).mono ?_
  rintro e w3 ⟨rfl, hb⟩
  replace hT := hT.later hb
  clear hb H3 d0 d1 d2 d3 d4 d5 d6 d7 d8 d9 d10
  have hS := setCell_idem hT.2.1 (show _[3]? = some (.string v) from rfl)
  obtain ⟨d0, d1, d2, d3, d4, d5, d6, d7, d8, d9, d10⟩ := cells11 hT.2.1
  have z1 := free_at hT.2.1 3
  go_upto_region 4 with (fail)
  try rw [hS]
  clear hS z1
  go_wp2_with fail
  go_at_call 34
  refine (H4.out _).mono ?_
  rintro e w4 ⟨rfl, hb⟩
  replace hT := hT.later hb
  clear hb H4 d0 d1 d2 d3 d4 d5 d6 d7 d8 d9 d10
  have hS := setCell_idem hT.2.1 (show _[4]? = some (.string t) from rfl)
  obtain ⟨d0, d1, d2, d3, d4, d5, d6, d7, d8, d9, d10⟩ := cells11 hT.2.1
  have z1 := free_at hT.2.1 4
  go_upto_region 5 with (fail)
  try rw [hS]
  clear hS z1
  obtain ⟨X, hX, hx3⟩ := hT.2.2
  have Hset := Lib.hid (setRow_heap _ _ _ #[.int .i64 k, .string r, .string u, .string v, .string t, .bool p, .bool o, .int .i64 s, .int .i64 z, .int .i64 c, .int .i64 m] _ _ hx3)
  have HB := Lib.hid (hT.set (new := #[.int .i64 k, .string r, .string u, .string v, .string t, .bool p, .bool o, .int .i64 s, .int .i64 z, .int .i64 c, .int .i64 m]) rfl).1
  replace hx3 := Lib.hid hx3
  clear hT
  go_wp2_with (refine wpList_store_row rfl 32 (.tmp 2) (.tmp 19) rfl (w.heap.size + 1) #[.int .i64 k, .string r, .string u, .string v, .string t, .bool p, .bool o, .int .i64 s, .int .i64 z, .int .i64 c, .int .i64 m] rfl rfl 32 X hx3.out edu_info (hX.trans rfl) (one11 _ _ _ _ _ _ _ _ _ _ _) ?_)
  generalize hW2 : World.setRow _ _ _ = W3 at Hset HB ⊢
  clear hW2 d0 d1 d2 d3 d4 d5 d6 d7 d8 d9 d10
  obtain ⟨d0, d1, d2, d3, d4, d5, d6, d7, d8, d9, d10⟩ := cells11 Hset.out
  go_wp2_with fail
  refine bodyPost_ret (v := .agg #[.int .i64 k, .string r, .string u, .string v, .string t, .bool p, .bool o, .int .i64 s, .int .i64 z, .int .i64 c, .int .i64 m]) ?_ rfl ⟨rfl, HB.out⟩
  simp [results, Try.results27, go_sem, d0, d1, d2, d3, d4, d5, d6, d7, d8, d9, d10]

/-- One box, kept. -/
def OneE (w : World) (g : Nat) (cs : Array Value) (w' : World) : Prop := Below w.heap.size w w' ∧ w'.heap[g]? = some (.cells cs 32 (0, 0))
theorem OneE.later {w w' w'' : World} {g : Nat} {cs : Array Value} (h : OneE w g cs w') (hb : Below w'.heap.size w' w'') : OneE w g cs w'' := ⟨h.1.trans (hb.mono h.1.size), (hb.block _ (smem_lt h.2)).trans h.2⟩
theorem OneE.drewN {w w' : World} {g : Nat} {cs : Array Value} (h : OneE w g cs w') (n : Nat) : OneE w g cs (w'.drewN n) := ⟨⟨h.1.os, h.1.tape, h.1.output, h.1.size, h.1.block⟩, h.2⟩

set_option maxHeartbeats 1600000 in
theorem indexE_any (v : Value) (us : List Edu) (e : Edu) (w : World) (h : LE.Slice w v us) :
    Calls Try.prog 33 #[v, e.val] w fun x w' => (∃ n : Int, x = .returned (.int .i64 n) ∧ decide (0 ≤ n) = hasP us e) ∧ Below w.heap.size w w' := by
  obtain ⟨A, cap, rfl, h1, h2, -⟩ := id h
  unfold maxLen at h2
  have HR := Lib.hid h
  have HHit := Lib.hid (fun (a : Nat) (x : Edu) (hx : us[a]? = some x) (hq : eqE e x = true) => hasP_hit hx (by rw [eqE_comm]; exact hq))
  have HMiss := Lib.hid (fun h => hasP_miss (l := us) (e := e) h)
  generalize hasP us e = R at *
  have HT := Lib.hid (show OneE w w.heap.size e.cells.toArray (w.alloc (.cells e.cells.toArray 32)) from ⟨below_new w _, heap_alloc_new w _⟩)
  have heq := fun x w => eql_edu e x w
  obtain ⟨k, r, u, v, t, p, o, s, z, c, m⟩ := e
  simp only [Edu.val] at *
  simp only [Edu.cells] at HT
  clear h
  go_enter Try.func33, Try.ntmps33
  go_upto_region 1 with (fail)
  generalize World.alloc _ _ = W at HT ⊢
  generalize hg3 : w.heap.size = g3 at HT ⊢
  go_wp2_with fail
  go_loopw [8, 5] (fun i _ wr => ∃ a : Nat, i = .int .i64 (a : Int) ∧ a ≤ us.length ∧ Hid (OneE w g3 #[.int .i64 k, .string r, .string u, .string v, .string t, .bool p, .bool o, .int .i64 s, .int .i64 z, .int .i64 c, .int .i64 m] wr) ∧ Hid (∀ (j : Nat) y, j < a → us[j]? = some y → eqE ⟨k, r, u, v, t, p, o, s, z, c, m⟩ y = false)) (fun i _ _ => us.length - (intOf i).toNat)
  case atStart => exact ⟨0, rfl, Nat.zero_le _, by rw [← hg3] at HT ⊢; exact HT, Lib.hid (fun j y hj => by omega)⟩
  case round =>
    obtain ⟨a, rfl, ha, HA, HN⟩ := hrel
    clear HT
    by_cases hax : a < us.length
    · have q1 : decide ((a : Int) < (us.length : Int)) = true := decide_eq_true (by omega)
      have hx : us[a]? = some us[a] := List.getElem?_eq_getElem hax
      generalize us[a] = x at hx
      have HX := Lib.hid hx
      obtain ⟨bo, oo, rfl, hbo, hco⟩ := (HR.out.below HA.out.1).at hx
      have hiy := index_any (P := Try.prog) knE (by decide) (b := bo) (off := oo) (cap := cap) hax
      simp only [LE] at hiy hco
      obtain ⟨c0, c1, c2, c3, c4, c5, c6, c7, c8, c9, c10⟩ := range11 hco
      obtain ⟨d0, d1, d2, d3, d4, d5, d6, d7, d8, d9, d10⟩ := cells11 HA.out.2
      have heq := heq x
      have HSN : Hid (eqE ⟨k, r, u, v, t, p, o, s, z, c, m⟩ x = false → ∀ (j : Nat) y, j < a + 1 → us[j]? = some y → eqE ⟨k, r, u, v, t, p, o, s, z, c, m⟩ y = false) := Lib.hid (fun hf j y hj hy => by
        by_cases hja : j = a
        · subst hja
          rw [HX.out] at hy
          injection hy with hy
          rw [← hy]; exact hf
        · exact HN.out j y (by omega) hy)
      have HHA := Lib.hid (fun hq => HHit.out a x hx hq)
      clear hx hco
      generalize eqE ⟨k, r, u, v, t, p, o, s, z, c, m⟩ x = M at heq HSN HHA
      obtain ⟨y0, y1, y2, y3, y4, y5, y6, y7, y8, y9, y10⟩ := x
      simp only at c0 c1 c2 c3 c4 c5 c6 c7 c8 c9 c10 heq
      go_wp2_with fail
      go_quiet (fail)
      clear d0 d1 d2 d3 d4 d5 d6 d7 d8 d9 d10 c0 c1 c2 c3 c4 c5 c6 c7 c8 c9 c10 heq hiy
      cases M
      · have HN2 := Lib.hid (HSN.out rfl)
        clear HSN HHA
        go_wp2_with fail
        refine ⟨⟨a + 1, by go_num, by omega, Lib.hid (HA.out.drewN _), HN2⟩, ?_⟩
        simp [intOf]; omega
      · have HF := HHA.out rfl
        subst HF
        clear HSN HHA
        go_wp2_with fail
        go_ret
        exact ⟨⟨_, rfl, by first | omega | simp⟩, by rw [← hg3]; exact (HA.out.drewN _).1⟩
    · have q1 : decide ((a : Int) < (us.length : Int)) = false := decide_eq_false (by omega)
      have HF := HMiss.out (fun j y hj hy => by rw [eqE_comm]; exact HN.out j y (by omega) hy)
      subst HF
      clear heq
      go_wp2_with fail
      go_ret
      exact ⟨⟨_, rfl, by first | omega | simp⟩, by rw [← hg3]; exact HA.out.1⟩

set_option maxHeartbeats 800000 in
theorem containsE_any (v : Value) (us : List Edu) (e : Edu) (w : World) (h : LE.Slice w v us) :
    Calls Try.prog 26 #[v, e.val] w fun x w' => x = .returned (.bool (hasP us e)) ∧ Below w.heap.size w w' := by
  have HB := Lib.hid (below_new w (.cells e.cells.toArray 32))
  have HI := Lib.hid (fun W (hb : Below w.heap.size w W) => indexE_any v us e W (h.below hb))
  have HT := Lib.hid (heap_alloc_new w (.cells e.cells.toArray 32))
  obtain ⟨A, cap, rfl, -⟩ := h
  generalize hasP us e = R at *
  obtain ⟨k, r, u, v, t, p, o, s, z, c, m⟩ := e
  simp only [Edu.val, Edu.cells] at *
  obtain ⟨d0, d1, d2, d3, d4, d5, d6, d7, d8, d9, d10⟩ := cells11 HT.out
  go_enter Try.func26, Try.ntmps26
  go_wp2_with fail
  go_at_call 33
  refine (HI.out _ HB.out).mono ?_
  rintro e w1 ⟨⟨n, rfl, hn⟩, hb⟩
  have HBB := Lib.hid (HB.out.trans (hb.mono HB.out.size))
  clear hb HB HI HT d0 d1 d2 d3 d4 d5 d6 d7 d8 d9 d10
  go_wp2_with fail
  go_ret
  exact ⟨rfl, HBB.out⟩

/-! ### Delete of the first one -/
/-- A slice is cleared, of elements of several cells. -/
theorem run_clear_many {P : Program} (w : World) (t e ty : TypeId) (z : Value) (ht : P.underlying t = some (.slice e)) (hv : ∀ w, (zeroValue e).run P w = .ok z w) (vs : List Value) (b o n c : Nat) (hzc : (Builtin.zeroCells z.cells n).toList = vs) (h1 : ∀ v ∈ vs, v.oneCell' = true) (hn : 0 < n)
    (hc : ∀ j, j < vs.length → (w.cell? ⟨b, o + j, none⟩).isSome = true) (hf : ∀ j, j < vs.length → w.frozen? ⟨b, o + j, none⟩ = false) :
    (Builtin.clear_ #[t] ty #[.slice (some ⟨b, o, none⟩) n c]).run P w = .ok (.tuple #[]) (w.setCells b o vs) := by
  have hst := run_storeCells_cells (P := P) b o vs 0 w (by simpa using hc) (by simpa using hf) h1
  simp only [Nat.add_zero] at hst
  obtain ⟨m, rfl⟩ : ∃ m, n = m + 1 := ⟨n - 1, by omega⟩
  simp [Builtin.clear_, run_underlying ht, hv, hzc, hst]
/-- What lies behind a row's end may be written. -/
theorem Lies.Mine.beyond {α : Type} {L : Lies α} {w : World} {B b off n cap : Nat} {xs : List α} (h : L.Mine w B (.slice (some ⟨b, off, none⟩) n cap) xs) (vs : List Value) (o : Nat) (ho : off + xs.length * L.c ≤ o) (hfit : o + vs.length ≤ off + cap * L.c) : L.Mine (w.setCells b o vs) B (.slice (some ⟨b, off, none⟩) n cap) xs ∧ ∀ j, j < vs.length → (w.cell? ⟨b, o + j, none⟩).isSome = true ∧ w.frozen? ⟨b, o + j, none⟩ = false := by
  rcases h with ⟨hv, _⟩ | ⟨g, off', cap', cur, hv, hg, hh, h1, h2, h3, h4⟩
  · cases hv
  · injection hv with e1 e2 e3
    injection e1 with e1
    injection e1 with e4 e5 _
    subst e4 e5 e3
    obtain ⟨cur', r1, r2, r3⟩ := sm_at b L.e vs o w cur hh (by omega)
    refine ⟨.inr ⟨b, off, cap, cur', by rw [e2], hg, r1, h1, h2, by omega, ?_⟩, fun j hj => ?_⟩
    · have hsz : cur.toList.length = cur.size := Array.length_toList
      rw [← h4, r3, List.append_assoc, List.drop_append_of_le_length (by rw [List.length_take, hsz]; omega), List.drop_take, List.take_append_of_le_length (by rw [List.length_take, List.length_drop, hsz]; omega), List.take_take, Nat.min_eq_left (by omega)]
    · exact ⟨by rw [cell_of_row w b _ cur _ _ hh, Array.getElem?_eq_getElem (by omega)]; rfl, by simp [World.frozen?, hh]⟩
/-- append, where there is room: it lies where it lay. -/
theorem Lies.Mine.putIn {α : Type} {P : Program} {L : Lies α} {t : TypeId} {zv : Value} {bt : Nat} {w : World} {B g off m cap : Nat} {xs ys : List α} (K : Kn P L t zv bt) (ty tx : TypeId) (h : L.Mine w B (.slice (some ⟨g, off, none⟩) m cap) xs) (x : Value) (n : Nat) (hn : ys.length = n) (hs : Src P L.c tx x n (L.vs ys) w) (hroom : xs.length + n ≤ cap) :
    ∃ w', (Builtin.append_ #[t, tx] ty #[.slice (some ⟨g, off, none⟩) m cap, x]).run P w = .ok (.slice (some ⟨g, off, none⟩) (xs.length + n) cap) w' ∧ L.Mine w' B (.slice (some ⟨g, off, none⟩) (xs.length + n) cap) (xs ++ ys) ∧ w.grownBy w' (some g) := by
  obtain ⟨i0, hi0, hz0, hz1, hz2⟩ := info_parts K.info
  have hs' : Src P i0.size tx x n (L.vs ys) w := by rw [hz1]; exact hs
  have hml : (xs ++ ys).length = xs.length + n := by simp [hn]
  rcases h with ⟨hv, _⟩ | ⟨g', off', cap', cur, hv, hg, hh, h1, h2, h3, h4⟩
  · cases hv
  · injection hv with e1 e2 e3
    injection e1 with e1
    injection e1 with e4 e5 _
    subst e4 e5 e3 e2
    have hle : off + xs.length * L.c + (L.vs ys).length ≤ cur.size := by
      rw [L.vs_len, hn, Nat.add_assoc, ← Nat.add_mul]
      exact Nat.le_trans (Nat.add_le_add_left (Nat.mul_le_mul_right _ hroom) _) h3
    have hr := run_append_room_src (P := P) w t tx ty L.e i0 K.ht hi0 g off xs.length cap x n (L.vs ys) hs' hroom
      (fun j hj => by
        rw [hz1, cell_of_row w g _ cur L.e (0, 0) hh, Array.getElem?_eq_getElem (by omega)]
        rfl)
      (fun j hj => by simp [World.frozen?, hh])
    rw [hz1] at hr
    obtain ⟨cur', r1, r2, r3⟩ := sm_at g L.e (L.vs ys) (off + xs.length * L.c) w cur hh hle
    refine ⟨_, hr, .inr ⟨g, off, cap, cur', by rw [hml], hg, r1, by omega, h2, by omega, ?_⟩, sm_grown _ _ _ _⟩
    have hsz : cur.toList.length = cur.size := Array.length_toList
    have hlo : off ≤ (cur.toList.take (off + xs.length * L.c)).length := by rw [List.length_take, hsz]; omega
    rw [hml, L.vs_app, r3, List.append_assoc, List.drop_append_of_le_length hlo, List.drop_take, show off + xs.length * L.c - off = xs.length * L.c by omega, h4, ← List.append_assoc,
      show (xs.length + n) * L.c = (L.vs xs ++ L.vs ys).length by rw [List.length_append, L.vs_len, L.vs_len, hn, Nat.add_mul]]
    exact List.take_left
theorem slice_three {α : Type} {P : Program} {L : Lies α} {t : TypeId} {zv : Value} {bt : Nat} (N : Kn P L t zv bt) (A : Option Addr) (n cap l k m : Nat) (hl : l ≤ k) (hk : k ≤ m) (hm : m ≤ cap) (w : World) : (Instr.sliceAt t (.slice A n cap) (some (.int .i64 (l : Int))) (some (.int .i64 (k : Int))) (some (.int .i64 (m : Int)))).run P w = .ok (sliced A l k m L.c) w := by
  obtain ⟨i0, hi0, hz0, hz1, hz2⟩ := info_parts N.info
  have he : P.elem t = L.e := by simp [Program.elem, N.ht]
  have ht : P.underlying t = some (.slice (P.elem t)) := by rw [he]; exact N.ht
  rw [run_sliceAt_slice w t _ _ _ _ ht, run_slice_lhm w t A n cap ht .i64 .i64 .i64 (l : Int) (k : Int) (m : Int) (by omega) (by omega) (by omega) (by omega), he]
  simp [sizeOf, typeInfo, hi0, hz1]
theorem zeroCells_mem {cs : Array Value} {n : Nat} {v : Value} (h : v ∈ (Builtin.zeroCells cs n).toList) : v ∈ cs.toList := by
  unfold Builtin.zeroCells at h
  rw [Array.toList_map, List.mem_map] at h
  obtain ⟨i, hi, rfl⟩ := h
  have hp : 0 < cs.size := by
    have := Array.mem_range.1 (Array.mem_toList_iff.1 hi)
    rcases Nat.eq_zero_or_pos cs.size with h0 | h0
    · rw [h0] at this; omega
    · exact h0
  have hlt := Nat.mod_lt i hp
  rw [getElem!_pos cs _ hlt]
  exact Array.getElem_mem_toList hlt
theorem zeroIsE (w : World) : (zeroValue 32).run Try.prog w = .ok zeroE.val w := by kernel_rfl

theorem grown_trans {w a c : World} {b : Nat} (h : w.grownBy a (some b)) (k : a.grownBy c (some b)) : w.grownBy c (some b) :=
  ⟨k.os.trans h.os, k.tape.trans h.tape, k.output.trans h.output, Nat.le_trans h.size k.size, fun i hi hne => (k.block i (Nat.lt_of_lt_of_le hi h.size) hne).trans (h.block i hi hne)⟩
theorem grown_drew (w : World) (r : Option Nat) : w.grownBy w.drew r := ⟨rfl, rfl, rfl, Nat.le_refl _, fun _ _ _ => rfl⟩
/-- append, as an operation whose run is known. -/
theorem wp_append {P : Program} {o : Oper} {a : Act} {w w' : World} {K : Act → World → Prop} {Q : Exit → Act → World → Prop} {t tx : TypeId} {v xv u : Value} (s x : Operand)
    (ho : o.op = .call { callee := .builtin .append, args := #[s, x], argTypes := #[t, tx] }) (hv : a.eval s = v) (hx : a.eval x = xv) (hr : (Builtin.append_ #[t, tx] o.type #[v, xv]).run P w = .ok u w') (hK : K (a.put o.dst u) w') : o.wp P a w K Q := by
  unfold Oper.wp execOp
  simp only [ho, resolve, invoke, builtin, Sem.run_bind, Sem.run_pure, Result.andThen_ok, List.map_toArray, List.map_cons, List.map_nil, hv, hx, hr]
  exact hK

set_option maxHeartbeats 1600000 in
theorem deleteE_any (B b off cap : Nat) (us : List Edu) (w : World) (h : LE.Mine w B (.slice (some ⟨b, off, none⟩) us.length cap) us) (h0 : 0 < us.length) :
    Calls Try.prog 28 #[.slice (some ⟨b, off, none⟩) us.length cap, .int .i64 0, .int .i64 1] w fun x w' => x = .returned (.slice (some ⟨b, off, none⟩) (us.drop 1).length cap) ∧ LE.Mine w' B (.slice (some ⟨b, off, none⟩) (us.drop 1).length cap) (us.drop 1) ∧ w.grownBy w' (some b) := by
  obtain ⟨A, c, e1, h1, h2, -⟩ := h.shape
  injection e1 with e1 e2 e3
  subst e3
  unfold maxLen at h2
  have hl1 : (us.drop 1).length = us.length - 1 := by rw [List.length_drop]
  have hs3 : ∀ w, (Instr.sliceAt 22 (.slice (some ⟨b, off, none⟩) us.length cap) (some (.int .i64 0)) (some (.int .i64 1)) (some (.int .i64 (us.length : Int)))).run Try.prog w = .ok (sliced (some ⟨b, off, none⟩) 0 1 us.length LE.c) w := fun w => slice_three (P := Try.prog) knE (some ⟨b, off, none⟩) us.length cap 0 1 us.length (by omega) (by omega) h1 w
  have hsh : ∀ w, (Instr.sliceAt 22 (.slice (some ⟨b, off, none⟩) us.length cap) none (some (.int .i64 0)) none).run Try.prog w = .ok (sliced (some ⟨b, off, none⟩) 0 0 cap LE.c) w := fun w => slice_high (P := Try.prog) knE (some ⟨b, off, none⟩) us.length cap 0 (by omega) w
  have hsl : ∀ w, (Instr.sliceAt 22 (.slice (some ⟨b, off, none⟩) us.length cap) (some (.int .i64 1)) none none).run Try.prog w = .ok (sliced (some ⟨b, off, none⟩) 1 us.length cap LE.c) w := fun w => slice_low (P := Try.prog) knE (some ⟨b, off, none⟩) us.length cap 1 (by omega) w
  have hsb := fun w => slice_both (P := Try.prog) knE (some ⟨b, off, none⟩) (us.length - 1) cap (us.length - 1) us.length (by omega) h1 w
  have e4 : sliced (some ⟨b, off, none⟩) 0 0 cap LE.c = .slice (some ⟨b, off, none⟩) 0 cap := by
    unfold sliced
    rw [if_neg (by omega)]
    simp [Addr.add_lit]
  have e5 : sliced (some ⟨b, off, none⟩) (us.length - 1) us.length cap LE.c = .slice (some ⟨b, off + (us.length - 1) * 11, none⟩) 1 (cap - (us.length - 1)) := by
    unfold sliced
    rw [if_neg (by omega), show us.length - (us.length - 1) = 1 by omega]
    simp [Addr.add_lit, show LE.c = 11 from rfl]
  have e6 : ∃ A c, sliced (some ⟨b, off, none⟩) 1 us.length cap LE.c = .slice A (us.length - 1) c := ⟨_, _, rfl⟩
  obtain ⟨A1, c1, e6⟩ := e6
  have hm0 := h.sub 0 0 (by omega) (by omega)
  have hm1 := h.slice.sub 1 us.length (by omega) (Nat.le_refl _)
  rw [e4] at hm0 hsh
  rw [e6, List.take_length] at hm1
  rw [e6] at hsl
  rw [e5] at hsb
  rw [show (us.take 0).drop 0 = [] by simp] at hm0
  have HP : Hid (∀ (W : World) (ty : TypeId), Below w.heap.size w W → ∃ w', (Builtin.append_ #[22, 22] ty #[.slice (some ⟨b, off, none⟩) 0 cap, .slice A1 (us.length - 1) c1]).run Try.prog W = .ok (.slice (some ⟨b, off, none⟩) (us.length - 1) cap) w' ∧ LE.Mine w' B (.slice (some ⟨b, off, none⟩) (us.length - 1) cap) (us.drop 1) ∧ W.grownBy w' (some b)) := Lib.hid (fun W ty (hg : Below w.heap.size w W) => by
    have := (hm0.below hg).putIn knE ty 22 (ys := us.drop 1) _ (us.length - 1) hl1 ((hm1.below hg).srcN knE hl1) (by simp; omega)
    simp only [List.length_nil, Nat.zero_add, List.nil_append] at this
    exact this)
  have HO := Lib.hid h1
  clear hm0 hm1 e4 e5 e6 e1 e2 h
  generalize hv3 : sliced (some ⟨b, off, none⟩) 0 1 us.length LE.c = v3 at hs3
  go_enter Try.func28, Try.ntmps28
  go_upto_region 5 with (fail)
  clear hs3 hv3
  refine wp_region_held_drew (S := fun W => w.grownBy W (some b)) (by kernel_rfl) (grown_drew w _) (fun hHeld => ?_)
  have HB := Lib.hid (below_drew w)
  generalize w.drew = wd at HB hHeld ⊢
  refine wpAnyH_take (i := 0) (oi := ⟨some 20, _, _, _, _, _⟩) (v := ?vd0) rfl (by kernel_rfl) (by kernel_rfl) (by kernel_rfl) (fun _ _ _ h => h) (Or.inl ⟨by rfl, ?yd0⟩) hHeld ?rd0
  case yd0 =>
    intro wx hSx
    go_simp
    try with_reducible rfl
  try simp only [Act.put, List.setIfInBounds_toArray, List.set_cons_zero, List.set_cons_succ]
  refine wpAnyH_take (i := 1) (oi := ⟨some 21, _, _, _, _, _⟩) (v := ?vd1) rfl (by kernel_rfl) (by kernel_rfl) (by kernel_rfl) (fun _ _ _ h => h) (Or.inl ⟨by rfl, ?yd1⟩) hHeld ?rd1
  case yd1 =>
    intro wx hSx
    go_simp
    try with_reducible rfl
  try simp only [Act.put, List.setIfInBounds_toArray, List.set_cons_zero, List.set_cons_succ]
  refine wpAnyH_take (i := 2) (oi := ⟨some 22, _, _, _, _, _⟩) (v := ?vd2) rfl (by kernel_rfl) (by kernel_rfl) (by kernel_rfl) (fun _ _ _ h => h) (Or.inl ⟨by rfl, ?yd2⟩) hHeld ?rd2
  case yd2 =>
    intro wx hSx
    go_simp
    try with_reducible rfl
  try simp only [Act.put, List.setIfInBounds_toArray, List.set_cons_zero, List.set_cons_succ]
  refine wpAnyH_take (i := 3) (oi := ⟨some 23, _, _, _, _, _⟩) (v := ?vd3) rfl (by kernel_rfl) (by kernel_rfl) (by kernel_rfl) (fun _ _ _ h => h) (Or.inl ⟨by rfl, ?yd3⟩) hHeld ?rd3
  case yd3 =>
    intro wx hSx
    go_simp
    try with_reducible rfl
  try simp only [Act.put, List.setIfInBounds_toArray, List.set_cons_zero, List.set_cons_succ]
  refine wpAnyH_take (i := 4) (oi := ⟨some 24, _, _, _, _, _⟩) (v := ?vd4) rfl (by kernel_rfl) (by kernel_rfl) (by kernel_rfl) (fun _ _ _ h => h) (Or.inl ⟨by rfl, ?yd4⟩) hHeld ?rd4
  case yd4 =>
    intro wx hSx
    go_simp
    try with_reducible rfl
  try simp only [Act.put, List.setIfInBounds_toArray, List.set_cons_zero, List.set_cons_succ]
  refine wpAnyH_take (i := 5) (oi := ⟨some 25, _, _, _, _, _⟩) (v := ?vd5) rfl (by kernel_rfl) (by kernel_rfl) (by kernel_rfl) (fun _ _ _ h => h) (Or.inl ⟨by rfl, ?yd5⟩) hHeld ?rd5
  case yd5 =>
    intro wx hSx
    go_simp
    try with_reducible rfl
  try simp only [Act.put, List.setIfInBounds_toArray, List.set_cons_zero, List.set_cons_succ]
  refine wpAnyH_ready (rs := [6]) (by kernel_rfl) (by simp) ?_
  refine AllReadyH.cons (o := ⟨some 26, _, _, _, _, _⟩) rfl (fun K hK => ?_) AllReadyH.nil
  obtain ⟨w6, hr6, hm6, hg6⟩ := HP.out wd 22 HB.out
  rw [if_pos (by rfl)]
  refine wp_append (.tmp 22) (.tmp 25) rfl rfl rfl hr6 ?_
  have hH := grown_trans hHeld hg6
  have HM6 := Lib.hid hm6
  refine hK.out _ _ hH (fun hHeld => ?_)
  clear hK K hH hr6 hm6 hg6
  try simp only [Act.put, List.setIfInBounds_toArray, List.set_cons_zero, List.set_cons_succ]
  refine wpAnyH_take (i := 7) (oi := ⟨some 0, _, _, _, _, _⟩) (v := ?vd7) rfl (by kernel_rfl) (by kernel_rfl) (by kernel_rfl) (fun _ _ _ h => h) (Or.inl ⟨by rfl, ?yd7⟩) hHeld ?rd7
  case yd7 =>
    intro wx hSx
    go_simp
    try with_reducible rfl
  try simp only [Act.put, List.setIfInBounds_toArray, List.set_cons_zero, List.set_cons_succ]
  refine wpAnyH_done (by kernel_rfl) ?_ _
  have hM := HM6.out
  have hG := hHeld
  obtain ⟨vs, hvs⟩ : ∃ vs, (Builtin.zeroCells zeroE.val.cells 1).toList = vs := ⟨_, rfl⟩
  have hvl : vs.length = 11 := by rw [← hvs, Array.length_toList, size_zeroCells]; rfl
  have hcap : cap * LE.c = cap * 11 := rfl
  obtain ⟨hmb, hth⟩ := hM.beyond vs (off + (us.length - 1) * 11) (by rw [hl1, show LE.c = 11 from rfl]; exact Nat.le_refl _) (by rw [hvl, hcap]; omega)
  have hcl2 : ∀ ty, (Builtin.clear_ #[22] ty #[.slice (some ⟨b, off + (us.length - 1) * 11, none⟩) 1 (cap - (us.length - 1))]).run Try.prog w6 = .ok (.tuple #[]) (w6.setCells b (off + (us.length - 1) * 11) vs) := fun ty =>
    run_clear_many w6 _ 32 ty zeroE.val Try.underlying22 zeroIsE vs b (off + (us.length - 1) * 11) _ _ hvs (fun v hv => by
      rw [← hvs] at hv
      have := zeroCells_mem hv
      simp only [zeroE, Edu.val, Value.cells, List.mem_cons, List.not_mem_nil, or_false] at this
      rcases this with rfl | rfl | rfl | rfl | rfl | rfl | rfl | rfl | rfl | rfl | rfl <;> rfl) (by omega) (fun j hj => (hth j hj).1) (fun j hj => (hth j hj).2)
  have HM9 := Lib.hid hmb
  have HG9 := Lib.hid (grown_trans hG (sm_grown w6 b (off + (us.length - 1) * 11) vs))
  generalize w6.setCells b (off + (us.length - 1) * 11) vs = w9 at hcl2 HM9 HG9
  clear hM hG hth hmb hvl hcap hvs HM6 hHeld hsh hsl HP
  have HL := Lib.hid hl1
  clear hl1
  go_wp2_with fail
  go_ret
  exact ⟨by rw [HL.out]; rfl, by rw [HL.out]; exact HM9.out, HG9.out⟩
end Go.Proofs.Ytimlomflgnnmnaa
