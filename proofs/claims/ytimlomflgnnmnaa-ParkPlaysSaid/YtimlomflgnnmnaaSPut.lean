/-
  Memory of lists, in a program: append from whatever source, an element's address, its load, its store.
-/
import Derived.Test.YtimlomflgnnmnaaSMem
namespace Go.Proofs.Ytimlomflgnnmnaa
set_option maxRecDepth 20000
open Go.RowKit
set_option linter.unusedVariables false
set_option linter.unusedSimpArgs false

/-- What a program says of a slice type whose elements lie so: its zero value, its bytes. -/
structure Kn {α : Type} (P : Program) (L : Lies α) (t : TypeId) (zv : Value) (bt : Nat) : Prop where
  ht : P.underlying t = some (.slice L.e)
  info : (P.info? L.e).map (fun i => (i.zero, i.size, i.bytes)) = some (some zv, L.c, bt)
  zs : zv.cells.size = L.c
  bts : bt ≤ 100000

theorem sm_far (b k : Nat) (hk : k ≠ b) : ∀ (vs : List Value) (o : Nat) (w : World), (w.setCells b o vs).heap[k]? = w.heap[k]?
  | [], _, _ => rfl
  | v :: vs, o, w => (sm_far b k hk vs (o + 1) _).trans (Below.heap_setCell w _ v k hk)
theorem sm_size (b : Nat) : ∀ (vs : List Value) (o : Nat) (w : World), (w.setCells b o vs).heap.size = w.heap.size ∧ (w.setCells b o vs).os = w.os ∧ (w.setCells b o vs).tape = w.tape ∧ (w.setCells b o vs).output = w.output
  | [], _, _ => ⟨rfl, rfl, rfl, rfl⟩
  | v :: vs, o, w => by
    obtain ⟨h1, h2, h3, h4⟩ := sm_size b vs (o + 1) (w.setCell ⟨b, o, none⟩ v)
    exact ⟨h1.trans (by simp [World.setCell]), h2.trans rfl, h3.trans rfl, h4.trans rfl⟩
theorem sm_grown (w : World) (b o : Nat) (vs : List Value) : w.grownBy (w.setCells b o vs) (some b) := by
  obtain ⟨h1, h2, h3, h4⟩ := sm_size b vs o w
  exact ⟨h2, h3, h4, by omega, fun k hk hne => sm_far b k (fun e => hne (by rw [e])) vs o w⟩
/-- A row of cells, some of them written. -/
theorem sm_at (b : Nat) (ty : TypeId) : ∀ (vs : List Value) (o : Nat) (w : World) (cur : Array Value), w.heap[b]? = some (.cells cur ty (0, 0)) → o + vs.length ≤ cur.size →
    ∃ cur', (w.setCells b o vs).heap[b]? = some (.cells cur' ty (0, 0)) ∧ cur'.size = cur.size ∧ cur'.toList = cur.toList.take o ++ vs ++ cur.toList.drop (o + vs.length)
  | [], o, w, cur, h, hl => ⟨cur, h, rfl, by simp⟩
  | v :: vs, o, w, cur, h, hl => by
    have h1 : (w.setCell ⟨b, o, none⟩ v).heap[b]? = some (.cells (cur.setIfInBounds o v) ty (0, 0)) := by simp [World.setCell, Array.getElem?_modify, h]
    simp only [List.length_cons] at hl
    obtain ⟨cur', h2, h3, h4⟩ := sm_at b ty vs (o + 1) _ _ h1 (by simp; omega)
    refine ⟨cur', h2, h3.trans (by simp), h4.trans ?_⟩
    have hs : (cur.setIfInBounds o v).toList = cur.toList.set o v := by simp
    have ho : o < cur.toList.length := by rw [Array.length_toList]; omega
    rw [hs, List.take_add_one, List.getElem?_set_self ho, List.take_set_of_le (by omega), List.drop_set_of_lt (by omega)]
    simp only [Option.toList_some, List.append_assoc, List.singleton_append, List.length_cons]
    rw [show o + 1 + vs.length = o + (vs.length + 1) by omega]

section
variable {α : Type} {P : Program} {L : Lies α} {t : TypeId} {zv : Value} {bt : Nat} {w w' : World} {B : Nat} {v : Value} {xs ys : List α}

/-- A slice as what append is handed. -/
theorem Lies.Slice.src (K : Kn P L t zv bt) (h : L.Slice w v ys) : Src P L.c t v ys.length (L.vs ys) w := by
  obtain ⟨A, cap, rfl, h1, h2, h3, h4⟩ := h
  cases hy : ys with
  | nil =>
    subst hy
    cases A with
    | none => exact Src.ofNil (P := P) w K.ht cap
    | some a => exact Src.ofSlice (P := P) w K.ht a 0 cap [] (by simp) (fun j u hu => by simp at hu) (fun u hu => by cases hu)
  | cons y r =>
    obtain ⟨b, off, hA, hb, hr⟩ := h4 (by rw [hy]; simp)
    rw [← hy]
    subst hA
    exact Src.ofSlice (P := P) w K.ht ⟨b, off, none⟩ ys.length cap (L.vs ys) (L.vs_len ys) (fun j u hu => by rw [Addr.add_lit]; exact hr j u hu) (L.vs_one ys)
theorem Lies.Slice.srcN (K : Kn P L t zv bt) (h : L.Slice w v ys) {n : Nat} (hn : ys.length = n) : Src P L.c t v n (L.vs ys) w := by
  subst hn
  exact h.src K
theorem Lies.Slice.first (h : L.Slice w v xs) : (Builtin.firstCells L.c xs.length v).run P w = .ok (L.vs xs).toArray w := by
  obtain ⟨A, cap, rfl, h1, h2, h3, h4⟩ := h
  cases hy : xs with
  | nil =>
    subst hy
    cases A with
    | none => exact run_firstCells_none w L.c 0 0 cap
    | some a => exact run_firstCells_some w L.c 0 a 0 cap [] (by simp) (fun j u hu => by simp at hu)
  | cons y r =>
    obtain ⟨b, off, hA, hb, hr⟩ := h4 (by rw [hy]; simp)
    rw [← hy]
    subst hA
    exact run_firstCells_some w L.c _ ⟨b, off, none⟩ _ cap (L.vs xs) (L.vs_len xs) fun j u hu => by rw [Addr.add_lit]; exact hr j u hu

/-- append, of whatever source: what comes is one's own; of what was, only one's own row may have turned; it lies there, or in new memory. -/
theorem Lies.Mine.put (K : Kn P L t zv bt) (ty tx : TypeId) (h : L.Mine w B v xs) (hB : B ≤ w.heap.size) (x : Value) (n : Nat) (hn : ys.length = n) (hs : Src P L.c tx x n (L.vs ys) w) (hm : xs.length + n ≤ 1000000) :
    ∃ A cap w', (Builtin.append_ #[t, tx] ty #[v, x]).run P w = .ok (.slice A (xs.length + n) cap) w' ∧ L.Mine w' B (.slice A (xs.length + n) cap) (xs ++ ys) ∧ w.grownBy w' v.ownBlock ∧ (∀ k, (Value.slice A (xs.length + n) cap).ownBlock = some k → v.ownBlock = some k ∨ w.heap.size ≤ k) := by
  obtain ⟨i0, hi0, hz0, hz1, hz2⟩ := info_parts K.info
  have hs' : Src P i0.size tx x n (L.vs ys) w := by rw [hz1]; exact hs
  have hml : (xs ++ ys).length = xs.length + n := by simp [hn]
  have grow : ∀ (A : Option Addr) (c : Nat), v = .slice A xs.length c → c < xs.length + n →
      ∃ A cap w', (Builtin.append_ #[t, tx] ty #[v, x]).run P w = .ok (.slice A (xs.length + n) cap) w' ∧ L.Mine w' B (.slice A (xs.length + n) cap) (xs ++ ys) ∧ w.grownBy w' v.ownBlock ∧ (∀ k, (Value.slice A (xs.length + n) cap).ownBlock = some k → v.ownBlock = some k ∨ w.heap.size ≤ k) := by
    intro A c hv hc
    have hf : (Builtin.firstCells i0.size xs.length v).run P w.drew = .ok (L.vs xs).toArray w.drew := by
      rw [hz1]
      exact Lies.Slice.first (show L.Slice w.drew v xs from h.slice)
    rw [hv] at hf
    have hr := run_append_grow_src (P := P) w t tx ty L.e i0 zv K.ht hi0 hz0 A xs.length c (L.vs xs) hf x n (L.vs ys) hs' hc (by omega) (by rw [hz2]; exact growslice_fits hc (Nat.le_trans (Nat.mul_le_mul hm K.bts) (by decide)))
    have hge := grownCap_ge w (xs.length + n) c L.e
    have hcm : grownCap w (xs.length + n) c L.e ≤ maxLen := grownCap_le_maxLen w (xs.length + n) c L.e (by unfold maxLen; omega)
    refine ⟨_, _, _, by rw [hv]; exact hr, .inr ⟨w.heap.size, 0, _, _, by rw [hml], hB, heap_alloc_new w.drew _, by rw [hml]; exact hge, hcm, ?_, ?_⟩, ⟨rfl, rfl, rfl, by simp, fun k hk _ => (heap_alloc_old w.drew _ hk : _)⟩, fun k hk => .inr ?_⟩
    · simp only [Array.size_append, List.size_toArray, size_zeroCells, List.length_append, L.vs_len, K.zs, hn, Nat.zero_add]
      rw [← Nat.add_mul, ← Nat.add_mul, show xs.length + n + (grownCap w (xs.length + n) c L.e - (xs.length + n)) = grownCap w (xs.length + n) c L.e by omega]
      exact Nat.le_refl _
    · rw [hml, L.vs_app, List.drop_zero]
      simp only [Array.toList_append]
      rw [show (xs.length + n) * L.c = (L.vs xs ++ L.vs ys).length by rw [List.length_append, L.vs_len, L.vs_len, hn, Nat.add_mul]]
      exact List.take_left
    · simp only [Value.ownBlock, Option.some.injEq] at hk
      omega
  rcases h with ⟨rfl, rfl⟩ | ⟨g, off, cap, cur, rfl, hg, hh, h1, h2, h3, h4⟩
  · by_cases h0 : n = 0
    · subst h0
      refine ⟨none, 0, w, ?_, .inl ⟨rfl, by simpa using hn⟩, ⟨rfl, rfl, rfl, Nat.le_refl _, fun _ _ _ => rfl⟩, fun k hk => by cases hk⟩
      rcases hs'.kind with ⟨e', hk⟩ | hk <;> simp [Builtin.append_, run_underlying K.ht, run_underlying hk, sizeOf, typeInfo, hi0, hs'.len, hs'.cells]
    · exact grow none 0 rfl (by simp; omega)
  · by_cases hroom : xs.length + n ≤ cap
    · have hle : off + xs.length * L.c + (L.vs ys).length ≤ cur.size := by
        rw [L.vs_len, hn, Nat.add_assoc, ← Nat.add_mul]
        exact Nat.le_trans (Nat.add_le_add_left (Nat.mul_le_mul_right _ hroom) _) h3
      have hr := run_append_room_src (P := P) w t tx ty L.e i0 K.ht hi0 g off xs.length cap x n (L.vs ys) hs' hroom
        (fun j hj => by
          rw [hz1, cell_of_row w g _ cur L.e (0, 0) hh, Array.getElem?_eq_getElem (by omega)]
          rfl)
        (fun j hj => by simp [World.frozen?, hh])
      rw [hz1] at hr
      obtain ⟨cur', r1, r2, r3⟩ := sm_at g L.e (L.vs ys) (off + xs.length * L.c) w cur hh hle
      refine ⟨_, cap, _, hr, .inr ⟨g, off, cap, cur', by rw [hml], hg, r1, by omega, h2, by omega, ?_⟩, sm_grown _ _ _ _, fun k hk => .inl hk⟩
      have hsz : cur.toList.length = cur.size := Array.length_toList
      have hlo : off ≤ (cur.toList.take (off + xs.length * L.c)).length := by rw [List.length_take, hsz]; omega
      rw [hml, L.vs_app, r3, List.append_assoc, List.drop_append_of_le_length hlo, List.drop_take, show off + xs.length * L.c - off = xs.length * L.c by omega, h4, ← List.append_assoc,
        show (xs.length + n) * L.c = (L.vs xs ++ L.vs ys).length by rw [List.length_append, L.vs_len, L.vs_len, hn, Nat.add_mul]]
      exact List.take_left
    · exact grow _ _ rfl (by omega)
/-- The same, for a walk. -/
theorem wp_puts {o : Oper} {a : Act} {K : Act → World → Prop} {Q : Exit → Act → World → Prop} (N : Kn P L t zv bt) (s x : Operand) (tx : TypeId)
    (ho : o.op = .call { callee := .builtin .append, args := #[s, x], argTypes := #[t, tx] }) (hv : a.eval s = v) (h : L.Mine w B v xs) (hB : B ≤ w.heap.size)
    (xv : Value) (ys : List α) (n : Nat) (hn : ys.length = n) (hx : a.eval x = xv) (hs : Src P L.c tx xv n (L.vs ys) w) (hm : xs.length + n ≤ 1000000)
    (hK : ∀ A cap w', L.Mine w' B (.slice A (xs.length + n) cap) (xs ++ ys) → w.grownBy w' v.ownBlock → (∀ k, (Value.slice A (xs.length + n) cap).ownBlock = some k → v.ownBlock = some k ∨ w.heap.size ≤ k) → K (a.put o.dst (.slice A (xs.length + n) cap)) w') : o.wp P a w K Q := by
  obtain ⟨A, cap, w', hr, h1, h2, h3⟩ := h.put N o.type tx hB xv n hn hs hm
  unfold Oper.wp execOp
  simp only [ho, resolve, invoke, builtin, Sem.run_bind, Sem.run_pure, Result.andThen_ok, List.map_toArray, List.map_cons, List.map_nil, hv, hx, hr]
  exact hK A cap w' h1 h2 h3
theorem wpList_puts {ops : Array Oper} {rest : List Oper} {o : Oper} {a : Act} {Q : Exit → Act → World → Prop} (hgd : o.guard = none) (N : Kn P L t zv bt) (s x : Operand) (tx : TypeId)
    (ho : o.op = .call { callee := .builtin .append, args := #[s, x], argTypes := #[t, tx] }) (hv : a.eval s = v) (h : L.Mine w B v xs) (hB : B ≤ w.heap.size)
    (xv : Value) (ys : List α) (n : Nat) (hn : ys.length = n) (hx : a.eval x = xv) (hs : Src P L.c tx xv n (L.vs ys) w) (hm : xs.length + n ≤ 1000000)
    (hK : ∀ A cap w', L.Mine w' B (.slice A (xs.length + n) cap) (xs ++ ys) → w.grownBy w' v.ownBlock → (∀ k, (Value.slice A (xs.length + n) cap).ownBlock = some k → v.ownBlock = some k ∨ w.heap.size ≤ k) → wpList P ops Q rest (a.put o.dst (.slice A (xs.length + n) cap)) w') : wpList P ops Q (o :: rest) a w :=
  wpList_plain hgd fun _ hK' => wp_puts N s x tx ho hv h hB xv ys n hn hx hs hm (fun A cap w' h1 h2 h3 => hK' _ _ (hK A cap w' h1 h2 h3))

/-- The same, told short: what comes is one's own from block B on, and below it nothing has turned. -/
theorem wp_putsB {o : Oper} {a : Act} {K : Act → World → Prop} {Q : Exit → Act → World → Prop} (N : Kn P L t zv bt) (s x : Operand) (tx : TypeId)
    (ho : o.op = .call { callee := .builtin .append, args := #[s, x], argTypes := #[t, tx] }) (v : Value) (hv : a.eval s = v) (xs : List α) (h : L.Mine w B v xs) (hB : B ≤ w.heap.size)
    (xv : Value) (ys : List α) (n : Nat) (hn : ys.length = n) (hx : a.eval x = xv) (hs : Src P L.c tx xv n (L.vs ys) w) (m : Nat) (hmm : xs.length + n = m) (hm : m ≤ 1000000) (zs : List α) (hz : xs ++ ys = zs)
    (hK : ∀ A cap w', L.Mine w' B (.slice A m cap) zs → Below B w w' → K (a.put o.dst (.slice A m cap)) w') : o.wp P a w K Q := by
  subst hmm hz
  exact wp_puts N s x tx ho hv h hB xv ys n hn hx hs hm (fun A cap w' h1 h2 h3 => hK A cap w' h1 ((Below.refl B w).grown h2 hB (fun k hk => (h.lt k hk).1)))
theorem wpList_putsB {ops : Array Oper} {rest : List Oper} {o : Oper} {a : Act} {Q : Exit → Act → World → Prop} (hgd : o.guard = none) (N : Kn P L t zv bt) (s x : Operand) (tx : TypeId)
    (ho : o.op = .call { callee := .builtin .append, args := #[s, x], argTypes := #[t, tx] }) (v : Value) (hv : a.eval s = v) (xs : List α) (h : L.Mine w B v xs) (hB : B ≤ w.heap.size)
    (xv : Value) (ys : List α) (n : Nat) (hn : ys.length = n) (hx : a.eval x = xv) (hs : Src P L.c tx xv n (L.vs ys) w) (m : Nat) (hmm : xs.length + n = m) (hm : m ≤ 1000000) (zs : List α) (hz : xs ++ ys = zs)
    (hK : ∀ A cap w', L.Mine w' B (.slice A m cap) zs → Below B w w' → wpList P ops Q rest (a.put o.dst (.slice A m cap)) w') : wpList P ops Q (o :: rest) a w :=
  wpList_plain hgd fun _ hK' => wp_putsB N s x tx ho v hv xs h hB xv ys n hn hx hs m hmm hm zs hz (fun A cap w' h1 h2 => hK' _ _ (hK A cap w' h1 h2))

/-- An element's address. -/
theorem index_any (N : Kn P L t zv bt) (hc : L.c ≠ 0) {b off len cap i : Nat} (hi : i < len) (w : World) : (Instr.indexAt t (.slice (some ⟨b, off, none⟩) len cap) (.int .i64 (i : Int))).run P w = .ok (.pointer (some ⟨b, off + i * L.c, none⟩)) w := by
  obtain ⟨i0, hi0, hz0, hz1, hz2⟩ := info_parts N.info
  have h1 : (0 : Int) ≤ (i : Int) ∧ (i : Int) < (len : Int) := by omega
  simp [Instr.indexAt, asIntOf, run_underlying N.ht, sizeOf, typeInfo, hi0, hz1, h1, Addr.add_lit]
  intro h
  omega
/-- A whole element, loaded; stored. -/
theorem load_any (N : Kn P L t zv bt) {d : TypeDesc} (hu : P.underlying L.e = some d) (hd : d.isRow = true) {b o : Nat} {x : α} (h : w.rangeAt b o (L.cl x)) : (Instr.loadAt L.e (.pointer (some ⟨b, o, none⟩))).run P w = .ok (.agg (L.cl x).toArray) w :=
  run_loadAt_mid w b o L.e (L.cl x) d h hu hd (by
    obtain ⟨i0, hi0, hz0, hz1, hz2⟩ := info_parts N.info
    rw [hi0, L.len]; simp [hz1])
theorem size_any (N : Kn P L t zv bt) (x : α) : (P.info? L.e).map (·.size) = some (L.cl x).toArray.size := by
  obtain ⟨i0, hi0, hz0, hz1, hz2⟩ := info_parts N.info
  rw [hi0, List.size_toArray, L.len]; simp [hz1]
/-- An element of one's own row may be written. -/
theorem Lies.Mine.there {g off cap n : Nat} (h : L.Mine w B (.slice (some ⟨g, off, none⟩) n cap) xs) {i : Nat} (hi : i < xs.length) : w.there g (off + i * L.c) L.c := by
  rcases h with ⟨hv, _⟩ | ⟨g', off', cap', cur, hv, hg, hh, h1, h2, h3, h4⟩
  · cases hv
  · injection hv with e1 e2 e3
    injection e1 with e1
    injection e1 with e4 e5 _
    subst e4 e5 e3
    intro j hj
    have : off + i * L.c + j < cur.size := by
      have : (i + 1) * L.c ≤ cap * L.c := Nat.mul_le_mul_right _ (by omega)
      rw [Nat.succ_mul] at this
      omega
    exact ⟨by rw [cell_of_row w g _ cur _ _ hh, Array.getElem?_eq_getElem this]; rfl, by simp [World.frozen?, hh]⟩
theorem Lies.vs_set (L : Lies α) (xs : List α) (i : Nat) (x : α) (hi : i < xs.length) : L.vs (xs.set i x) = (L.vs xs).take (i * L.c) ++ L.cl x ++ (L.vs xs).drop ((i + 1) * L.c) := by
  rw [L.vs_take, L.vs_drop, ← L.vs_sing x, ← L.vs_app, ← L.vs_app, List.set_eq_take_append_cons_drop, if_pos hi]
  simp
/-- .. and is then another one. -/
theorem Lies.Mine.set {g off cap n : Nat} (h : L.Mine w B (.slice (some ⟨g, off, none⟩) n cap) xs) {i : Nat} (hi : i < xs.length) (x : α) : L.Mine (w.setCells g (off + i * L.c) (L.cl x)) B (.slice (some ⟨g, off, none⟩) n cap) (xs.set i x) := by
  rcases h with ⟨hv, _⟩ | ⟨g', off', cap', cur, hv, hg, hh, h1, h2, h3, h4⟩
  · cases hv
  · injection hv with e1 e2 e3
    injection e1 with e1
    injection e1 with e4 e5 _
    subst e4 e5 e3
    have hle : (i + 1) * L.c ≤ xs.length * L.c := Nat.mul_le_mul_right _ (by omega)
    have hle2 : xs.length * L.c ≤ cap * L.c := Nat.mul_le_mul_right _ h1
    rw [Nat.succ_mul] at hle
    obtain ⟨cur', r1, r2, r3⟩ := sm_at g L.e (L.cl x) (off + i * L.c) w cur hh (by rw [L.len]; omega)
    refine .inr ⟨g, off, cap, cur', by rw [e2, List.length_set], hg, r1, by rw [List.length_set]; exact h1, h2, by omega, ?_⟩
    have hsz : cur.toList.length = cur.size := Array.length_toList
    have hlo : off ≤ (cur.toList.take (off + i * L.c)).length := by rw [List.length_take, hsz]; omega
    rw [List.length_set, L.vs_set xs i x hi, ← h4, r3, List.append_assoc, List.drop_append_of_le_length hlo, List.drop_take, show off + i * L.c - off = i * L.c by omega, L.len, List.take_take, Nat.min_eq_left (by omega), ← List.append_assoc]
    have hl1 : ((cur.toList.drop off).take (i * L.c) ++ L.cl x).length = (i + 1) * L.c := by rw [List.length_append, L.len, List.length_take, List.length_drop, hsz, Nat.succ_mul]; omega
    rw [List.take_append, List.take_of_length_le (by rw [hl1, Nat.succ_mul]; exact hle), hl1, List.drop_take, List.drop_drop]
    rw [show off + i * L.c + L.c = off + (i + 1) * L.c by rw [Nat.succ_mul]; omega]

/-- Slices of slices, as operations. -/
theorem slice_high (N : Kn P L t zv bt) (A : Option Addr) (n cap k : Nat) (hk : k ≤ cap) (w : World) : (Instr.sliceAt t (.slice A n cap) none (some (.int .i64 (k : Int))) none).run P w = .ok (sliced A 0 k cap L.c) w := by
  obtain ⟨i0, hi0, hz0, hz1, hz2⟩ := info_parts N.info
  have he : P.elem t = L.e := by simp [Program.elem, N.ht]
  have ht : P.underlying t = some (.slice (P.elem t)) := by rw [he]; exact N.ht
  rw [run_sliceAt_slice w t _ _ _ _ ht, run_slice_h w t A n cap ht .i64 (k : Int) (by omega) (by omega), he]
  simp [sizeOf, typeInfo, hi0, hz1]
theorem slice_low (N : Kn P L t zv bt) (A : Option Addr) (n cap l : Nat) (hl : l ≤ n) (w : World) : (Instr.sliceAt t (.slice A n cap) (some (.int .i64 (l : Int))) none none).run P w = .ok (sliced A l n cap L.c) w := by
  obtain ⟨i0, hi0, hz0, hz1, hz2⟩ := info_parts N.info
  have he : P.elem t = L.e := by simp [Program.elem, N.ht]
  have ht : P.underlying t = some (.slice (P.elem t)) := by rw [he]; exact N.ht
  rw [run_sliceAt_slice w t _ _ _ _ ht, run_slice_l w t A n cap ht .i64 (l : Int) (by omega) (by omega), he]
  simp [sizeOf, typeInfo, hi0, hz1]
theorem slice_both (N : Kn P L t zv bt) (A : Option Addr) (n cap l k : Nat) (hl : l ≤ k) (hk : k ≤ cap) (w : World) : (Instr.sliceAt t (.slice A n cap) (some (.int .i64 (l : Int))) (some (.int .i64 (k : Int))) none).run P w = .ok (sliced A l k cap L.c) w := by
  obtain ⟨i0, hi0, hz0, hz1, hz2⟩ := info_parts N.info
  have he : P.elem t = L.e := by simp [Program.elem, N.ht]
  have ht : P.underlying t = some (.slice (P.elem t)) := by rw [he]; exact N.ht
  rw [run_sliceAt_slice w t _ _ _ _ ht, run_slice_lh w t A n cap ht .i64 .i64 (l : Int) (k : Int) (by omega) (by omega) (by omega), he]
  simp [sizeOf, typeInfo, hi0, hz1]
end
end Go.Proofs.Ytimlomflgnnmnaa
