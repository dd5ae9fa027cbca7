/-
  Memory of EDUs: a slice of EDUs, one's own row of EDUs, append of one EDU, an element's address and its load.
-/
import Derived.Test.YtnabbebkmafakaaParGood
import Derived.Test.YtnabbebkmafakaaMM
import Derived.Deep.MidRow
import Derived.Great.BuildSlice
namespace Go.Proofs.Ytnabbebkmafakaa
set_option maxRecDepth 20000
open Go.RowKit
set_option linter.unusedVariables false
set_option linter.unusedSimpArgs false

def eVs (es : List Edu) : List Value := es.flatMap Edu.cells
theorem cells_len (e : Edu) : e.cells.length = 11 := rfl
theorem eVs_nil : eVs [] = [] := rfl
theorem eVs_cons (e : Edu) (es : List Edu) : eVs (e :: es) = e.cells ++ eVs es := by simp [eVs]
theorem eVs_len : ∀ es : List Edu, (eVs es).length = es.length * 11
  | [] => rfl
  | e :: es => by rw [eVs_cons, List.length_append, eVs_len es, cells_len, List.length_cons]; omega
theorem eVs_app (a b : List Edu) : eVs (a ++ b) = eVs a ++ eVs b := by simp [eVs]
theorem eVs_one_edu (e : Edu) : eVs [e] = e.cells := by simp [eVs]
theorem cells_one (e : Edu) : ∀ u ∈ e.cells, u.oneCell' = true := by
  intro u hu
  simp only [Edu.cells, List.mem_cons, List.not_mem_nil, or_false] at hu
  rcases hu with rfl | rfl | rfl | rfl | rfl | rfl | rfl | rfl | rfl | rfl | rfl <;> rfl
theorem eVs_one (es : List Edu) : ∀ u ∈ eVs es, u.oneCell' = true := by
  intro u hu
  obtain ⟨e, _, he⟩ := List.mem_flatMap.1 hu
  exact cells_one e u he
theorem eVs_get : ∀ {es : List Edu} {i : Nat} {e : Edu} {j : Nat} {u : Value}, es[i]? = some e → e.cells[j]? = some u → (eVs es)[i * 11 + j]? = some u
  | [], i, e, j, u, he, _ => by simp at he
  | x :: es, 0, e, j, u, he, hu => by
    simp only [List.getElem?_cons_zero, Option.some.injEq] at he
    subst he
    have hj : j < x.cells.length := (List.getElem?_eq_some_iff.1 hu).1
    rw [eVs_cons, Nat.zero_mul, Nat.zero_add, List.getElem?_append_left hj]
    exact hu
  | x :: es, i + 1, e, j, u, he, hu => by
    rw [List.getElem?_cons_succ] at he
    have ih := eVs_get he hu
    rw [eVs_cons, List.getElem?_append_right (by rw [cells_len]; omega), cells_len, show (i + 1) * 11 + j - 11 = i * 11 + j by omega]
    exact ih
theorem val_cells (e : Edu) : e.val = .agg e.cells.toArray := rfl

/-- One's own row of EDUs. -/
def OwnE (w : World) (g cap : Nat) (es : List Edu) : Prop :=
  (∃ cur : Array Value, w.heap[g]? = some (.cells cur 50 (0, 0)) ∧ es.length ≤ cap ∧ cap ≤ maxLen ∧ cur.size = cap * 11 ∧ cur.toList.take (es.length * 11) = eVs es) ∧ ∀ e ∈ es, e.well
theorem OwnE.lt {w : World} {g cap : Nat} {es : List Edu} (h : OwnE w g cap es) : g < w.heap.size := by obtain ⟨⟨cur, hh, _⟩, _⟩ := h; exact heap_lt hh
theorem OwnE.block {w w' : World} {g cap : Nat} {es : List Edu} (h : OwnE w g cap es) (hb : w'.heap[g]? = w.heap[g]?) : OwnE w' g cap es := by
  obtain ⟨⟨cur, hh, h2⟩, h3⟩ := h
  exact ⟨⟨cur, hb.trans hh, h2⟩, h3⟩
theorem OwnE.below {w w' : World} {g cap : Nat} {es : List Edu} (h : OwnE w g cap es) (hb : Below w.heap.size w w') : OwnE w' g cap es := h.block (hb.block g h.lt)
theorem OwnE.cells {w : World} {g cap : Nat} {es : List Edu} (h : OwnE w g cap es) : ∀ j u, (eVs es)[j]? = some u → w.cell? ⟨g, j, none⟩ = some u := by
  obtain ⟨⟨cur, hh, h1, h2, h3, h4⟩, _⟩ := h
  intro j u hu
  rw [cell_of_row w g j cur _ _ hh, ← Array.getElem?_toList]
  have hj : j < es.length * 11 := by rw [← eVs_len]; exact (List.getElem?_eq_some_iff.1 hu).1
  rw [← h4, List.getElem?_take, if_pos hj] at hu
  exact hu
theorem OwnE.edus {w : World} {g cap : Nat} {es : List Edu} (h : OwnE w g cap es) : EdusAt w (some ⟨g, 0, none⟩) es.length es := by
  refine ⟨rfl, h.2, fun _ => ⟨g, 0, rfl, fun i e he j u hu => ?_⟩⟩
  rw [Nat.zero_add]
  exact h.cells _ _ (eVs_get he hu)
/-- What a call has made: nil, or a row of its own from block B on. -/
def MadeE (w : World) (B : Nat) (v : Value) (es : List Edu) : Prop := (v = .slice none 0 0 ∧ es = []) ∨ ∃ g cap, v = .slice (some ⟨g, 0, none⟩) es.length cap ∧ B ≤ g ∧ OwnE w g cap es
theorem MadeE.nil (w : World) (B : Nat) : MadeE w B (.slice none 0 0) [] := .inl ⟨rfl, rfl⟩
theorem MadeE.below {w w' : World} {B : Nat} {v : Value} {es : List Edu} (h : MadeE w B v es) (hb : Below w.heap.size w w') : MadeE w' B v es := by
  rcases h with h | ⟨g, cap, hv, hg, ho⟩
  · exact .inl h
  · exact .inr ⟨g, cap, hv, hg, ho.below hb⟩
theorem MadeE.block {w w' : World} {B : Nat} {v : Value} {es : List Edu} (h : MadeE w B v es) (hb : ∀ g, B ≤ g → g < w.heap.size → (∃ cur, w.heap[g]? = some (.cells cur 50 (0, 0)) ∧ 11 ∣ cur.size) → w'.heap[g]? = w.heap[g]?) : MadeE w' B v es := by
  rcases h with h | ⟨g, cap, hv, hg, ho⟩
  · exact .inl h
  · refine .inr ⟨g, cap, hv, hg, ho.block (hb g hg ho.lt ?_)⟩
    obtain ⟨⟨cur, hh, _, _, h3, _⟩, _⟩ := ho
    exact ⟨cur, hh, ⟨cap, by omega⟩⟩
theorem MadeE.mono {w : World} {B B' : Nat} {v : Value} {es : List Edu} (h : MadeE w B v es) (hb : B' ≤ B) : MadeE w B' v es := by
  rcases h with h | ⟨g, cap, hv, hg, ho⟩
  · exact .inl h
  · exact .inr ⟨g, cap, hv, Nat.le_trans hb hg, ho⟩
/-- A slice of EDUs, wherever it lies. -/
def SliceE (w : World) (v : Value) (es : List Edu) : Prop := ∃ A cap, v = .slice A es.length cap ∧ es.length ≤ cap ∧ cap ≤ maxLen ∧ (A = none → cap = 0) ∧ EdusAt w A es.length es
theorem SliceE.nil (w : World) : SliceE w (.slice none 0 0) [] := ⟨none, 0, rfl, Nat.le_refl _, Nat.zero_le _, fun _ => rfl, rfl, (fun e he => (List.not_mem_nil he).elim), fun h => absurd h (Nat.lt_irrefl 0)⟩
theorem SliceE.below {w w' : World} {v : Value} {es : List Edu} (h : SliceE w v es) (hb : Below w.heap.size w w') : SliceE w' v es := by
  obtain ⟨A, cap, h1, h2, h3, h4, h5⟩ := h
  exact ⟨A, cap, h1, h2, h3, h4, h5.below hb⟩
theorem MadeE.slice {w : World} {B : Nat} {v : Value} {es : List Edu} (h : MadeE w B v es) : SliceE w v es := by
  rcases h with ⟨rfl, rfl⟩ | ⟨g, cap, rfl, hg, ho⟩
  · exact SliceE.nil w
  · obtain ⟨⟨cur, hh, h1, h2, h3, h4⟩, h5⟩ := ho
    exact ⟨_, cap, rfl, h1, h2, (fun e => by cases e), OwnE.edus ⟨⟨cur, hh, h1, h2, h3, h4⟩, h5⟩⟩
theorem SliceE.well {w : World} {v : Value} {es : List Edu} (h : SliceE w v es) : ∀ e ∈ es, e.well := by
  obtain ⟨A, cap, h1, h2, h3, h4, h5⟩ := h
  exact h5.2.1
theorem SliceE.len {w : World} {v : Value} {es : List Edu} (h : SliceE w v es) : es.length ≤ maxLen := by
  obtain ⟨A, cap, h1, h2, h3, h4, h5⟩ := h
  omega
theorem EdusAt.later' {w w' : World} {A : Option Addr} {len : Nat} {es : List Edu} (h : EdusAt w A len es) (hb : Below w.heap.size w w') : EdusAt w' A len es := h.below hb
/-- The element at an index: where it lies. -/
theorem EdusAt.at {w : World} {A : Option Addr} {len : Nat} {es : List Edu} (h : EdusAt w A len es) {i : Nat} {e : Edu} (hi : es[i]? = some e) : ∃ b off, A = some ⟨b, off, none⟩ ∧ b < w.heap.size ∧ w.rangeAt b (off + i * 11) e.cells := by
  obtain ⟨h1, h2, h3⟩ := h
  have hl : i < es.length := (List.getElem?_eq_some_iff.1 hi).1
  obtain ⟨b, off, hA, hc⟩ := h3 (by omega)
  refine ⟨b, off, hA, ?_, fun j u hu => ?_⟩
  · exact World.block_lt_of_cell? w _ (hc i e hi 0 _ rfl)
  · rw [Nat.add_assoc]
    exact hc i e hi j u hu
theorem edu_size : (Try.prog.info? 50).map (·.size) = some 11 := by kernel_rfl
theorem index_edu {b off len cap i : Nat} (hi : i < len) (w : World) : (Instr.indexAt 22 (.slice (some ⟨b, off, none⟩) len cap) (.int .i64 (i : Int))).run Try.prog w = .ok (.pointer (some ⟨b, off + i * 11, none⟩)) w := by
  obtain ⟨i0, hi0, hz0⟩ := Option.map_eq_some_iff.1 edu_size
  have h1 : (0 : Int) ≤ (i : Int) ∧ (i : Int) < (len : Int) := by omega
  simp [Instr.indexAt, asIntOf, run_underlying Try.underlying22, sizeOf, typeInfo, hi0, hz0, h1, Addr.add_lit]
  intro h
  omega
theorem load_edu {w : World} {b o : Nat} {e : Edu} (h : w.rangeAt b o e.cells) : (Instr.loadAt 50 (.pointer (some ⟨b, o, none⟩))).run Try.prog w = .ok e.val w :=
  run_loadAt_mid w b o 50 e.cells _ h Try.underlying50 rfl edu_size
theorem edu_info3 : (Try.prog.info? 50).map (fun i => (i.zero, i.size, i.bytes)) = some (some (Edu.val ⟨0, ⟨#[]⟩, ⟨#[]⟩, ⟨#[]⟩, ⟨#[]⟩, false, false, 0, 0, 0, 0⟩), 11, 112) := by kernel_rfl
theorem fill_edu (e : Edu) : Instr.fill (fun i => some (i * 11, 11)) ((Array.range (1 * 11)).map ((Edu.val ⟨0, ⟨#[]⟩, ⟨#[]⟩, ⟨#[]⟩, ⟨#[]⟩, false, false, 0, 0, 0, 0⟩).cells[· % (Edu.val ⟨0, ⟨#[]⟩, ⟨#[]⟩, ⟨#[]⟩, ⟨#[]⟩, false, false, 0, 0, 0, 0⟩).cells.size]!)) [(0, e.val)] = some e.cells.toArray := by
  cases e
  kernel_rfl
theorem range11 {w : World} {b o : Nat} {e : Edu} (h : w.rangeAt b o e.cells) : w.cell? ⟨b, o, none⟩ = some (.int .i64 e.kind) ∧ w.cell? ⟨b, o + 1, none⟩ = some (.string e.room) ∧ w.cell? ⟨b, o + 2, none⟩ = some (.string e.user) ∧ w.cell? ⟨b, o + 3, none⟩ = some (.string e.event) ∧ w.cell? ⟨b, o + 4, none⟩ = some (.string e.thread) ∧ w.cell? ⟨b, o + 5, none⟩ = some (.bool e.priv) ∧ w.cell? ⟨b, o + 6, none⟩ = some (.bool e.on) ∧ w.cell? ⟨b, o + 7, none⟩ = some (.int .i64 e.span) ∧ w.cell? ⟨b, o + 8, none⟩ = some (.int .i64 e.state) ∧ w.cell? ⟨b, o + 9, none⟩ = some (.int .i64 e.tick) ∧ w.cell? ⟨b, o + 10, none⟩ = some (.int .i64 e.stamp) := ⟨h 0 _ rfl, h 1 _ rfl, h 2 _ rfl, h 3 _ rfl, h 4 _ rfl, h 5 _ rfl, h 6 _ rfl, h 7 _ rfl, h 8 _ rfl, h 9 _ rfl, h 10 _ rfl⟩
theorem build_edu (e : Edu) (w : World) : (Instr.buildSlice 22 1 #[(0, e.val)]).run Try.prog w = .ok (.slice (some ⟨w.heap.size, 0, none⟩) 1 1) (w.alloc (.cells e.cells.toArray 50)) := by
  obtain ⟨i0, hi0, hz0, hz1, hz2⟩ := info_parts edu_info3
  refine run_buildSlice w 22 50 1 #[(0, e.val)] e.cells.toArray i0 _ Try.underlying22 hi0 hz0 (by rw [hz1]; decide) (by rw [hz1]; decide) ?_
  rw [hz1]
  exact fill_edu e
theorem wp_buildE {o : Oper} {a : Act} {w : World} {K : Act → World → Prop} {Q : Exit → Act → World → Prop} (x : Operand) (ho : o.op = .buildSlice 22 1 #[(0, x)]) (e : Edu) (hx : a.eval x = e.val)
    (h : K (a.put o.dst (.slice (some ⟨w.heap.size, 0, none⟩) 1 1)) (w.alloc (.cells e.cells.toArray 50))) : o.wp Try.prog a w K Q := by
  obtain ⟨i0, hi0, hz0, hz1, hz2⟩ := info_parts edu_info3
  refine wp_buildSlice 22 50 1 _ ho e.cells.toArray i0 _ Try.underlying22 hi0 hz0 (by rw [hz1]; decide) (by rw [hz1]; decide) ?_ h
  simp only [List.map_toArray, List.map_cons, List.map_nil, hx]
  rw [hz1]
  exact fill_edu e
theorem wpList_buildE {ops : Array Oper} {rest : List Oper} {o : Oper} {a : Act} {w : World} {Q : Exit → Act → World → Prop} (hgd : o.guard = none) (x : Operand) (ho : o.op = .buildSlice 22 1 #[(0, x)]) (e : Edu) (hx : a.eval x = e.val)
    (h : wpList Try.prog ops Q rest (a.put o.dst (.slice (some ⟨w.heap.size, 0, none⟩) 1 1)) (w.alloc (.cells e.cells.toArray 50))) : wpList Try.prog ops Q (o :: rest) a w :=
  wpList_plain hgd fun _ hK => wp_buildE x ho e hx (hK _ _ h)
/-- The slice of one EDU that append is handed. -/
theorem Src.ofEdu (w : World) (e : Edu) (B : Nat) (hB : B = w.heap.size) : Src Try.prog 11 22 (.slice (some ⟨B, 0, none⟩) 1 1) 1 e.cells (w.alloc (.cells e.cells.toArray 50)) := by
  subst hB
  refine Src.ofSlice (P := Try.prog) _ Try.underlying22 ⟨w.heap.size, 0, none⟩ 1 1 e.cells rfl (fun j u hu => ?_) (cells_one e)
  rw [Addr.add_lit, Nat.zero_add, cell_of_row _ _ _ _ _ _ (heap_alloc_new w _)]
  simpa using hu
theorem OwnE.first {w : World} {g cap : Nat} {es : List Edu} (h : OwnE w g cap es) : (Builtin.firstCells 11 es.length (.slice (some ⟨g, 0, none⟩) es.length cap)).run Try.prog w.drew = .ok (eVs es).toArray w.drew := by
  refine run_firstCells_some (P := Try.prog) w.drew 11 _ ⟨g, 0, none⟩ _ cap (eVs es) (eVs_len es) fun j u hu => ?_
  rw [Addr.add_lit, Nat.zero_add]
  exact h.cells j u hu
/-- append of one EDU: what comes is one's own, and nothing below B has turned. -/
theorem run_putE {w : World} {B : Nat} {v : Value} {es : List Edu} (ty : TypeId) (h : MadeE w B v es) (hB : B ≤ w.heap.size) (x : Value) (e : Edu) (he : e.well) (hs : Src Try.prog 11 22 x 1 e.cells w) (hm : es.length + 1 ≤ 1000000) :
    ∃ g cap w', (Builtin.append_ #[22, 22] ty #[v, x]).run Try.prog w = .ok (.slice (some ⟨g, 0, none⟩) (es.length + 1) cap) w' ∧ B ≤ g ∧ OwnE w' g cap (es ++ [e]) ∧ Below B w w' ∧ ∀ k, k < w.heap.size → (∀ cur, w.heap[k]? ≠ some (.cells cur 50 (0, 0))) → w'.heap[k]? = w.heap[k]? := by
  obtain ⟨i0, hi0, hz0, hz1, hz2⟩ := info_parts edu_info3
  have hs' : Src Try.prog i0.size 22 x 1 e.cells w := by rw [hz1]; exact hs
  have hml : (es ++ [e]).length = es.length + 1 := by simp
  have hev : eVs (es ++ [e]) = eVs es ++ e.cells := by rw [eVs_app, eVs_one_edu]
  have hw : (∀ y ∈ es, y.well) → ∀ y ∈ es ++ [e], y.well := by
    intro h1 y hy
    rcases List.mem_append.1 hy with h | h
    · exact h1 y h
    · rw [List.mem_singleton] at h
      rw [h]
      exact he
  have grow : ∀ (A : Option Addr) (c : Nat), c < es.length + 1 → (∀ y ∈ es, y.well) → (Builtin.firstCells i0.size es.length (.slice A es.length c)).run Try.prog w.drew = .ok (eVs es).toArray w.drew →
      ∃ g cap w', (Builtin.append_ #[22, 22] ty #[.slice A es.length c, x]).run Try.prog w = .ok (.slice (some ⟨g, 0, none⟩) (es.length + 1) cap) w' ∧ B ≤ g ∧ OwnE w' g cap (es ++ [e]) ∧ Below B w w' ∧ ∀ k, k < w.heap.size → (∀ cur, w.heap[k]? ≠ some (.cells cur 50 (0, 0))) → w'.heap[k]? = w.heap[k]? := by
    intro A c hc hy hf
    have hr := run_append_grow_src (P := Try.prog) w 22 22 ty 50 i0 _ Try.underlying22 hi0 hz0 A es.length c (eVs es) hf x 1 e.cells hs' hc (by omega) (by rw [hz2]; exact growslice_fits hc (by omega))
    have hge := grownCap_ge w (es.length + 1) c 50
    have hcm : grownCap w (es.length + 1) c 50 ≤ maxLen := grownCap_le_maxLen w (es.length + 1) c 50 (by unfold maxLen; omega)
    refine ⟨_, _, _, hr, hB, ⟨⟨_, heap_alloc_new w.drew _, by rw [hml]; exact hge, hcm, ?_, ?_⟩, hw hy⟩, ((Below.refl B w).drew).alloc (by simpa using hB) _, fun k hk _ => (heap_alloc_old w.drew _ hk : _)⟩
    · simp only [Array.size_append, List.size_toArray, size_zeroCells, List.length_append, eVs_len, cells_len]
      have : (Edu.val ⟨0, ⟨#[]⟩, ⟨#[]⟩, ⟨#[]⟩, ⟨#[]⟩, false, false, 0, 0, 0, 0⟩).cells.size = 11 := rfl
      rw [this]
      omega
    · rw [hml, hev]
      simp only [Array.toList_append]
      rw [show (es.length + 1) * 11 = (eVs es ++ e.cells).length by rw [List.length_append, eVs_len, cells_len]; omega]
      exact List.take_left
  rcases h with ⟨rfl, rfl⟩ | ⟨g, cap, rfl, hBg, ho⟩
  · exact grow none 0 (by simp) (fun y hy => (List.not_mem_nil hy).elim) (by rw [hz1]; exact run_firstCells_none w.drew 11 0 0 0)
  · have ho' := ho
    obtain ⟨⟨cur, hh, h1, h2, h3, h4⟩, h5⟩ := ho
    by_cases hroom : es.length + 1 ≤ cap
    · have hr := run_append_room_src (P := Try.prog) w 22 22 ty 50 i0 Try.underlying22 hi0 g 0 es.length cap x 1 e.cells hs' hroom
        (fun j hj => by
          rw [cells_len] at hj
          rw [hz1, cell_of_row w g _ cur 50 (0, 0) hh, Array.getElem?_eq_getElem (by omega)]
          rfl)
        (fun j hj => by simp [World.frozen?, hh])
      rw [hz1] at hr
      obtain ⟨cur', r1, r2, r3⟩ := setCells_row g 50 e.cells (0 + es.length * 11) w cur hh (by rw [cells_len]; omega)
      obtain ⟨z1, z2, z3, z4⟩ := setCells_size g e.cells (0 + es.length * 11) w
      refine ⟨g, cap, _, hr, hBg, ⟨⟨cur', r1, by omega, h2, r2.trans h3, ?_⟩, hw h5⟩, ⟨z2, z3, z4, by omega, fun k hk => setCells_far g k (by omega) _ _ _⟩, fun k hk hne => setCells_far g k (fun e => hne cur (e ▸ hh)) _ _ _⟩
      rw [hml, hev, ← h4]
      rw [cells_len, Nat.zero_add, show es.length * 11 + 11 = (es.length + 1) * 11 by omega] at r3
      exact r3
    · exact grow _ _ (by omega) h5 (by rw [hz1]; exact ho'.first)
/-- The same, for a walk. -/
theorem wp_putE {w : World} {o : Oper} {a : Act} {K : Act → World → Prop} {Q : Exit → Act → World → Prop} (s x : Operand)
    (ho : o.op = .call { callee := .builtin .append, args := #[s, x], argTypes := #[22, 22] }) {B : Nat} {v : Value} {es : List Edu} (hv : a.eval s = v) (h : MadeE w B v es) (hB : B ≤ w.heap.size)
    (xv : Value) (e : Edu) (he : e.well) (hx : a.eval x = xv) (hs : Src Try.prog 11 22 xv 1 e.cells w) (hm : es.length + 1 ≤ 1000000)
    (hK : ∀ g cap w', B ≤ g → OwnE w' g cap (es ++ [e]) → Below B w w' → (∀ k, k < w.heap.size → (∀ cur, w.heap[k]? ≠ some (.cells cur 50 (0, 0))) → w'.heap[k]? = w.heap[k]?) → K (a.put o.dst (.slice (some ⟨g, 0, none⟩) (es.length + 1) cap)) w') : o.wp Try.prog a w K Q := by
  obtain ⟨g, cap, w', hr, h1, h2, h3, h4⟩ := run_putE o.type h hB xv e he hs hm
  unfold Oper.wp execOp
  simp only [ho, resolve, invoke, builtin, Sem.run_bind, Sem.run_pure, Result.andThen_ok, List.map_toArray, List.map_cons, List.map_nil, hv, hx, hr]
  exact hK g cap w' h1 h2 h3 h4
theorem wpList_putE {w : World} {ops : Array Oper} {rest : List Oper} {o : Oper} {a : Act} {Q : Exit → Act → World → Prop} (hgd : o.guard = none) (s x : Operand)
    (ho : o.op = .call { callee := .builtin .append, args := #[s, x], argTypes := #[22, 22] }) {B : Nat} {v : Value} {es : List Edu} (hv : a.eval s = v) (h : MadeE w B v es) (hB : B ≤ w.heap.size)
    (xv : Value) (e : Edu) (he : e.well) (hx : a.eval x = xv) (hs : Src Try.prog 11 22 xv 1 e.cells w) (hm : es.length + 1 ≤ 1000000)
    (hK : ∀ g cap w', B ≤ g → OwnE w' g cap (es ++ [e]) → Below B w w' → (∀ k, k < w.heap.size → (∀ cur, w.heap[k]? ≠ some (.cells cur 50 (0, 0))) → w'.heap[k]? = w.heap[k]?) → wpList Try.prog ops Q rest (a.put o.dst (.slice (some ⟨g, 0, none⟩) (es.length + 1) cap)) w') : wpList Try.prog ops Q (o :: rest) a w :=
  wpList_plain hgd fun _ hK' => wp_putE s x ho hv h hB xv e he hx hs hm (fun g cap w' h1 h2 h3 h4 => hK' _ _ (hK g cap w' h1 h2 h3 h4))
theorem MadeE.own {w : World} {B : Nat} {g cap n : Nat} {es : List Edu} (hn : es.length = n) (hg : B ≤ g) (h : OwnE w g cap es) : MadeE w B (.slice (some ⟨g, 0, none⟩) n cap) es := by
  subst hn
  exact .inr ⟨g, cap, rfl, hg, h⟩
end Go.Proofs.Ytnabbebkmafakaa
