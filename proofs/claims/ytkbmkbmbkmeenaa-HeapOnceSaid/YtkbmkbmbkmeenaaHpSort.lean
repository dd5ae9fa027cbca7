/-
  A row of entries that is one's own, sorted by the library's sort and the heap's compare: it holds the entries in their row.
-/
import Derived.Test.YtkbmkbmbkmeenaaHpDue
import Derived.Test.YtkbmkbmbkmeenaaSort
namespace Go.Proofs.Ytkbmkbmbkmeenaa
set_option maxRecDepth 20000
open Go.RowKit
set_option linter.unusedVariables false
set_option linter.unusedSimpArgs false
variable {w w' : World} {g mb : Nat} {v v' : Value} {es es' l : List Ent} {D D' : Dm}

instance : Inhabited Ent := ⟨⟨0, ⟨#[]⟩⟩⟩
theorem lt_cmp (x y : Ent) : ltOf cmpE x y = beforeB x y := cmpE_lt x y
theorem swo_cmp : Sort.SWO (ltOf cmpE) where
  irrefl x := by rw [lt_cmp]; exact before_irrefl x
  trans x y z h1 h2 := by rw [lt_cmp] at *; exact before_trans h1 h2
  ntrans x y z h1 h2 := by
    rw [lt_cmp] at *
    exact le_trans (x := z) (y := y) (z := x) h2 h1
theorem flat_vs (d : Array Ent) (j : Nat) (hj : j < d.size * 2) : (LC.vs d.toList)[j]? = some (Sort.flatK LC.cl 2 d)[j]! := by
  rw [Sort.get_flatK _ _ _ _ hj]
  have h1 : d.toList[j / 2]? = some d[j / 2]! := by
    rw [Array.getElem?_toList, getElem!_pos d (j / 2) (by omega), Array.getElem?_eq_getElem (by omega)]
  have h2 : (LC.cl d[j / 2]!)[j % 2]? = some (LC.cl d[j / 2]!)[j % 2]! := by
    have : j % 2 < (LC.cl d[j / 2]!).length := by rw [LC.len]; exact Nat.mod_lt _ (by decide)
    rw [List.getElem?_eq_getElem this, getElem!_pos (LC.cl d[j / 2]!) (j % 2) this]
  have := LC.vs_get h1 h2
  rw [show j / 2 * LC.c + j % 2 = j by rw [show LC.c = 2 from rfl]; omega] at this
  exact this
theorem holds_mine {B b off n cap : Nat} {xs : List Ent} (h : LC.Mine w B (.slice (some ⟨b, off, none⟩) n cap) xs) : Sort.HoldsK LC.cl 2 w b off xs.toArray := by
  intro j hj
  rw [Sort.size_flatK, List.size_toArray] at hj
  have hv := flat_vs xs.toArray j (by rw [List.size_toArray]; exact hj)
  rw [List.toList_toArray] at hv
  rcases h with ⟨hv', _⟩ | ⟨g', off', cap', cur, hv', hg, hh, h1, h2, h3, h4⟩
  · cases hv'
  · injection hv' with e1 e2 e3
    injection e1 with e1
    injection e1 with e4 e5 _
    subst e4 e5 e3
    refine ⟨?_, by simp [World.frozen?, hh]⟩
    rw [cell_of_row w b (off + j) cur _ _ hh, ← Array.getElem?_toList]
    rw [← h4, List.getElem?_take, if_pos (by rw [show LC.c = 2 from rfl]; exact hj), List.getElem?_drop] at hv
    exact hv
theorem mine_sorted {B b off n cap q : Nat} {xs : List Ent} (h : LC.Mine w B (.slice (some ⟨b, off, none⟩) n cap) xs) (d : Array Ent) (hd : d.size = xs.length) (os : Array Obj) : LC.Mine (sortWorldK LC.cl 2 w b off q d os) B (.slice (some ⟨b, off, none⟩) n cap) d.toList ∧ Below B w (sortWorldK LC.cl 2 w b off q d os) := by
  rcases h with ⟨hv', _⟩ | ⟨g', off', cap', cur, hv', hg, hh, h1, h2, h3, h4⟩
  · cases hv'
  · injection hv' with e1 e2 e3
    injection e1 with e1
    injection e1 with e4 e5 _
    subst e4 e5 e3
    have hb := smem_lt hh
    have hp : ∀ k, (Sort.putRowK LC.cl 2 (Sort.ahead w q) b off d).heap[k]? = if k = b then some (.cells (Sort.putCells id off (Sort.flatK LC.cl 2 d) cur) LC.e (0, 0)) else w.heap[k]? := by
      intro k
      show (w.heap.modify b _)[k]? = _
      rw [Array.getElem?_modify]
      by_cases e : b = k
      · subst e
        rw [if_pos rfl, if_pos rfl, hh]
        rfl
      · rw [if_neg e, if_neg (fun e' => e e'.symm)]
    have hsz : (Sort.putRowK LC.cl 2 (Sort.ahead w q) b off d).heap.size = w.heap.size := by
      show (w.heap.modify b _).size = _
      simp
    have hall : ∀ k, k < w.heap.size → (sortWorldK LC.cl 2 w b off q d os).heap[k]? = if k = b then some (.cells (Sort.putCells id off (Sort.flatK LC.cl 2 d) cur) LC.e (0, 0)) else w.heap[k]? := fun k hk => by
      rw [← hp k]
      exact Sort.heap_grow_old _ _ (by rw [hsz]; exact hk)
    constructor
    · refine .inr ⟨b, off, cap, _, by rw [Array.length_toList, hd, e2], hg, by rw [hall b hb, if_pos rfl], by rw [Array.length_toList, hd]; exact h1, h2, by simpa [Sort.putCells] using h3, ?_⟩
      have hc : LC.c = 2 := rfl
      rw [Array.length_toList]
      apply List.ext_getElem?
      intro j
      rw [List.getElem?_take]
      by_cases hj : j < d.size * 2
      · rw [hc, if_pos hj, flat_vs d j hj, List.getElem?_drop, Array.getElem?_toList]
        have hlt : off + j < cur.size := by
          rw [hc] at h3
          have : xs.length * 2 ≤ cap * 2 := Nat.mul_le_mul_right _ h1
          omega
        simp only [Sort.putCells, Array.getElem?_mapIdx, Array.getElem?_eq_getElem hlt, Option.map_some, Sort.size_flatK]
        rw [if_pos ⟨by omega, by omega⟩, show off + j - off = j by omega]
        rfl
      · rw [hc, if_neg hj, List.getElem?_eq_none (by rw [LC.vs_len, Array.length_toList, hc]; omega)]
    · refine ⟨rfl, rfl, rfl, ?_, fun k hk => ?_⟩
      · show w.heap.size ≤ (Sort.grow _ _).heap.size
        rw [Sort.size_grow, hsz]
        exact Nat.le_add_right _ _
      · rw [hall k (by omega), if_neg (by omega)]
/-- What is sorted is in its row. -/
theorem sorted_row {d d' : Array Ent} (hp : Sort.PermIn 0 d.size d d') (hs : Sort.SortedIn (ltOf cmpE) 0 d.size d') (hd : d.toList.Perm l) (hr : RowL l) : d'.size = d.size ∧ d'.toList = l := by
  obtain ⟨h1, _, h3⟩ := hp
  have e1 : (d.extract 0 d.size) = d := by simp
  have e2 : (d'.extract 0 d.size) = d' := by rw [← h1]; simp
  rw [e1, e2] at h3
  have hpl := h3.trans hd
  have hk := perm_keys hpl hr
  refine ⟨h1, row_unique ?_ hr.1 (fun x => hpl.mem_iff)⟩
  rw [List.pairwise_iff_getElem]
  intro i j hi hj hij
  have hi' : i < d'.size := by simpa using hi
  have hj' : j < d'.size := by simpa using hj
  have hle := hs i j (Nat.zero_le _) hij (by omega)
  rw [lt_cmp, getElem!_pos d' j hj', getElem!_pos d' i hi'] at hle
  have ne : d'.toList[i] ≠ d'.toList[j] := fun e => by
    have := hk.inj hi hj (by rw [← nth_get hi, ← nth_get hj, e])
    omega
  rcases before_total ne with h | h
  · exact h
  · simp only [Array.getElem_toList] at h
    rw [hle] at h
    cases h

theorem cmp_lays (blk off size : Nat) (w : World) : CmpLays Try.prog 32 #[] LC.cl 2 cmpE blk off size w := fun _ _ _ _ x y => compare_any x y _
theorem sort_any {B b off n cap : Nat} {xs : List Ent} (h : LC.Mine w B (.slice (some ⟨b, off, none⟩) n cap) xs) (hn : xs.length = n) (hl : n ≤ 1000) (hp : xs.Perm l) (hr : RowL l) :
    Calls Try.prog 31 #[.slice (some ⟨b, off, none⟩) n cap, .func (.func 32) #[] #[]] w fun e w' => e = .returned (.tuple #[]) ∧ LC.Mine w' B (.slice (some ⟨b, off, none⟩) n cap) l ∧ Below B w w' := by
  have eg : ∀ args w, (callFunc 32 args).run Try.prog w = .ok (.enter 32 args) w := enters_of Try.func32 (by kernel_rfl) rfl
  have hb : b < w.heap.size := (h.lt b rfl).2
  have hsz : xs.toArray.size = n := by rw [List.size_toArray]; exact hn
  have hcon := AnyQ.slices_SortFunc Try.sortE 2 Try.isAgg45 Try.sizeOf45 LC.cl LC.len LC.one cmpE swo_cmp 32 #[] b off cap xs.toArray w eg (cmp_lays b off xs.toArray.size w) (holds_mine h) hb (by omega)
  rw [hsz] at hcon
  refine hcon.mono ?_
  rintro e w' ⟨rfl, d', q, os, p1, p2, rfl⟩
  rw [← hsz] at p1 p2
  obtain ⟨e1, e2⟩ := sorted_row p1 p2 (by rw [List.toList_toArray]; exact hp) hr
  have := mine_sorted (q := q) h d' (by rw [e1, hsz, hn]) os
  rw [e2] at this
  exact ⟨rfl, this.1, this.2⟩
end Go.Proofs.Ytkbmkbmbkmeenaa
