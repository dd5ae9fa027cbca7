/-
  A row of marks that is one's own, sorted by the library's sort and the code's Compare: it holds the marks in their row.
-/
import Derived.Test.YtmialpaldkpmbaaRcE
import Derived.Test.YtmialpaldkpmbaaSort
namespace Go.Proofs.Ytmialpaldkpmbaa
set_option maxRecDepth 20000
open Go.RowKit
set_option linter.unusedVariables false
set_option linter.unusedSimpArgs false
variable {w w' : World} {l : List Mk}

instance : Inhabited Mk := ⟨⟨⟨⟨#[]⟩, ⟨#[]⟩, ⟨#[]⟩, false⟩, ⟨0, ⟨#[]⟩⟩⟩⟩
def cmpM (x y : Mk) : Int := cmpK x.k y.k
theorem lt_cmpM (x y : Mk) : ltOf cmpM x y = beforeK x.k y.k := cmpK_lt x.k y.k
theorem swo_cmpM : Sort.SWO (ltOf cmpM) where
  irrefl x := by rw [lt_cmpM]; exact bk_irrefl x.k
  trans x y z h1 h2 := by rw [lt_cmpM] at *; exact bk_trans h1 h2
  ntrans x y z h1 h2 := by
    rw [lt_cmpM] at *
    exact cmpK_le.1 (le_transK (cmpK_le.2 h2) (cmpK_le.2 h1))
theorem flat_vsR (d : Array Mk) (j : Nat) (hj : j < d.size * 6) : (LR.vs d.toList)[j]? = some (Sort.flatK LR.cl 6 d)[j]! := by
  rw [Sort.get_flatK _ _ _ _ hj]
  have h1 : d.toList[j / 6]? = some d[j / 6]! := by
    rw [Array.getElem?_toList, getElem!_pos d (j / 6) (by omega), Array.getElem?_eq_getElem (by omega)]
  have h2 : (LR.cl d[j / 6]!)[j % 6]? = some (LR.cl d[j / 6]!)[j % 6]! := by
    have : j % 6 < (LR.cl d[j / 6]!).length := by rw [LR.len]; exact Nat.mod_lt _ (by decide)
    rw [List.getElem?_eq_getElem this, getElem!_pos (LR.cl d[j / 6]!) (j % 6) this]
  have := LR.vs_get h1 h2
  rw [show j / 6 * LR.c + j % 6 = j by rw [show LR.c = 6 from rfl]; omega] at this
  exact this
theorem holds_mineR {B b off n cap : Nat} {xs : List Mk} (h : LR.Mine w B (.slice (some ⟨b, off, none⟩) n cap) xs) : Sort.HoldsK LR.cl 6 w b off xs.toArray := by
  intro j hj
  rw [Sort.size_flatK, List.size_toArray] at hj
  have hv := flat_vsR xs.toArray j (by rw [List.size_toArray]; exact hj)
  rw [List.toList_toArray] at hv
  rcases h with ⟨hv', _⟩ | ⟨g', off', cap', cur, hv', hg, hh, h1, h2, h3, h4⟩
  · cases hv'
  · injection hv' with e1 e2 e3
    injection e1 with e1
    injection e1 with e4 e5 _
    subst e4 e5 e3
    refine ⟨?_, by simp [World.frozen?, hh]⟩
    rw [cell_of_row w b (off + j) cur _ _ hh, ← Array.getElem?_toList]
    rw [← h4, List.getElem?_take, if_pos (by rw [show LR.c = 6 from rfl]; exact hj), List.getElem?_drop] at hv
    exact hv
theorem mine_sortedR {B b off n cap q : Nat} {xs : List Mk} (h : LR.Mine w B (.slice (some ⟨b, off, none⟩) n cap) xs) (d : Array Mk) (hd : d.size = xs.length) (os : Array Obj) : LR.Mine (sortWorldK LR.cl 6 w b off q d os) B (.slice (some ⟨b, off, none⟩) n cap) d.toList ∧ Below B w (sortWorldK LR.cl 6 w b off q d os) := by
  rcases h with ⟨hv', _⟩ | ⟨g', off', cap', cur, hv', hg, hh, h1, h2, h3, h4⟩
  · cases hv'
  · injection hv' with e1 e2 e3
    injection e1 with e1
    injection e1 with e4 e5 _
    subst e4 e5 e3
    have hb := smem_lt hh
    have hp : ∀ k, (Sort.putRowK LR.cl 6 (Sort.ahead w q) b off d).heap[k]? = if k = b then some (.cells (Sort.putCells id off (Sort.flatK LR.cl 6 d) cur) LR.e (0, 0)) else w.heap[k]? := by
      intro k
      show (w.heap.modify b _)[k]? = _
      rw [Array.getElem?_modify]
      by_cases e : b = k
      · subst e
        rw [if_pos rfl, if_pos rfl, hh]
        rfl
      · rw [if_neg e, if_neg (fun e' => e e'.symm)]
    have hsz : (Sort.putRowK LR.cl 6 (Sort.ahead w q) b off d).heap.size = w.heap.size := by
      show (w.heap.modify b _).size = _
      simp
    have hall : ∀ k, k < w.heap.size → (sortWorldK LR.cl 6 w b off q d os).heap[k]? = if k = b then some (.cells (Sort.putCells id off (Sort.flatK LR.cl 6 d) cur) LR.e (0, 0)) else w.heap[k]? := fun k hk => by
      rw [← hp k]
      exact Sort.heap_grow_old _ _ (by rw [hsz]; exact hk)
    constructor
    · refine .inr ⟨b, off, cap, _, by rw [Array.length_toList, hd, e2], hg, by rw [hall b hb, if_pos rfl], by rw [Array.length_toList, hd]; exact h1, h2, by simpa [Sort.putCells] using h3, ?_⟩
      have hc : LR.c = 6 := rfl
      rw [Array.length_toList]
      apply List.ext_getElem?
      intro j
      rw [List.getElem?_take]
      by_cases hj : j < d.size * 6
      · rw [hc, if_pos hj, flat_vsR d j hj, List.getElem?_drop, Array.getElem?_toList]
        have hlt : off + j < cur.size := by
          rw [hc] at h3
          have : xs.length * 6 ≤ cap * 6 := Nat.mul_le_mul_right _ h1
          omega
        simp only [Sort.putCells, Array.getElem?_mapIdx, Array.getElem?_eq_getElem hlt, Option.map_some, Sort.size_flatK]
        rw [if_pos ⟨by omega, by omega⟩, show off + j - off = j by omega]
        rfl
      · rw [hc, if_neg hj, List.getElem?_eq_none (by rw [LR.vs_len, Array.length_toList, hc]; omega)]
    · refine ⟨rfl, rfl, rfl, ?_, fun k hk => ?_⟩
      · show w.heap.size ≤ (Sort.grow _ _).heap.size
        rw [Sort.size_grow, hsz]
        exact Nat.le_add_right _ _
      · rw [hall k (by omega), if_neg (by omega)]
/-- What is sorted is in its row. -/
theorem sorted_rowR {d d' : Array Mk} (hp : Sort.PermIn 0 d.size d d') (hs : Sort.SortedIn (ltOf cmpM) 0 d.size d') (hd : d.toList.Perm l) (hr : RowM l) : d'.size = d.size ∧ d'.toList = l := by
  obtain ⟨h1, _, h3⟩ := hp
  have e1 : (d.extract 0 d.size) = d := by simp
  have e2 : (d'.extract 0 d.size) = d' := by rw [← h1]; simp
  rw [e1, e2] at h3
  have hpl := h3.trans hd
  have hn : (l.map Mk.k).Nodup := by
    rw [List.nodup_iff_pairwise_ne, List.pairwise_map]
    exact hr.imp bk_ne
  have hk : (d'.toList.map Mk.k).Nodup := (hpl.map Mk.k).nodup_iff.2 hn
  refine ⟨h1, rowM_unique ?_ hr (fun x => hpl.mem_iff)⟩
  unfold RowM
  rw [List.pairwise_iff_getElem]
  intro i j hi hj hij
  have hi' : i < d'.size := by simpa using hi
  have hj' : j < d'.size := by simpa using hj
  have hle := hs i j (Nat.zero_le _) hij (by omega)
  rw [lt_cmpM, getElem!_pos d' j hj', getElem!_pos d' i hi'] at hle
  have ne : d'.toList[i].k ≠ d'.toList[j].k := by
    rw [List.nodup_iff_pairwise_ne, List.pairwise_map, List.pairwise_iff_getElem] at hk
    exact hk i j hi hj hij
  rcases bk_total ne with h | h
  · exact h
  · simp only [Array.getElem_toList] at h
    rw [hle] at h
    cases h

theorem cmp_laysR (blk off size : Nat) (w : World) : CmpLays Try.prog 31 #[] LR.cl 6 cmpM blk off size w := fun _ _ _ _ x y => all1_any x y _
theorem sortR_any {B b off n cap : Nat} {xs : List Mk} (h : LR.Mine w B (.slice (some ⟨b, off, none⟩) n cap) xs) (hn : xs.length = n) (hl : n ≤ 1000) (hp : xs.Perm l) (hr : RowM l) :
    Calls Try.prog 30 #[.slice (some ⟨b, off, none⟩) n cap, .func (.func 31) #[] #[]] w fun e w' => e = .returned (.tuple #[]) ∧ LR.Mine w' B (.slice (some ⟨b, off, none⟩) n cap) l ∧ Below B w w' := by
  have eg : ∀ args w, (callFunc 31 args).run Try.prog w = .ok (.enter 31 args) w := enters_of Try.func31 (by kernel_rfl) rfl
  have hb : b < w.heap.size := (h.lt b rfl).2
  have hsz : xs.toArray.size = n := by rw [List.size_toArray]; exact hn
  have hcon := AnyQ.slices_SortFunc Try.sortE 6 Try.isAgg60 Try.sizeOf60 LR.cl LR.len LR.one cmpM swo_cmpM 31 #[] b off cap xs.toArray w eg (cmp_laysR b off xs.toArray.size w) (holds_mineR h) hb (by omega)
  rw [hsz] at hcon
  refine hcon.mono ?_
  rintro e w' ⟨rfl, d', q, os, p1, p2, rfl⟩
  rw [← hsz] at p1 p2
  obtain ⟨e1, e2⟩ := sorted_rowR p1 p2 (by rw [List.toList_toArray]; exact hp) hr
  have := mine_sortedR (q := q) h d' (by rw [e1, hsz, hn]) os
  rw [e2] at this
  exact ⟨rfl, this.1, this.2⟩
end Go.Proofs.Ytmialpaldkpmbaa
