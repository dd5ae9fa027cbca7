/-
  What the statements stand on, part ZA3.
-/
import Derived.Test.YtnnapkakbdpkaaaGreatZA2
set_option linter.unusedVariables false
set_option linter.unusedSimpArgs false
namespace Go.Proofs.YtnnapkakbdpkaaaGreat
set_option maxRecDepth 20000
open Go.RowKit
structure Lies (α : Type) where
 e : TypeId
 c : Nat
 cl : α → List Value
 len : ∀ x, (cl x).length = c
 one : ∀ x, ∀ u ∈ cl x, u.oneCell' = true
section
variable {α : Type} (L : Lies α)
def Lies.vs (xs : List α) : List Value := xs.flatMap L.cl
theorem Lies.vs_cons (x : α) (xs : List α) : L.vs (x :: xs) = L.cl x ++ L.vs xs := by simp [Lies.vs]
theorem Lies.vs_app (a b : List α) : L.vs (a ++ b) = L.vs a ++ L.vs b := by simp [Lies.vs]
theorem Lies.vs_sing (x : α) : L.vs [x] = L.cl x := by simp [Lies.vs]
theorem Lies.vs_len : ∀ xs : List α, (L.vs xs).length = xs.length * L.c
 | [] => by simp [Lies.vs]
 | x :: xs => by rw [L.vs_cons, List.length_append, Lies.vs_len xs, L.len, List.length_cons, Nat.succ_mul]; omega
theorem Lies.vs_one (xs : List α) : ∀ u ∈ L.vs xs, u.oneCell' = true := by
 intro u hu
 obtain ⟨x, _, hx⟩ := List.mem_flatMap.1 hu
 exact L.one x u hx
theorem Lies.vs_get : ∀ {xs : List α} {i : Nat} {x : α} {j : Nat} {u : Value}, xs[i]? = some x → (L.cl x)[j]? = some u → (L.vs xs)[i * L.c + j]? = some u
 | [], i, x, j, u, he, _ => by simp at he
 | y :: xs, 0, x, j, u, he, hu => by
  simp only [List.getElem?_cons_zero, Option.some.injEq] at he
  subst he
  have hj : j < (L.cl y).length := (List.getElem?_eq_some_iff.1 hu).1
  rw [L.vs_cons, Nat.zero_mul, Nat.zero_add, List.getElem?_append_left hj]
  exact hu
 | y :: xs, i + 1, x, j, u, he, hu => by
  rw [List.getElem?_cons_succ] at he
  have ih := Lies.vs_get he hu
  rw [L.vs_cons, Nat.succ_mul, List.getElem?_append_right (by rw [L.len]; omega), L.len, show i * L.c + L.c + j - L.c = i * L.c + j by omega]
  exact ih
theorem Lies.vs_take (xs : List α) (n : Nat) : (L.vs xs).take (n * L.c) = L.vs (xs.take n) := by
 induction xs generalizing n with
 | nil => simp [Lies.vs]
 | cons x xs ih =>
  cases n with
  | zero => simp [Lies.vs]
  | succ n =>
   rw [List.take_succ_cons, L.vs_cons, L.vs_cons, ← ih n, Nat.succ_mul, Nat.add_comm, List.take_append]
   rw [L.len, List.take_of_length_le (by rw [L.len]; omega), show L.c + n * L.c - L.c = n * L.c by omega]
theorem Lies.vs_drop (xs : List α) (n : Nat) : (L.vs xs).drop (n * L.c) = L.vs (xs.drop n) := by
 induction xs generalizing n with
 | nil => simp [Lies.vs]
 | cons x xs ih =>
  cases n with
  | zero => simp
  | succ n =>
   rw [List.drop_succ_cons, L.vs_cons, ← ih n, Nat.succ_mul, Nat.add_comm, List.drop_append]
   rw [L.len, List.drop_of_length_le (by rw [L.len]; omega), show L.c + n * L.c - L.c = n * L.c by omega, List.nil_append]
def Lies.Slice (w : World) (v : Value) (xs : List α) : Prop :=
 ∃ A cap, v = .slice A xs.length cap ∧ xs.length ≤ cap ∧ cap ≤ maxLen ∧ (A = none → cap = 0) ∧ (0 < xs.length → ∃ b off, A = some ⟨b, off, none⟩ ∧ b < w.heap.size ∧ w.rangeAt b off (L.vs xs))
def Lies.Mine (w : World) (B : Nat) (v : Value) (xs : List α) : Prop :=
 (v = .slice none 0 0 ∧ xs = []) ∨ ∃ g off cap cur, v = .slice (some ⟨g, off, none⟩) xs.length cap ∧ B ≤ g ∧ w.heap[g]? = some (.cells cur L.e (0, 0)) ∧ xs.length ≤ cap ∧ cap ≤ maxLen ∧ off + cap * L.c ≤ cur.size ∧ (cur.toList.drop off).take (xs.length * L.c) = L.vs xs
variable {L}
variable {w w' : World} {B B' : Nat} {v : Value} {xs : List α}
theorem smem_lt {w : World} {g : Nat} {o : Obj} (h : w.heap[g]? = some o) : g < w.heap.size := (Array.getElem?_eq_some_iff.1 h).1
theorem Lies.Slice.nil (w : World) : L.Slice w (.slice none 0 0) [] := ⟨none, 0, rfl, Nat.le_refl _, Nat.zero_le _, fun _ => rfl, fun h => absurd h (Nat.lt_irrefl 0)⟩
theorem Lies.Mine.nil (w : World) (B : Nat) : L.Mine w B (.slice none 0 0) [] := .inl ⟨rfl, rfl⟩
theorem Lies.Slice.len (h : L.Slice w v xs) : xs.length ≤ maxLen := by obtain ⟨A, cap, _, h1, h2, _⟩ := h; omega
theorem Lies.Slice.below (h : L.Slice w v xs) (hb : Below w.heap.size w w') : L.Slice w' v xs := by
 obtain ⟨A, cap, h1, h2, h3, h4, h5⟩ := h
 refine ⟨A, cap, h1, h2, h3, h4, fun h0 => ?_⟩
 obtain ⟨b, off, hA, hl, hr⟩ := h5 h0
 exact ⟨b, off, hA, Nat.lt_of_lt_of_le hl hb.size, fun j u hu => (hb.cell (p := ⟨b, off + j, none⟩) hl).trans (hr j u hu)⟩
theorem Lies.Mine.lt (h : L.Mine w B v xs) : ∀ k, v.ownBlock = some k → B ≤ k ∧ k < w.heap.size := by
 intro k hk
 rcases h with ⟨rfl, _⟩ | ⟨g, off, cap, cur, rfl, hg, hh, _⟩
 ·cases hk
 ·simp only [Value.ownBlock, Option.some.injEq] at hk
  subst hk
  exact ⟨hg, smem_lt hh⟩
theorem Lies.Mine.keep (h : L.Mine w B v xs) (hb : ∀ k, v.ownBlock = some k → w'.heap[k]? = w.heap[k]?) : L.Mine w' B v xs := by
 rcases h with h | ⟨g, off, cap, cur, rfl, hg, hh, h1⟩
 ·exact .inl h
 ·exact .inr ⟨g, off, cap, cur, rfl, hg, (hb g rfl).trans hh, h1⟩
theorem Lies.Mine.below (h : L.Mine w B v xs) (hb : Below w.heap.size w w') : L.Mine w' B v xs := h.keep fun k hk => hb.block k (h.lt k hk).2
theorem Lies.Mine.grown {row : Option Nat} (h : L.Mine w B v xs) (hg : w.grownBy w' row) (hne : ∀ k, v.ownBlock = some k → some k ≠ row) : L.Mine w' B v xs := h.keep fun k hk => hg.block k (h.lt k hk).2 (hne k hk)
theorem Lies.Mine.mono (h : L.Mine w B v xs) (hb : B' ≤ B) : L.Mine w B' v xs := by
 rcases h with h | ⟨g, off, cap, cur, hv, hg, h1⟩
 ·exact .inl h
 ·exact .inr ⟨g, off, cap, cur, hv, Nat.le_trans hb hg, h1⟩
theorem Lies.Mine.slice (h : L.Mine w B v xs) : L.Slice w v xs := by
 rcases h with ⟨rfl, rfl⟩ | ⟨g, off, cap, cur, rfl, hg, hh, h1, h2, h3, h4⟩
 ·exact Lies.Slice.nil w
 ·refine ⟨_, cap, rfl, h1, h2, (fun e => by cases e), fun h0 => ⟨g, off, rfl, smem_lt hh, fun j u hu => ?_⟩⟩
  have hj : j < xs.length * L.c := by rw [← L.vs_len]; exact (List.getElem?_eq_some_iff.1 hu).1
  rw [cell_of_row w g (off + j) cur _ _ hh, ← Array.getElem?_toList]
  rw [← h4, List.getElem?_take, if_pos hj, List.getElem?_drop] at hu
  exact hu
theorem Lies.Mine.shape (h : L.Mine w B v xs) : ∃ A c, v = .slice A xs.length c ∧ xs.length ≤ c ∧ c ≤ maxLen ∧ (A = none → c = 0) := by
 obtain ⟨A, c, h1, h2, h3, h4, _⟩ := h.slice
 exact ⟨A, c, h1, h2, h3, h4⟩
theorem Lies.Slice.at {A : Option Addr} {n cap i : Nat} {x : α} (h : L.Slice w (.slice A n cap) xs) (hi : xs[i]? = some x) : ∃ b off, A = some ⟨b, off, none⟩ ∧ b < w.heap.size ∧ w.rangeAt b (off + i * L.c) (L.cl x) := by
 obtain ⟨A', cap', hv, h1, h2, h3, h4⟩ := h
 have hl : i < xs.length := (List.getElem?_eq_some_iff.1 hi).1
 obtain ⟨b, off, hA, hb, hr⟩ := h4 (by omega)
 injection hv with e1 e2 e3
 refine ⟨b, off, e1.trans hA, hb, fun j u hu => ?_⟩
 rw [Nat.add_assoc]
 exact hr _ u (L.vs_get hi hu)
theorem Lies.Slice.sub {A : Option Addr} {n cap : Nat} (h : L.Slice w (.slice A n cap) xs) (l k : Nat) (hl : l ≤ k) (hk : k ≤ xs.length) : L.Slice w (sliced A l k cap L.c) ((xs.take k).drop l) := by
 obtain ⟨A', cap', hv, h1, h2, h3, h4⟩ := h
 injection hv with e1 e2 e3
 subst e1 e3
 have hlen : ((xs.take k).drop l).length = k - l := by rw [List.length_drop, List.length_take]; omega
 refine ⟨if cap = l then A else A.map (·.add (l * L.c)), cap - l, by rw [hlen]; rfl, by rw [hlen]; omega, by omega, fun hn => ?_, fun h0 => ?_⟩
 ·split at hn
  ·have := h3 hn; omega
  ·have := h3 (by cases A with | none => rfl | some a => cases hn); omega
 ·rw [hlen] at h0
  obtain ⟨b, off, hA, hb, hr⟩ := h4 (by omega)
  subst hA
  rw [if_neg (by omega)]
  refine ⟨b, off + l * L.c, by simp [Addr.add_lit], hb, fun j u hu => ?_⟩
  rw [← L.vs_drop, ← L.vs_take, List.getElem?_drop, List.getElem?_take] at hu
  split at hu
  ·rw [Nat.add_assoc]; exact hr _ u hu
  ·cases hu
theorem Lies.Mine.sub {A : Option Addr} {n cap : Nat} (h : L.Mine w B (.slice A n cap) xs) (l k : Nat) (hl : l ≤ k) (hk : k ≤ xs.length) : L.Mine w B (sliced A l k cap L.c) ((xs.take k).drop l) := by
 have hlen : ((xs.take k).drop l).length = k - l := by rw [List.length_drop, List.length_take]; omega
 rcases h with ⟨hv, rfl⟩ | ⟨g, off, cap', cur, hv, hg, hh, h1, h2, h3, h4⟩
 ·injection hv with e1 e2 e3
  subst e1 e3
  obtain rfl : k = 0 := by simpa using hk
  obtain rfl : l = 0 := by omega
  exact .inl ⟨rfl, by simp⟩
 ·injection hv with e1 e2 e3
  subst e1 e3
  by_cases hc : cap = l
  ·refine .inr ⟨g, off, cap - l, cur, by rw [hlen]; simp [sliced, hc], hg, hh, by rw [hlen]; omega, by omega, by rw [hc]; simp; omega, ?_⟩
   have h0 : (xs.take k).drop l = [] := by rw [← List.length_eq_zero_iff, hlen]; omega
   rw [h0]; simp [Lies.vs]
  ·refine .inr ⟨g, off + l * L.c, cap - l, cur, by rw [hlen]; simp [sliced, hc, Addr.add_lit], hg, hh, by rw [hlen]; omega, by omega, ?_, ?_⟩
   ·rw [Nat.add_assoc, ← Nat.add_mul, show l + (cap - l) = cap by omega]; exact h3
   ·rw [hlen, ← L.vs_drop, ← L.vs_take, ← h4, List.take_take, Nat.min_eq_left (Nat.mul_le_mul_right _ hk), List.drop_take, List.drop_drop, Nat.sub_mul]
theorem Lies.Mine.apart {β : Type} {L' : Lies β} {v' : Value} {ys : List β} (h : L.Mine w B v xs) (h' : L'.Mine w B' v' ys) (ne : L.e ≠ L'.e) : ∀ k, v.ownBlock = some k → some k ≠ v'.ownBlock := by
 intro k hk he
 rcases h with ⟨rfl, _⟩ | ⟨g, off, cap, cur, rfl, _, hh, _⟩
 ·cases hk
 rcases h' with ⟨rfl, _⟩ | ⟨g', off', cap', cur', rfl, _, hh', _⟩
 ·cases he
 simp only [Value.ownBlock, Option.some.injEq] at hk he
 subst hk
 subst he
 rw [hh] at hh'
 injection hh' with hh'
 injection hh' with _ hh'
 exact ne hh'
end
end Go.Proofs.YtnnapkakbdpkaaaGreat

namespace Go.Proofs.YtnnapkakbdpkaaaGreat
set_option maxRecDepth 20000
open Go.RowKit
structure Kn {α : Type} (P : Program) (L : Lies α) (t : TypeId) (zv : Value) (bt : Nat) : Prop where
 ht : P.underlying t = some (.slice L.e)
 info : (P.info? L.e).map (fun i => (i.zero, i.size, i.bytes)) = some (some zv, L.c, bt)
 zs : zv.cells.size = L.c
 bts : bt ≤ 100000
theorem sm_far (b k : Nat) (hk : k ≠ b) : ∀ (vs : List Value) (o : Nat) (w : World), (w.setCells b o vs).heap[k]? = w.heap[k]?
 | [], _, _ => rfl
 | v :: vs, o, w => (sm_far b k hk vs (o + 1) _).trans (Below.heap_setCell w _ v k hk)
theorem sm_size (b : Nat) : ∀ (vs : List Value) (o : Nat) (w : World), (w.setCells b o vs).heap.size = w.heap.size ∧ (w.setCells b o vs).os = w.os ∧ (w.setCells b o vs).tape = w.tape ∧ (w.setCells b o vs).output = w.output
 | [], _, _ => ⟨rfl, rfl, rfl, rfl⟩
 | v :: vs, o, w => by
  obtain ⟨h1, h2, h3, h4⟩ := sm_size b vs (o + 1) (w.setCell ⟨b, o, none⟩ v)
  exact ⟨h1.trans (by simp [World.setCell]), h2.trans rfl, h3.trans rfl, h4.trans rfl⟩
theorem sm_grown (w : World) (b o : Nat) (vs : List Value) : w.grownBy (w.setCells b o vs) (some b) := by
 obtain ⟨h1, h2, h3, h4⟩ := sm_size b vs o w
 exact ⟨h2, h3, h4, by omega, fun k hk hne => sm_far b k (fun e => hne (by rw [e])) vs o w⟩
theorem sm_at (b : Nat) (ty : TypeId) : ∀ (vs : List Value) (o : Nat) (w : World) (cur : Array Value), w.heap[b]? = some (.cells cur ty (0, 0)) → o + vs.length ≤ cur.size →
  ∃ cur', (w.setCells b o vs).heap[b]? = some (.cells cur' ty (0, 0)) ∧ cur'.size = cur.size ∧ cur'.toList = cur.toList.take o ++ vs ++ cur.toList.drop (o + vs.length)
 | [], o, w, cur, h, hl => ⟨cur, h, rfl, by simp⟩
 | v :: vs, o, w, cur, h, hl => by
  have h1 : (w.setCell ⟨b, o, none⟩ v).heap[b]? = some (.cells (cur.setIfInBounds o v) ty (0, 0)) := by simp [World.setCell, Array.getElem?_modify, h]
  simp only [List.length_cons] at hl
  obtain ⟨cur', h2, h3, h4⟩ := sm_at b ty vs (o + 1) _ _ h1 (by simp; omega)
  refine ⟨cur', h2, h3.trans (by simp), h4.trans ?_⟩
  have hs : (cur.setIfInBounds o v).toList = cur.toList.set o v := by simp
  have ho : o < cur.toList.length := by rw [Array.length_toList]; omega
  rw [hs, List.take_add_one, List.getElem?_set_self ho, List.take_set_of_le (by omega), List.drop_set_of_lt (by omega)]
  simp only [Option.toList_some, List.append_assoc, List.singleton_append, List.length_cons]
  rw [show o + 1 + vs.length = o + (vs.length + 1) by omega]
section
variable {α : Type} {P : Program} {L : Lies α} {t : TypeId} {zv : Value} {bt : Nat} {w w' : World} {B : Nat} {v : Value} {xs ys : List α}
theorem Lies.Slice.src (K : Kn P L t zv bt) (h : L.Slice w v ys) : Src P L.c t v ys.length (L.vs ys) w := by
 obtain ⟨A, cap, rfl, h1, h2, h3, h4⟩ := h
 cases hy : ys with
 | nil =>
  subst hy
  cases A with
  | none => exact Src.ofNil (P := P) w K.ht cap
  | some a => exact Src.ofSlice (P := P) w K.ht a 0 cap [] (by simp) (fun j u hu => by simp at hu) (fun u hu => by cases hu)
 | cons y r =>
  obtain ⟨b, off, hA, hb, hr⟩ := h4 (by rw [hy]; simp)
  rw [← hy]
  subst hA
  exact Src.ofSlice (P := P) w K.ht ⟨b, off, none⟩ ys.length cap (L.vs ys) (L.vs_len ys) (fun j u hu => by rw [Addr.add_lit]; exact hr j u hu) (L.vs_one ys)
theorem Lies.Slice.srcN (K : Kn P L t zv bt) (h : L.Slice w v ys) {n : Nat} (hn : ys.length = n) : Src P L.c t v n (L.vs ys) w := by
 subst hn
 exact h.src K
theorem Lies.Slice.first (h : L.Slice w v xs) : (Builtin.firstCells L.c xs.length v).run P w = .ok (L.vs xs).toArray w := by
 obtain ⟨A, cap, rfl, h1, h2, h3, h4⟩ := h
 cases hy : xs with
 | nil =>
  subst hy
  cases A with
  | none => exact run_firstCells_none w L.c 0 0 cap
  | some a => exact run_firstCells_some w L.c 0 a 0 cap [] (by simp) (fun j u hu => by simp at hu)
 | cons y r =>
  obtain ⟨b, off, hA, hb, hr⟩ := h4 (by rw [hy]; simp)
  rw [← hy]
  subst hA
  exact run_firstCells_some w L.c _ ⟨b, off, none⟩ _ cap (L.vs xs) (L.vs_len xs) fun j u hu => by rw [Addr.add_lit]; exact hr j u hu
theorem Lies.Mine.put (K : Kn P L t zv bt) (ty tx : TypeId) (h : L.Mine w B v xs) (hB : B ≤ w.heap.size) (x : Value) (n : Nat) (hn : ys.length = n) (hs : Src P L.c tx x n (L.vs ys) w) (hm : xs.length + n ≤ 1000000) :
  ∃ A cap w', (Builtin.append_ #[t, tx] ty #[v, x]).run P w = .ok (.slice A (xs.length + n) cap) w' ∧ L.Mine w' B (.slice A (xs.length + n) cap) (xs ++ ys) ∧ w.grownBy w' v.ownBlock ∧ (∀ k, (Value.slice A (xs.length + n) cap).ownBlock = some k → v.ownBlock = some k ∨ w.heap.size ≤ k) := by
 obtain ⟨i0, hi0, hz0, hz1, hz2⟩ := info_parts K.info
 have hs' : Src P i0.size tx x n (L.vs ys) w := by rw [hz1]; exact hs
 have hml : (xs ++ ys).length = xs.length + n := by simp [hn]
 have grow : ∀ (A : Option Addr) (c : Nat), v = .slice A xs.length c → c < xs.length + n →
   ∃ A cap w', (Builtin.append_ #[t, tx] ty #[v, x]).run P w = .ok (.slice A (xs.length + n) cap) w' ∧ L.Mine w' B (.slice A (xs.length + n) cap) (xs ++ ys) ∧ w.grownBy w' v.ownBlock ∧ (∀ k, (Value.slice A (xs.length + n) cap).ownBlock = some k → v.ownBlock = some k ∨ w.heap.size ≤ k) := by
  intro A c hv hc
  have hf : (Builtin.firstCells i0.size xs.length v).run P w.drew = .ok (L.vs xs).toArray w.drew := by
   rw [hz1]
   exact Lies.Slice.first (show L.Slice w.drew v xs from h.slice)
  rw [hv] at hf
  have hr := run_append_grow_src (P := P) w t tx ty L.e i0 zv K.ht hi0 hz0 A xs.length c (L.vs xs) hf x n (L.vs ys) hs' hc (by omega) (by rw [hz2]; exact growslice_fits hc (Nat.le_trans (Nat.mul_le_mul hm K.bts) (by decide)))
  have hge := grownCap_ge w (xs.length + n) c L.e
  have hcm : grownCap w (xs.length + n) c L.e ≤ maxLen := grownCap_le_maxLen w (xs.length + n) c L.e (by unfold maxLen; omega)
  refine ⟨_, _, _, by rw [hv]; exact hr, .inr ⟨w.heap.size, 0, _, _, by rw [hml], hB, heap_alloc_new w.drew _, by rw [hml]; exact hge, hcm, ?_, ?_⟩, ⟨rfl, rfl, rfl, by simp, fun k hk _ => (heap_alloc_old w.drew _ hk : _)⟩, fun k hk => .inr ?_⟩
  ·simp only [Array.size_append, List.size_toArray, size_zeroCells, List.length_append, L.vs_len, K.zs, hn, Nat.zero_add]
   rw [← Nat.add_mul, ← Nat.add_mul, show xs.length + n + (grownCap w (xs.length + n) c L.e - (xs.length + n)) = grownCap w (xs.length + n) c L.e by omega]
   exact Nat.le_refl _
  ·rw [hml, L.vs_app, List.drop_zero]
   simp only [Array.toList_append]
   rw [show (xs.length + n) * L.c = (L.vs xs ++ L.vs ys).length by rw [List.length_append, L.vs_len, L.vs_len, hn, Nat.add_mul]]
   exact List.take_left
  ·simp only [Value.ownBlock, Option.some.injEq] at hk
   omega
 rcases h with ⟨rfl, rfl⟩ | ⟨g, off, cap, cur, rfl, hg, hh, h1, h2, h3, h4⟩
 ·by_cases h0 : n = 0
  ·subst h0
   refine ⟨none, 0, w, ?_, .inl ⟨rfl, by simpa using hn⟩, ⟨rfl, rfl, rfl, Nat.le_refl _, fun _ _ _ => rfl⟩, fun k hk => by cases hk⟩
   rcases hs'.kind with ⟨e', hk⟩ | hk <;> simp [Builtin.append_, run_underlying K.ht, run_underlying hk, sizeOf, typeInfo, hi0, hs'.len, hs'.cells]
  ·exact grow none 0 rfl (by simp; omega)
 ·by_cases hroom : xs.length + n ≤ cap
  ·have hle : off + xs.length * L.c + (L.vs ys).length ≤ cur.size := by
    rw [L.vs_len, hn, Nat.add_assoc, ← Nat.add_mul]
    exact Nat.le_trans (Nat.add_le_add_left (Nat.mul_le_mul_right _ hroom) _) h3
   have hr := run_append_room_src (P := P) w t tx ty L.e i0 K.ht hi0 g off xs.length cap x n (L.vs ys) hs' hroom
    (fun j hj => by
     rw [hz1, cell_of_row w g _ cur L.e (0, 0) hh, Array.getElem?_eq_getElem (by omega)]
     rfl)
    (fun j hj => by simp [World.frozen?, hh])
   rw [hz1] at hr
   obtain ⟨cur', r1, r2, r3⟩ := sm_at g L.e (L.vs ys) (off + xs.length * L.c) w cur hh hle
   refine ⟨_, cap, _, hr, .inr ⟨g, off, cap, cur', by rw [hml], hg, r1, by omega, h2, by omega, ?_⟩, sm_grown _ _ _ _, fun k hk => .inl hk⟩
   have hsz : cur.toList.length = cur.size := Array.length_toList
   have hlo : off ≤ (cur.toList.take (off + xs.length * L.c)).length := by rw [List.length_take, hsz]; omega
   rw [hml, L.vs_app, r3, List.append_assoc, List.drop_append_of_le_length hlo, List.drop_take, show off + xs.length * L.c - off = xs.length * L.c by omega, h4, ← List.append_assoc,
    show (xs.length + n) * L.c = (L.vs xs ++ L.vs ys).length by rw [List.length_append, L.vs_len, L.vs_len, hn, Nat.add_mul]]
   exact List.take_left
  ·exact grow _ _ rfl (by omega)
theorem wp_puts {o : Oper} {a : Act} {K : Act → World → Prop} {Q : Exit → Act → World → Prop} (N : Kn P L t zv bt) (s x : Operand) (tx : TypeId)
  (ho : o.op = .call { callee := .builtin .append, args := #[s, x], argTypes := #[t, tx] }) (hv : a.eval s = v) (h : L.Mine w B v xs) (hB : B ≤ w.heap.size)
  (xv : Value) (ys : List α) (n : Nat) (hn : ys.length = n) (hx : a.eval x = xv) (hs : Src P L.c tx xv n (L.vs ys) w) (hm : xs.length + n ≤ 1000000)
  (hK : ∀ A cap w', L.Mine w' B (.slice A (xs.length + n) cap) (xs ++ ys) → w.grownBy w' v.ownBlock → (∀ k, (Value.slice A (xs.length + n) cap).ownBlock = some k → v.ownBlock = some k ∨ w.heap.size ≤ k) → K (a.put o.dst (.slice A (xs.length + n) cap)) w') : o.wp P a w K Q := by
 obtain ⟨A, cap, w', hr, h1, h2, h3⟩ := h.put N o.type tx hB xv n hn hs hm
 unfold Oper.wp execOp
 simp only [ho, resolve, invoke, builtin, Sem.run_bind, Sem.run_pure, Result.andThen_ok, List.map_toArray, List.map_cons, List.map_nil, hv, hx, hr]
 exact hK A cap w' h1 h2 h3
theorem wpList_puts {ops : Array Oper} {rest : List Oper} {o : Oper} {a : Act} {Q : Exit → Act → World → Prop} (hgd : o.guard = none) (N : Kn P L t zv bt) (s x : Operand) (tx : TypeId)
  (ho : o.op = .call { callee := .builtin .append, args := #[s, x], argTypes := #[t, tx] }) (hv : a.eval s = v) (h : L.Mine w B v xs) (hB : B ≤ w.heap.size)
  (xv : Value) (ys : List α) (n : Nat) (hn : ys.length = n) (hx : a.eval x = xv) (hs : Src P L.c tx xv n (L.vs ys) w) (hm : xs.length + n ≤ 1000000)
  (hK : ∀ A cap w', L.Mine w' B (.slice A (xs.length + n) cap) (xs ++ ys) → w.grownBy w' v.ownBlock → (∀ k, (Value.slice A (xs.length + n) cap).ownBlock = some k → v.ownBlock = some k ∨ w.heap.size ≤ k) → wpList P ops Q rest (a.put o.dst (.slice A (xs.length + n) cap)) w') : wpList P ops Q (o :: rest) a w :=
 wpList_plain hgd fun _ hK' => wp_puts N s x tx ho hv h hB xv ys n hn hx hs hm (fun A cap w' h1 h2 h3 => hK' _ _ (hK A cap w' h1 h2 h3))
theorem index_any (N : Kn P L t zv bt) (hc : L.c ≠ 0) {b off len cap i : Nat} (hi : i < len) (w : World) : (Instr.indexAt t (.slice (some ⟨b, off, none⟩) len cap) (.int .i64 (i : Int))).run P w = .ok (.pointer (some ⟨b, off + i * L.c, none⟩)) w := by
 obtain ⟨i0, hi0, hz0, hz1, hz2⟩ := info_parts N.info
 have h1 : (0 : Int) ≤ (i : Int) ∧ (i : Int) < (len : Int) := by omega
 simp [Instr.indexAt, asIntOf, run_underlying N.ht, sizeOf, typeInfo, hi0, hz1, h1, Addr.add_lit]
 intro h
 omega
theorem Lies.Mine.there {g off cap n : Nat} (h : L.Mine w B (.slice (some ⟨g, off, none⟩) n cap) xs) {i : Nat} (hi : i < xs.length) : w.there g (off + i * L.c) L.c := by
 rcases h with ⟨hv, _⟩ | ⟨g', off', cap', cur, hv, hg, hh, h1, h2, h3, h4⟩
 ·cases hv
 ·injection hv with e1 e2 e3
  injection e1 with e1
  injection e1 with e4 e5 _
  subst e4 e5 e3
  intro j hj
  have : off + i * L.c + j < cur.size := by
   have : (i + 1) * L.c ≤ cap * L.c := Nat.mul_le_mul_right _ (by omega)
   rw [Nat.succ_mul] at this
   omega
  exact ⟨by rw [cell_of_row w g _ cur _ _ hh, Array.getElem?_eq_getElem this]; rfl, by simp [World.frozen?, hh]⟩
theorem Lies.vs_set (L : Lies α) (xs : List α) (i : Nat) (x : α) (hi : i < xs.length) : L.vs (xs.set i x) = (L.vs xs).take (i * L.c) ++ L.cl x ++ (L.vs xs).drop ((i + 1) * L.c) := by
 rw [L.vs_take, L.vs_drop, ← L.vs_sing x, ← L.vs_app, ← L.vs_app, List.set_eq_take_append_cons_drop, if_pos hi]
 simp
theorem Lies.Mine.set {g off cap n : Nat} (h : L.Mine w B (.slice (some ⟨g, off, none⟩) n cap) xs) {i : Nat} (hi : i < xs.length) (x : α) : L.Mine (w.setCells g (off + i * L.c) (L.cl x)) B (.slice (some ⟨g, off, none⟩) n cap) (xs.set i x) := by
 rcases h with ⟨hv, _⟩ | ⟨g', off', cap', cur, hv, hg, hh, h1, h2, h3, h4⟩
 ·cases hv
 ·injection hv with e1 e2 e3
  injection e1 with e1
  injection e1 with e4 e5 _
  subst e4 e5 e3
  have hle : (i + 1) * L.c ≤ xs.length * L.c := Nat.mul_le_mul_right _ (by omega)
  have hle2 : xs.length * L.c ≤ cap * L.c := Nat.mul_le_mul_right _ h1
  rw [Nat.succ_mul] at hle
  obtain ⟨cur', r1, r2, r3⟩ := sm_at g L.e (L.cl x) (off + i * L.c) w cur hh (by rw [L.len]; omega)
  refine .inr ⟨g, off, cap, cur', by rw [e2, List.length_set], hg, r1, by rw [List.length_set]; exact h1, h2, by omega, ?_⟩
  have hsz : cur.toList.length = cur.size := Array.length_toList
  have hlo : off ≤ (cur.toList.take (off + i * L.c)).length := by rw [List.length_take, hsz]; omega
  rw [List.length_set, L.vs_set xs i x hi, ← h4, r3, List.append_assoc, List.drop_append_of_le_length hlo, List.drop_take, show off + i * L.c - off = i * L.c by omega, L.len, List.take_take, Nat.min_eq_left (by omega), ← List.append_assoc]
  have hl1 : ((cur.toList.drop off).take (i * L.c) ++ L.cl x).length = (i + 1) * L.c := by rw [List.length_append, L.len, List.length_take, List.length_drop, hsz, Nat.succ_mul]; omega
  rw [List.take_append, List.take_of_length_le (by rw [hl1, Nat.succ_mul]; exact hle), hl1, List.drop_take, List.drop_drop]
  rw [show off + i * L.c + L.c = off + (i + 1) * L.c by rw [Nat.succ_mul]; omega]
theorem slice_high (N : Kn P L t zv bt) (A : Option Addr) (n cap k : Nat) (hk : k ≤ cap) (w : World) : (Instr.sliceAt t (.slice A n cap) none (some (.int .i64 (k : Int))) none).run P w = .ok (sliced A 0 k cap L.c) w := by
 obtain ⟨i0, hi0, hz0, hz1, hz2⟩ := info_parts N.info
 have he : P.elem t = L.e := by simp [Program.elem, N.ht]
 have ht : P.underlying t = some (.slice (P.elem t)) := by rw [he]; exact N.ht
 rw [run_sliceAt_slice w t _ _ _ _ ht, run_slice_h w t A n cap ht .i64 (k : Int) (by omega) (by omega), he]
 simp [sizeOf, typeInfo, hi0, hz1]
theorem slice_low (N : Kn P L t zv bt) (A : Option Addr) (n cap l : Nat) (hl : l ≤ n) (w : World) : (Instr.sliceAt t (.slice A n cap) (some (.int .i64 (l : Int))) none none).run P w = .ok (sliced A l n cap L.c) w := by
 obtain ⟨i0, hi0, hz0, hz1, hz2⟩ := info_parts N.info
 have he : P.elem t = L.e := by simp [Program.elem, N.ht]
 have ht : P.underlying t = some (.slice (P.elem t)) := by rw [he]; exact N.ht
 rw [run_sliceAt_slice w t _ _ _ _ ht, run_slice_l w t A n cap ht .i64 (l : Int) (by omega) (by omega), he]
 simp [sizeOf, typeInfo, hi0, hz1]
theorem slice_both (N : Kn P L t zv bt) (A : Option Addr) (n cap l k : Nat) (hl : l ≤ k) (hk : k ≤ cap) (w : World) : (Instr.sliceAt t (.slice A n cap) (some (.int .i64 (l : Int))) (some (.int .i64 (k : Int))) none).run P w = .ok (sliced A l k cap L.c) w := by
 obtain ⟨i0, hi0, hz0, hz1, hz2⟩ := info_parts N.info
 have he : P.elem t = L.e := by simp [Program.elem, N.ht]
 have ht : P.underlying t = some (.slice (P.elem t)) := by rw [he]; exact N.ht
 rw [run_sliceAt_slice w t _ _ _ _ ht, run_slice_lh w t A n cap ht .i64 .i64 (l : Int) (k : Int) (by omega) (by omega) (by omega), he]
 simp [sizeOf, typeInfo, hi0, hz1]
end
end Go.Proofs.YtnnapkakbdpkaaaGreat

namespace Go.Proofs.YtnnapkakbdpkaaaGreat
set_option maxRecDepth 20000
open Go.RowKit
def LT : Lies ByteArray := ⟨9, 1, fun x => [.string x], fun _ => rfl, fun x u hu => by
 simp only [List.mem_cons, List.not_mem_nil, or_false] at hu
 subst hu; rfl⟩
theorem knT : Kn Tryz.prog LT 50 (.string ⟨#[]⟩) 16 := ⟨Tryz.underlying50, by kernel_rfl, rfl, by decide⟩
structure EvV where
 ev : Ev
 A : Option Addr
 cap : Nat
def EvV.pv (x : EvV) : Value := .slice x.A x.ev.parents.length x.cap
def EvV.cells (x : EvV) : List Value := [.string x.ev.id, .string x.ev.room, x.pv, .string x.ev.thread, .string x.ev.user, .int .i64 x.ev.does]
def EvV.val (x : EvV) : Value := .agg #[.string x.ev.id, .string x.ev.room, x.pv, .string x.ev.thread, .string x.ev.user, .int .i64 x.ev.does]
def LV : Lies EvV := ⟨52, 6, EvV.cells, fun _ => rfl, fun x u hu => by
 simp only [EvV.cells, EvV.pv, List.mem_cons, List.not_mem_nil, or_false] at hu
 rcases hu with rfl | rfl | rfl | rfl | rfl | rfl <;> rfl⟩
theorem knV : Kn Tryz.prog LV 40 (.agg #[.string ⟨#[]⟩, .string ⟨#[]⟩, .slice none 0 0, .string ⟨#[]⟩, .string ⟨#[]⟩, .int .i64 0]) 96 := ⟨Tryz.underlying40, by kernel_rfl, rfl, by decide⟩
def EvV.at (x : EvV) (w : World) : Prop := LT.Slice w x.pv x.ev.parents ∧ x.ev.ok
theorem EvV.at.below {x : EvV} {w w' : World} (h : x.at w) (hb : Below w.heap.size w w') : x.at w' := ⟨h.1.below hb, h.2⟩
def EvsS (w : World) (v : Value) (xs : List EvV) : Prop := LV.Slice w v xs ∧ ∀ x ∈ xs, x.at w
theorem EvsS.below {w w' : World} {v : Value} {xs : List EvV} (h : EvsS w v xs) (hb : Below w.heap.size w w') : EvsS w' v xs := ⟨h.1.below hb, fun x hx => (h.2 x hx).below hb⟩
theorem EvsS.drewN {w : World} {v : Value} {xs : List EvV} (h : EvsS w v xs) (n : Nat) : EvsS (w.drewN n) v xs := h.below ⟨rfl, rfl, rfl, Nat.le_refl _, fun _ _ => rfl⟩
abbrev evs (xs : List EvV) : List Ev := xs.map EvV.ev
theorem text_at {w : World} {A : Option Addr} {n cap i : Nat} {xs : List ByteArray} {x : ByteArray} (h : LT.Slice w (.slice A n cap) xs) (hi : xs[i]? = some x) : ∃ b off, A = some ⟨b, off, none⟩ ∧ b < w.heap.size ∧ w.cell? ⟨b, off + i, none⟩ = some (.string x) := by
 obtain ⟨b, off, hA, hb, hr⟩ := h.at hi
 refine ⟨b, off, hA, hb, ?_⟩
 have := hr 0 _ rfl
 simpa [LT] using this
theorem ev_cells {w : World} {b o : Nat} {x : EvV} (h : w.rangeAt b o x.cells) : w.cell? ⟨b, o, none⟩ = some (.string x.ev.id) ∧ w.cell? ⟨b, o + 1, none⟩ = some (.string x.ev.room) ∧ w.cell? ⟨b, o + 2, none⟩ = some x.pv ∧ w.cell? ⟨b, o + 3, none⟩ = some (.string x.ev.thread) ∧ w.cell? ⟨b, o + 4, none⟩ = some (.string x.ev.user) ∧ w.cell? ⟨b, o + 5, none⟩ = some (.int .i64 x.ev.does) :=
 ⟨h 0 _ rfl, h 1 _ rfl, h 2 _ rfl, h 3 _ rfl, h 4 _ rfl, h 5 _ rfl⟩
theorem ev_at {w : World} {A : Option Addr} {n cap i : Nat} {xs : List EvV} {x : EvV} (h : EvsS w (.slice A n cap) xs) (hi : xs[i]? = some x) : ∃ b off, A = some ⟨b, off, none⟩ ∧ b < w.heap.size ∧ w.rangeAt b (off + i * 6) x.cells := h.1.at hi
theorem box_new {w : World} (cs : Array Value) (t : TypeId) : (w.alloc (.cells cs t)).heap[w.heap.size]? = some (.cells cs t (0, 0)) := heap_alloc_new w _
theorem lit_slice {α : Type} {L : Lies α} (w : World) (x : α) (B : Nat) (hB : B = w.heap.size) (cs : Array Value) (hc : cs.toList = L.cl x) : L.Slice (w.alloc (.cells cs L.e)) (.slice (some ⟨B, 0, none⟩) 1 1) [x] := by
 subst hB
 refine ⟨_, 1, rfl, Nat.le_refl _, by unfold maxLen; omega, (fun e => by cases e), fun _ => ⟨_, 0, rfl, by simp, fun j u hu => ?_⟩⟩
 rw [Nat.zero_add, cell_of_row _ _ _ _ _ _ (heap_alloc_new w _), ← Array.getElem?_toList, hc]
 rw [L.vs_sing] at hu
 exact hu
end Go.Proofs.YtnnapkakbdpkaaaGreat

namespace Go.Proofs.YtnnapkakbdpkaaaGreat
set_option maxRecDepth 20000
open Go.RowKit
theorem evs_get {xs : List EvV} {i : Nat} {x : EvV} (h : xs[i]? = some x) : (evs xs)[i]? = some x.ev := by simp [evs, h]
theorem evs_of {xs : List EvV} {i : Nat} {y : Ev} (h : (evs xs)[i]? = some y) : ∃ x, xs[i]? = some x ∧ x.ev = y := by
 simp only [evs, List.getElem?_map, Option.map_eq_some_iff] at h
 exact h
theorem idxI_some {l : List Ev} {k : ByteArray} {i : Nat} (h : idx l k = some i) : idxI l k = (i : Int) := by simp [idxI, h]
theorem idxI_none {l : List Ev} {k : ByteArray} (h : idx l k = none) : idxI l k = -1 := by simp [idxI, h]
theorem refAt_any (room key : ByteArray) (v : Value) (xs : List EvV) (w : World) (h : EvsS w v xs) :
  Calls Tryz.prog 64 #[.agg #[.string room, v], .string key] w fun e w' => e = .returned (.int .i64 (idxI (evs xs) key)) ∧ ∃ q os, w' = Sort.grow (w.drewN q) os := by
 have hl := h.1.len
 have h0 := h.1
 obtain ⟨A, cap, rfl, h1, h2, h3, h4⟩ := h0
 unfold maxLen at hl h2
 have hb := below_new w (.cells #[.string room, .slice A xs.length cap] 93)
 have HB := Lib.hid (box_new (w := w) #[.string room, .slice A xs.length cap] 93)
 have H := Lib.hid (h.below hb)
 clear h h1 h3 h4 hb
 go_enter Tryz.func64, Tryz.ntmps64
 go_wp2_with fail
 generalize hw1 : w.alloc _ = w1 at HB H ⊢
 have HW : Hid (∃ q os, w1 = Sort.grow (w.drewN q) os) := Lib.hid ⟨0, _, by rw [← hw1, Sort.alloc_eq_grow]; rfl⟩
 clear hw1
 generalize w.heap.size = B at HB ⊢
 have c1 : w1.cell? ⟨B, 1, none⟩ = some (.slice A xs.length cap) := cell_at HB.out 1
 go_loop [5] (fun i => ∃ j : Nat, j ≤ xs.length ∧ i = .int .i64 (j : Int) ∧ Hid (∀ (a : Nat) y, a < j → (evs xs)[a]? = some y → y.id ≠ key)) (fun i => xs.length - (intOf i).toNat)
 case atStart => exact ⟨0, by omega, rfl, Lib.hid (fun a y ha _ => by omega)⟩
 case round =>
  obtain ⟨j, hj, rfl, HJ⟩ := hrel
  by_cases hlt : j < xs.length
  ·have q1 : decide ((j : Int) < (xs.length : Int)) = true := decide_eq_true (by omega)
   have hx : xs[j]? = some xs[j] := List.getElem?_eq_getElem hlt
   generalize xs[j] = x at hx
   obtain ⟨b, off, rfl, hb, hr⟩ := ev_at H.out hx
   obtain ⟨d0, _⟩ := ev_cells hr
   have hi := index_any (P := Tryz.prog) knV (by decide) (b := b) (off := off) (cap := cap) hlt
   have Hx := Lib.hid (evs_get hx)
   clear hx hr
   simp only [LV] at hi
   by_cases hk : x.ev.id = key
   ·have q2 : (x.ev.id.toList == key.toList) = true := by rw [keyB]; exact decide_eq_true hk
    have HE := Lib.hid (idx_hit Hx.out hk HJ.out)
    replace hk := Lib.hid hk
    go_wp2_with fail
    go_ret
    rw [idxI_some HE.out]
    exact ⟨rfl, HW.out⟩
   ·have q2 : (x.ev.id.toList == key.toList) = false := by rw [keyB]; exact decide_eq_false hk
    have HJ2 : Hid (∀ (a : Nat) y, a < j + 1 → (evs xs)[a]? = some y → y.id ≠ key) := Lib.hid (fun a y ha hy => by
     by_cases haj : a < j
     ·exact HJ.out a y haj hy
     ·obtain rfl : a = j := by omega
      rw [Hx.out] at hy
      injection hy with hy
      rw [← hy]
      exact hk)
    replace hk := Lib.hid hk
    go_wp2_with fail
    refine ⟨⟨j + 1, by omega, by go_num, HJ2⟩, ?_⟩
    simp [intOf]; omega
  ·have q1 : decide ((j : Int) < (xs.length : Int)) = false := decide_eq_false (by omega)
   have HE := Lib.hid (idx_miss (l := evs xs) (id := key) (fun a y hy => HJ.out a y (by have := (List.getElem?_eq_some_iff.1 hy).1; simp [evs] at this; omega) hy))
   go_wp2_with fail
   go_ret
   rw [idxI_none HE.out]
   exact ⟨rfl, HW.out⟩
end Go.Proofs.YtnnapkakbdpkaaaGreat
