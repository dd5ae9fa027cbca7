/-
  What the statements stand on, part ZA27.
-/
import Derived.Test.YtnnapkakbdpkaaaGreatZA26
set_option linter.unusedVariables false
set_option linter.unusedSimpArgs false
namespace Go.Proofs.YtnnapkakbdpkaaaGreat
set_option maxRecDepth 20000
open Go.RowKit
structure QpS (w W : World) (o3 : Array Value) (o4 : Value) (o5 : Array Value) (g3 g4 g5 g6 : Nat) : Prop where
 below : Below w.heap.size w W
 b3 : W.heap[g3]? = some (.cells o3 36 (0, 0))
 b4 : W.heap[g4]? = some (.cells #[o4] 39 (0, 0))
 b5 : W.heap[g5]? = some (.cells o5 43 (0, 0))
 b6 : ∃ X : Array Value, X.size = 4 ∧ W.heap[g6]? = some (.cells X 36 (0, 0))
theorem QpS.later {w W W' : World} {o3 : Array Value} {o4 : Value} {o5 : Array Value} {g3 g4 g5 g6 : Nat} (h : QpS w W o3 o4 o5 g3 g4 g5 g6) (hb : Below W.heap.size W W') : QpS w W' o3 o4 o5 g3 g4 g5 g6 := by
 obtain ⟨X, hX, h6⟩ := h.b6
 exact ⟨h.below.trans (hb.mono h.below.size), (hb.block _ (smem_lt h.b3)).trans h.b3, (hb.block _ (smem_lt h.b4)).trans h.b4, (hb.block _ (smem_lt h.b5)).trans h.b5, ⟨X, hX, (hb.block _ (smem_lt h6)).trans h6⟩⟩
theorem QpS.start (w : World) (o3 : Array Value) (o4 : Value) (o5 X : Array Value) (hX : X.size = 4) :
  QpS w ((((w.alloc (.cells o3 36)).alloc (.cells #[o4] 39)).alloc (.cells o5 43)).alloc (.cells X 36)) o3 o4 o5 w.heap.size (w.heap.size + 1) (w.heap.size + 1 + 1) (w.heap.size + 1 + 1 + 1) := by
 have e1 := heap_alloc_new w (.cells o3 36)
 have s1 := size_alloc1 w (.cells o3 36)
 have b1 := below_new w (.cells o3 36)
 generalize w.alloc (.cells o3 36) = w1 at *
 have e2 := heap_alloc_new w1 (.cells #[o4] 39)
 have s2 := size_alloc1 w1 (.cells #[o4] 39)
 have b2 := b1.trans ((below_new w1 (.cells #[o4] 39)).mono (by omega))
 have e1 := heap_push w1 (.cells #[o4] 39) e1
 generalize w1.alloc (.cells #[o4] 39) = w2 at *
 have e3 := heap_alloc_new w2 (.cells o5 43)
 have s3 := size_alloc1 w2 (.cells o5 43)
 have b3 := b2.trans ((below_new w2 (.cells o5 43)).mono (by omega))
 have e1 := heap_push w2 (.cells o5 43) e1
 have e2 := heap_push w2 (.cells o5 43) e2
 generalize w2.alloc (.cells o5 43) = w3 at *
 have e4 := heap_alloc_new w3 (.cells X 36)
 have b4 := b3.trans ((below_new w3 (.cells X 36)).mono (by omega))
 have e1 := heap_push w3 (.cells X 36) e1
 have e2 := heap_push w3 (.cells X 36) e2
 have e3 := heap_push w3 (.cells X 36) e3
 rw [show w1.heap.size = w.heap.size + 1 by omega] at e2
 rw [show w2.heap.size = w.heap.size + 1 + 1 by omega] at e3
 rw [show w3.heap.size = w.heap.size + 1 + 1 + 1 by omega] at e4
 exact ⟨b4, e1, e2, e3, ⟨X, hX, e4⟩⟩
end Go.Proofs.YtnnapkakbdpkaaaGreat

namespace Go.Proofs.YtnnapkakbdpkaaaGreat
set_option maxRecDepth 20000
open Go.RowKit
def LRK : Lies Rk := ⟨87, 4, Rk.cells, fun _ => rfl, fun k u hu => by
 unfold Rk.cells at hu
 simp only [List.mem_cons, List.not_mem_nil, or_false] at hu
 rcases hu with rfl | rfl | rfl | rfl <;> rfl⟩
theorem knRK : Kn Tryz.prog LRK 59 (.agg #[.string ⟨#[]⟩, .string ⟨#[]⟩, .string ⟨#[]⟩, .bool false]) 56 := ⟨Tryz.underlying59, by kernel_rfl, rfl, by decide⟩
end Go.Proofs.YtnnapkakbdpkaaaGreat

namespace Go.Proofs.YtnnapkakbdpkaaaGreat
set_option maxRecDepth 20000
open Go.RowKit
def foldE (V : Vw) (rs : List Edu) : List Mk := foldM [] ((rs.filter (fun e => decide (fitV V e = 0))).map (markE V))
structure FoP (w wr : World) (u : Value) (g2 : Nat) (vt : Value) (l : List Mk) : Prop where
 below : Below w.heap.size w wr
 b2 : wr.heap[g2]? = some (.cells #[u] 39 (0, 0))
 row : LM.Slice wr vt l
theorem pos_info : (Tryz.prog.info? 83).map (·.size) = some 2 := by kernel_rfl
theorem one2 (d : Int) (i : ByteArray) : (#[.int .i64 d, .string i] : Array Value).all (·.oneCell') = true := by simp [Value.oneCell']
theorem FoP.later {w wr w2 : World} {u : Value} {g2 : Nat} {vt : Value} {l : List Mk} (h : FoP w wr u g2 vt l) (hb : Below wr.heap.size wr w2) : FoP w w2 u g2 vt l :=
 ⟨h.below.trans (hb.mono h.below.size), (hb.block _ (smem_lt h.b2)).trans h.b2, h.row.below hb⟩
end Go.Proofs.YtnnapkakbdpkaaaGreat

namespace Go.Proofs.YtnnapkakbdpkaaaGreat
set_option maxRecDepth 20000
open Go.RowKit
section
variable {C : Dags} {w w' wr : World} {vs vs' : List VI} {ts ts' ms : List Th} {t t' m m' : Th} {i : Nat}
theorem Kv.turnTh {us : List Th} (h : Kv C w wr vs ts) (ht : TurnP t.P wr w') (hm : t ∈ ts) (hlo : ∀ k, t.P k → w.heap.size ≤ k) (hu : ∀ u ∈ us, (u ∈ ts ∧ ∀ k, t.P k → ¬ u.P k) ∨ (u.I w' ∧ ∀ k, u.P k → t.P k ∨ wr.heap.size ≤ k)) : Kv C w w' vs us := by
 have hne : ∀ (j : Nat) v, vs[j]? = some v → ∀ k, v.own C wr k → ¬ t.P k := fun j v hv k hk hp => (h.th t hm).2 j v hv k hp hk
 have hk : ∀ (j : Nat) v, vs[j]? = some v → CVs C w' v ∧ ∀ k, v.own C w' k → v.own C wr k := fun j v hv => (h.cv hv).keep ht.size (fun k hk => ht.block k ((h.cv hv).old hk) (hne j v hv k hk))
 refine ⟨h.below.trans (ht.below hlo h.below.size), fun j v hv => ⟨(hk j v hv).1, fun k ho => (h.vw j v hv).2 k ((hk j v hv).2 k ho)⟩, fun j j' v v' hv hv' hne k k1 k2 => h.off j j' v v' hv hv' hne k ((hk j v hv).2 k k1) ((hk j' v' hv').2 k k2), fun u hu' => ?_⟩
 rcases hu u hu' with ⟨h1, h2⟩ | ⟨h1, h2⟩
 ·exact ⟨u.st wr w' (h.is h1) ht.size (fun k hk hp => ht.block k hk (fun hq => h2 k hq hp)), fun j v hv k hp ho => (h.th u h1).2 j v hv k hp ((hk j v hv).2 k ho)⟩
 ·refine ⟨h1, fun j v hv k hp ho => ?_⟩
  have h3 := (hk j v hv).2 k ho
  rcases h2 k hp with hh | hh
  ·exact hne j v hv k h3 hh
  ·have := (h.cv hv).old h3; omega
structure Km (C : Dags) (w wr : World) (vs : List VI) (ms ts : List Th) : Prop where
 kv : Kv C w wr vs (ms ++ ts)
 lo : ∀ m ∈ ms, ∀ k, m.P k → w.heap.size ≤ k
 dj : ∀ (i j : Nat) a b, ms[i]? = some a → ms[j]? = some b → i ≠ j → ∀ k, a.P k → ¬ b.P k
 dt : ∀ m ∈ ms, ∀ t ∈ ts, ∀ k, m.P k → ¬ t.P k
theorem Km.start (w : World) : Km C w w [] [] [] := ⟨Kv.start w, fun m hm => (by cases hm), fun i j a b h => (by simp at h), fun m hm => (by cases hm)⟩
theorem Km.isM (h : Km C w wr vs ms ts) (hi : ms[i]? = some m) : m.I wr := h.kv.is (List.mem_append_left _ (List.mem_of_getElem? hi))
theorem Km.isT (h : Km C w wr vs ms ts) (ht : t ∈ ts) : t.I wr := h.kv.is (List.mem_append_right _ ht)
theorem Km.below (h : Km C w wr vs ms ts) : Below w.heap.size w wr := h.kv.below
theorem Km.later (h : Km C w wr vs ms ts) (hb : Below wr.heap.size wr w') : Km C w w' vs ms ts := ⟨h.kv.later hb, h.lo, h.dj, h.dt⟩
theorem Km.less (h : Km C w wr vs ms ts) (hs : ∀ t ∈ ts', t ∈ ts) : Km C w wr vs ms ts' :=
 ⟨h.kv.less (fun t ht => by
  rcases List.mem_append.1 ht with ht | ht
  ·exact List.mem_append_left _ ht
  ·exact List.mem_append_right _ (hs t ht)), h.lo, h.dj, fun m hm t ht => h.dt m hm t (hs t ht)⟩
theorem Km.ofKv (h : Km C w wr vs ms ts) (hk : Kv C w w' vs' (ms ++ ts)) : Km C w w' vs' ms ts := ⟨hk, h.lo, h.dj, h.dt⟩
theorem Km.add (h : Km C w wr vs ms ts) (hb : Below wr.heap.size wr w') (hI : t.I w') (hP : ∀ k, t.P k → wr.heap.size ≤ k ∨ ∃ u ∈ ts, u.P k) : Km C w w' vs ms (t :: ts) := by
 have hk := h.kv.add hb hI (fun k hk => by
  rcases hP k hk with h1 | ⟨u, hu, h1⟩
  ·exact .inl h1
  ·exact .inr ⟨u, List.mem_append_right _ hu, h1⟩)
 refine ⟨hk.less (fun u hu => ?_), h.lo, h.dj, fun m hm u hu k hmk huk => ?_⟩
 ·rcases List.mem_append.1 hu with hu | hu
  ·exact List.mem_cons_of_mem _ (List.mem_append_left _ hu)
  ·rcases List.mem_cons.1 hu with rfl | hu
   ·exact List.mem_cons_self
   ·exact List.mem_cons_of_mem _ (List.mem_append_right _ hu)
 ·rcases List.mem_cons.1 hu with rfl | hu
  ·rcases hP k huk with h1 | ⟨v, hv, h1⟩
   ·have := m.lt wr k (h.kv.is (List.mem_append_left _ hm)) hmk
    omega
   ·exact h.dt m hm v hv k hmk h1
  ·exact h.dt m hm u hu k hmk huk
theorem Km.with0 (h : Km C w wr vs ms ts) (hI : t.I w) : Km C w wr vs ms (t :: ts) := by
 have hI' := t.st w wr hI h.below.size (fun k hk _ => h.below.block k hk)
 have hk := h.kv.with hI' (fun k hk j v hv ho => by
  have h1 := t.lt w k hI hk
  have h2 := (h.kv.vw j v hv).2 k ho
  omega)
 refine ⟨hk.less (fun u hu => ?_), h.lo, h.dj, fun m hm u hu k hmk huk => ?_⟩
 ·rcases List.mem_append.1 hu with hu | hu
  ·exact List.mem_cons_of_mem _ (List.mem_append_left _ hu)
  ·rcases List.mem_cons.1 hu with rfl | hu
   ·exact List.mem_cons_self
   ·exact List.mem_cons_of_mem _ (List.mem_append_right _ hu)
 ·rcases List.mem_cons.1 hu with rfl | hu
  ·have h1 := u.lt w k hI huk
   have h2 := h.lo m hm k hmk
   omega
  ·exact h.dt m hm u hu k hmk huk
theorem Km.made (h : Km C w wr vs ms ts) (hb : Below wr.heap.size wr w') (hI : m.I w') (hP : ∀ k, m.P k → wr.heap.size ≤ k) : Km C w w' vs (ms ++ [m]) ts := by
 have hk := h.kv.add (t := m) hb hI (fun k hk => .inl (hP k hk))
 have hcase : ∀ (j : Nat) a, (ms ++ [m])[j]? = some a → (ms[j]? = some a ∧ j < ms.length) ∨ (j = ms.length ∧ a = m) := fun j a ha => by
  by_cases hj : j < ms.length
  ·rw [List.getElem?_append_left hj] at ha
   exact .inl ⟨ha, hj⟩
  ·have hl := (List.getElem?_eq_some_iff.1 ha).1
   simp only [List.length_append, List.length_cons, List.length_nil] at hl
   obtain rfl : j = ms.length := by omega
   simp only [List.getElem?_concat_length, Option.some.injEq] at ha
   exact .inr ⟨rfl, ha.symm⟩
 have hold : ∀ a ∈ ms, ∀ k, a.P k → k < wr.heap.size := fun a ha k hk => a.lt wr k (h.kv.is (List.mem_append_left _ ha)) hk
 refine ⟨hk.less (fun u hu => ?_), fun a ha k hka => ?_, fun i j a b hi hj hne k ka kb => ?_, fun a ha u hu k ka ku => ?_⟩
 ·rcases List.mem_append.1 hu with hu | hu
  ·rcases List.mem_append.1 hu with hu | hu
   ·exact List.mem_cons_of_mem _ (List.mem_append_left _ hu)
   ·rw [List.mem_singleton] at hu
    subst hu
    exact List.mem_cons_self
  ·exact List.mem_cons_of_mem _ (List.mem_append_right _ hu)
 ·rcases List.mem_append.1 ha with ha | ha
  ·exact h.lo a ha k hka
  ·rw [List.mem_singleton] at ha
   subst ha
   exact Nat.le_trans h.below.size (hP k hka)
 ·rcases hcase i a hi with ⟨h1, -⟩ | ⟨rfl, rfl⟩
  ·rcases hcase j b hj with ⟨h2, -⟩ | ⟨rfl, rfl⟩
   ·exact h.dj i j a b h1 h2 hne k ka kb
   ·have := hold a (List.mem_of_getElem? h1) k ka
    have := hP k kb
    omega
  ·rcases hcase j b hj with ⟨h2, -⟩ | ⟨rfl, rfl⟩
   ·have := hold b (List.mem_of_getElem? h2) k kb
    have := hP k ka
    omega
   ·exact hne rfl
 ·rcases List.mem_append.1 ha with ha | ha
  ·exact h.dt a ha u hu k ka ku
  ·rw [List.mem_singleton] at ha
   subst ha
   have := u.lt wr k (h.isT hu) ku
   have := hP k ka
   omega
theorem Km.turn (h : Km C w wr vs ms ts) (hi : ms[i]? = some m) (ht : TurnP m.P wr w') (hI : m'.I w') (hP : ∀ k, m'.P k → m.P k ∨ wr.heap.size ≤ k) : Km C w w' vs (ms.set i m') ts := by
 have hmm := List.mem_of_getElem? hi
 have hil := (List.getElem?_eq_some_iff.1 hi).1
 have hcase : ∀ (j : Nat) a, (ms.set i m')[j]? = some a → (j ≠ i ∧ ms[j]? = some a) ∨ (j = i ∧ a = m') := fun j a ha => by
  rw [List.getElem?_set] at ha
  split at ha
  ·rename_i e
   injection ha with ha
   exact .inr ⟨e.symm, ha.symm⟩
  ·rename_i e
   exact .inl ⟨fun e' => e e'.symm, ha⟩
 have hnew : ∀ (j : Nat) a, ms[j]? = some a → j ≠ i → ∀ k, a.P k → ¬ m'.P k := fun j a ha hne k ka km => by
  rcases hP k km with h1 | h1
  ·exact h.dj j i a m ha hi hne k ka h1
  ·have := a.lt wr k (h.isM ha) ka
   omega
 refine ⟨h.kv.turnTh ht (List.mem_append_left _ hmm) (h.lo m hmm) (fun u hu => ?_), fun a ha k hk => ?_, fun j j' a b ha hb hne k ka kb => ?_, fun a ha u hu k ka ku => ?_⟩
 ·rcases List.mem_append.1 hu with hu | hu
  ·obtain ⟨j, hj, he⟩ := List.getElem_of_mem hu
   rcases hcase j u (by rw [List.getElem?_eq_getElem hj, he]) with ⟨h1, h2⟩ | ⟨rfl, rfl⟩
   ·exact .inl ⟨List.mem_append_left _ (List.mem_of_getElem? h2), fun k hk => h.dj i j m u hi h2 (fun e => h1 e.symm) k hk⟩
   ·exact .inr ⟨hI, hP⟩
  ·exact .inl ⟨List.mem_append_right _ hu, fun k hk => h.dt m hmm u hu k hk⟩
 ·obtain ⟨j, hj, he⟩ := List.getElem_of_mem ha
  rcases hcase j a (by rw [List.getElem?_eq_getElem hj, he]) with ⟨h1, h2⟩ | ⟨rfl, rfl⟩
  ·exact h.lo a (List.mem_of_getElem? h2) k hk
  ·rcases hP k hk with h1 | h1
   ·exact h.lo m hmm k h1
   ·exact Nat.le_trans h.below.size h1
 ·rcases hcase j a ha with ⟨h1, h2⟩ | ⟨rfl, rfl⟩
  ·rcases hcase j' b hb with ⟨h3, h4⟩ | ⟨rfl, rfl⟩
   ·exact h.dj j j' a b h2 h4 hne k ka kb
   ·exact hnew j a h2 h1 k ka kb
  ·rcases hcase j' b hb with ⟨h3, h4⟩ | ⟨rfl, rfl⟩
   ·exact hnew j' b h4 h3 k kb ka
   ·exact hne rfl
 ·obtain ⟨j, hj, he⟩ := List.getElem_of_mem ha
  rcases hcase j a (by rw [List.getElem?_eq_getElem hj, he]) with ⟨h1, h2⟩ | ⟨rfl, rfl⟩
  ·exact h.dt a (List.mem_of_getElem? h2) u hu k ka ku
  ·rcases hP k ka with h1 | h1
   ·exact h.dt m hmm u hu k h1 ku
   ·have := u.lt wr k (h.isT hu) ku
    omega
end
def Th.park (B b : Nat) (v : Value) (p : Pk) : Th := ⟨ownP b v, fun w => CPk w B b v p, fun w k h hk => (h.old hk).2, fun w w' h hs hb => h.keep (fun k hk => hb k (h.old hk).2 hk)⟩
section
variable {C : Dags} {w w' wr : World} {vs : List VI} {ts ms : List Th} {i b : Nat} {v v' : Value} {p p' : Pk} {r r' : RI} {x : Mk}
theorem Km.parkK (h : Km C w wr vs ms ts) {B : Nat} (hi : ms[i]? = some (Th.park B b v p)) (hk : PutK wr w' B b v v' p') : Km C w w' vs (ms.set i (Th.park B b v' p')) ts :=
 h.turn hi hk.turn (m' := Th.park B b v' p') hk.pk (fun k hk' => by
  rcases hk' with rfl | hk'
  ·exact .inl (.inl rfl)
  ·rcases hk.own k hk' with h1 | h1
   ·exact .inl (.inr h1)
   ·exact .inr h1)
theorem Km.tabP (h : Km C w wr vs ms ts) (hi : ms[i]? = some (Th.tab r)) (hp : PutP wr w' r x) : ∃ r' : RI, r'.g = r.g ∧ r'.mb = r.mb ∧ r'.l = putM r.l x ∧ Km C w w' vs (ms.set i (Th.tab r')) ts := by
 obtain ⟨r', e1, e2, e3, hc, ht⟩ := hp
 refine ⟨r', e1, e2, e3, h.turn hi ht (m' := Th.tab r') hc (fun k hk => .inl ?_)⟩
 have hk : k = r'.g ∨ k = r'.mb := hk
 rw [e1, e2] at hk
 exact hk
theorem Km.rebox (h : Km C w wr vs ms ts) {g : Nat} {cs cs' : Array Value} {t : TypeId} (hi : ms[i]? = some (Th.box g (.cells cs t (0, 0)))) : Km C w (wr.setRow g cs') vs (ms.set i (Th.box g (.cells cs' t (0, 0)))) ts := by
 have hb : wr.heap[g]? = some (.cells cs t (0, 0)) := h.isM hi
 have hg := grown_setRow wr g cs'
 exact h.turn hi (m' := Th.box g (.cells cs' t (0, 0))) ⟨hg.os, hg.tape, hg.output, hg.size, fun k hk hn => setRow_other wr g k cs' (fun e => hn e)⟩ (setRow_heap wr g cs cs' _ _ hb) (fun k hk => .inl hk)
end
end Go.Proofs.YtnnapkakbdpkaaaGreat

namespace Go.Proofs.YtnnapkakbdpkaaaGreat
set_option maxRecDepth 20000
open Go.RowKit
set_option maxHeartbeats 1600000 in
theorem nkey_any (e : Edu) (he : e.brief) (w : World) : Calls Tryz.prog 55 #[e.val] w fun x w' => x = .returned (keyE e).val ∧ Below w.heap.size w w' := by
 obtain ⟨hr, hu, -, ht⟩ := he
 obtain ⟨k, r, u, z, t, pr, o, s, y, c, m⟩ := e
 simp only [Edu.val, keyE, Rk.val] at hr hu ht ⊢
 obtain ⟨h1, h2, HB, hsz⟩ := at_two (.cells #[.int .i64 k, .string r, .string u, .string z, .string t, .bool pr, .bool o, .int .i64 s, .int .i64 y, .int .i64 c, .int .i64 m] 125) (.cells #[.string ⟨#[]⟩, .string ⟨#[]⟩, .string ⟨#[]⟩, .bool false] 87) (rfl : (w.alloc (.cells #[.int .i64 k, .string r, .string u, .string z, .string t, .bool pr, .bool o, .int .i64 s, .int .i64 y, .int .i64 c, .int .i64 m] 125)).alloc (.cells #[.string ⟨#[]⟩, .string ⟨#[]⟩, .string ⟨#[]⟩, .bool false] 87) = _)
 have h2 := Lib.hid h2
 have HB := Lib.hid HB
 have HO := Lib.hid (fun W => of_any k r u z t pr o s y c m W hr hu ht)
 go_enter Tryz.func55, Tryz.ntmps55
 go_upto_region 1 with (fail)
 generalize World.alloc _ _ = w1 at h1 h2 HB hsz ⊢
 obtain ⟨g2, hg2⟩ : ∃ g, w.heap.size + 1 = g := ⟨_, rfl⟩
 have hlo : w.heap.size ≤ g2 := by omega
 rw [hg2] at h2 ⊢
 obtain ⟨d0, d1, d2, d3, d4, d5, d6, d7, d8, d9, d10⟩ := cells11 h1
 go_wp2_with fail
 refine (HO.out _).mono ?_
 rintro e w2 ⟨rfl, hb⟩
 clear d0 d1 d2 d3 d4 d5 d6 d7 d8 d9 d10 HO h1
 have HX : Hid (w2.heap[g2]? = some (.cells #[.string ⟨#[]⟩, .string ⟨#[]⟩, .string ⟨#[]⟩, .bool false] 87 (0, 0))) := Lib.hid ((hb.block _ (smem_lt h2.out)).trans h2.out)
 have HBB := Lib.hid (HB.out.trans (hb.mono HB.out.size))
 have hlt := smem_lt HX.out
 clear h2 HB hb hsz hg2
 have hn := heap_alloc_new w2 (.cells #[.int .i64 0, .string ⟨#[]⟩, .string ⟨#[]⟩, .string ⟨#[]⟩, .bool false] 166)
 have HN := Lib.hid (below_new w2 (.cells #[.int .i64 0, .string ⟨#[]⟩, .string ⟨#[]⟩, .string ⟨#[]⟩, .bool false] 166))
 go_upto_region 2 with (refine wpList_store_row rfl 166 (.tmp 3) (.tmp 5) rfl w2.heap.size #[.int .i64 k, .string r, .string u, .string t, .bool pr] rfl rfl 166 _ hn ekey_info rfl (one5 _ _ _ _ _) ?_)
 generalize hW3 : World.setRow _ _ _ = W3
 have HY := Lib.hid (setRow_heap _ _ _ #[.int .i64 k, .string r, .string u, .string t, .bool pr] _ _ hn)
 have HBB3 := Lib.hid (HBB.out.trans ((below_setRow HN.out (Nat.le_refl _) #[.int .i64 k, .string r, .string u, .string t, .bool pr]).mono (by have := HBB.out.size; omega)))
 have HX3 : Hid (W3.heap[g2]? = some (.cells #[.string ⟨#[]⟩, .string ⟨#[]⟩, .string ⟨#[]⟩, .bool false] 87 (0, 0))) := Lib.hid (by
  rw [← hW3, setRow_other _ _ _ _ (by omega)]
  exact (HN.out.block _ hlt).trans HX.out)
 rw [hW3] at HY HBB3
 generalize w2.heap.size = g3 at HY ⊢
 clear hW3 hn HN HX HBB hlt
 obtain ⟨c0, c1, c2, c3, c4⟩ := cells5 HY.out
 have HF := Lib.hid (setRow_heap _ _ _ #[.string r, .string u, .string t, .bool pr] _ _ HX3.out)
 have HBF := Lib.hid (below_setRow HBB3.out hlo #[.string r, .string u, .string t, .bool pr])
 go_wp2_with (refine wpList_store_row rfl 87 (.tmp 2) (.tmp 14) rfl g2 #[.string r, .string u, .string t, .bool pr] rfl rfl 87 _ HX3.out rkey_info rfl (one4 _ _ _ _) ?_)
 generalize World.setRow _ _ _ = W4 at HF HBF ⊢
 clear c0 c1 c2 c3 c4
 obtain ⟨e0, e1, e2, e3⟩ := cells4k HF.out
 go_wp2_with fail
 refine bodyPost_ret (v := .agg #[.string r, .string u, .string t, .bool pr]) ?_ rfl ⟨rfl, HBF.out⟩
 simp [results, Tryz.results55, go_sem, e0, e1, e2, e3]
set_option maxHeartbeats 1600000 in
theorem ofM_any (e : Edu) (he : e.brief) (w : World) : Calls Tryz.prog 28 #[e.val] w fun x w' => x = .returned (keyE e).val ∧ Below w.heap.size w w' := by
 have HQ := Lib.hid (fun W => nkey_any e he W)
 obtain ⟨k, r, u, z, t, pr, o, s, y, c, m⟩ := e
 simp only [Edu.val, keyE, Rk.val] at HQ ⊢
 obtain ⟨h1, h2, HB, hsz⟩ := at_two (.cells #[.int .i64 k, .string r, .string u, .string z, .string t, .bool pr, .bool o, .int .i64 s, .int .i64 y, .int .i64 c, .int .i64 m] 43) (.cells #[.string ⟨#[]⟩, .string ⟨#[]⟩, .string ⟨#[]⟩, .bool false] 87) (rfl : (w.alloc (.cells #[.int .i64 k, .string r, .string u, .string z, .string t, .bool pr, .bool o, .int .i64 s, .int .i64 y, .int .i64 c, .int .i64 m] 43)).alloc (.cells #[.string ⟨#[]⟩, .string ⟨#[]⟩, .string ⟨#[]⟩, .bool false] 87) = _)
 have h2 := Lib.hid h2
 have HB := Lib.hid HB
 clear he
 go_enter Tryz.func28, Tryz.ntmps28
 go_upto_region 1 with (fail)
 generalize World.alloc _ _ = w1 at h1 h2 HB hsz ⊢
 obtain ⟨g2, hg2⟩ : ∃ g, w.heap.size + 1 = g := ⟨_, rfl⟩
 have hlo : w.heap.size ≤ g2 := by omega
 rw [hg2] at h2 ⊢
 obtain ⟨d0, d1, d2, d3, d4, d5, d6, d7, d8, d9, d10⟩ := cells11 h1
 go_wp2_with fail
 go_at_call 55
 refine (HQ.out _).mono ?_
 rintro e w2 ⟨rfl, hb⟩
 clear d0 d1 d2 d3 d4 d5 d6 d7 d8 d9 d10 HQ h1
 have HX : Hid (w2.heap[g2]? = some (.cells #[.string ⟨#[]⟩, .string ⟨#[]⟩, .string ⟨#[]⟩, .bool false] 87 (0, 0))) := Lib.hid ((hb.block _ (smem_lt h2.out)).trans h2.out)
 have HBB := Lib.hid (HB.out.trans (hb.mono HB.out.size))
 clear h2 HB hb hsz hg2
 have HF := Lib.hid (setRow_heap _ _ _ #[.string r, .string u, .string t, .bool pr] _ _ HX.out)
 have HBF := Lib.hid (below_setRow HBB.out hlo #[.string r, .string u, .string t, .bool pr])
 go_wp2_with (refine wpList_store_row rfl 87 (.tmp 2) (.tmp 4) rfl g2 #[.string r, .string u, .string t, .bool pr] rfl rfl 87 _ HX.out rkey_info rfl (one4 _ _ _ _) ?_)
 generalize World.setRow _ _ _ = W4 at HF HBF ⊢
 obtain ⟨e0, e1, e2, e3⟩ := cells4k HF.out
 go_wp2_with fail
 refine bodyPost_ret (v := .agg #[.string r, .string u, .string t, .bool pr]) ?_ rfl ⟨rfl, HBF.out⟩
 simp [results, Tryz.results28, go_sem, e0, e1, e2, e3]
end Go.Proofs.YtnnapkakbdpkaaaGreat

namespace Go.Proofs.YtnnapkakbdpkaaaGreat
set_option maxRecDepth 20000
open Go.RowKit
theorem fit_known {V : Vw} {e : Edu} : fitV V e = 4 ↔ hasE (ofL V e.room) e.event = false := by
 unfold fitV fitsL hasE
 cases h : idx (ofL V e.room) e.event with
 | none => simp
 | some k =>
  obtain ⟨x, hx, -, -⟩ := idx_some h
  simp only [hx]
  constructor
  ·intro h2
   split at h2 <;> omega
  ·intro h2
   cases h2
theorem fit_cases (V : Vw) (e : Edu) : fitV V e = 0 ∨ fitV V e = 4 ∨ fitV V e = 7 := by
 unfold fitV fitsL
 split
 ·exact .inr (.inl rfl)
 ·split
  ·exact .inr (.inl rfl)
  ·split
   ·exact .inl rfl
   ·exact .inr (.inr rfl)
def Ms.tk (s : Ms) (V : Vw) (e : Edu) : Ms := if fitV V e = 0 then ⟨putM s.l (markE V e), s.p⟩ else s
def Ms.tkOn (s : Ms) (V : Vw) (e : Edu) : Bool := decide (fitV V e = 0) && onM s.l (markE V e)
def arrS (V : Vw) (q : Ms × List Edu) (e : Edu) : Ms × List Edu := (q.1.tk V e, bif q.1.tkOn V e then q.2 ++ [e] else q.2)
def arrF (V : Vw) (s : Ms) (ts : List Edu) : Ms × List Edu := ts.foldl (arrS V) (s, [])
def Ms.arr (s : Ms) (V : Vw) (room id : ByteArray) : Ms × List Edu := bif hasE (ofL V room) id then arrF V ⟨s.l, s.p.take room id⟩ (s.p.took room id) else (s, [])
theorem arr_next {V : Vw} {s : Ms} {ts : List Edu} {a : Nat} {x : Edu} (hx : ts[a]? = some x) : arrF V s (ts.take (a + 1)) = arrS V (arrF V s (ts.take a)) x := by
 unfold arrF
 rw [List.take_add_one, hx, List.foldl_append]
 rfl
theorem Ms.arr_no {s : Ms} {V : Vw} {room id : ByteArray} (h : hasE (ofL V room) id = false) : s.arr V room id = (s, []) := by
 unfold Ms.arr
 rw [h]
 rfl
theorem Ms.arr_yes {s : Ms} {V : Vw} {room id : ByteArray} (h : hasE (ofL V room) id = true) : s.arr V room id = arrF V ⟨s.l, s.p.take room id⟩ (s.p.took room id) := by
 unfold Ms.arr
 rw [h]
 rfl
theorem mem_took {p : Pk} {room id : ByteArray} {x : Edu} : x ∈ p.took room id ↔ x ∈ p.l ∧ x.room = room ∧ x.event = id := by
 unfold Pk.took isOf
 rw [List.mem_filter, Bool.and_eq_true, eqT_iff, eqT_iff, decide_eq_true_eq, decide_eq_true_eq]
theorem mem_left {p : Pk} {room id : ByteArray} {x : Edu} : x ∈ (p.take room id).l ↔ x ∈ p.l ∧ ¬ (x.room = room ∧ x.event = id) := by
 unfold Pk.take isOf
 rw [List.mem_filter, Bool.not_eq_true', Bool.eq_false_iff, Ne, Bool.and_eq_true, eqT_iff, eqT_iff, decide_eq_true_eq, decide_eq_true_eq]
theorem took_le (p : Pk) (room id : ByteArray) : (p.took room id).length ≤ p.l.length := List.length_filter_le _ _
theorem on_again {l : List Mk} (hr : RowM l) (m : Mk) : onM (putM l m) m = false := by
 unfold onM
 rw [get_putM hr, if_pos rfl]
 by_cases ho : onM l m = true
 ·rw [if_pos ho]
  exact pos_irrefl _
 ·rw [if_neg ho]
  exact Bool.eq_false_iff.2 ho
theorem on_stays {l : List Mk} (hr : RowM l) {m x : Mk} (h : onM l m = false) : onM (putM l x) m = false := by
 unfold onM at h ⊢
 rw [get_putM hr]
 by_cases hk : m.k = x.k
 ·rw [if_pos hk]
  by_cases ho : onM l x = true
  ·rw [if_pos ho]
   unfold onM at ho
   rw [← hk] at ho
   cases hg : getM l m.k with
   | none => rw [hg] at h; cases h
   | some q =>
    rw [hg] at h ho
    simp only at h ho ⊢
    rw [Bool.eq_false_iff]
    intro hc
    rw [pos_trans ho hc] at h
    cases h
  ·rw [if_neg ho]
   exact h
 ·rw [if_neg hk]
  exact h
structure ArrI (V : Vw) (room id : ByteArray) (q : Ms × List Edu) : Prop where
 row : RowM q.1.l
 got : ∀ y ∈ q.2, onM q.1.l ⟨keyE y, posV V room id⟩ = false
theorem ArrI.start {V : Vw} {room id : ByteArray} {s : Ms} (h : RowM s.l) : ArrI V room id (s, []) := ⟨h, fun y hy => by cases hy⟩
theorem ArrI.step {V : Vw} {room id : ByteArray} {q : Ms × List Edu} {x : Edu} (h : ArrI V room id q) (hr : x.room = room) (he : x.event = id) : ArrI V room id (arrS V q x) := by
 have hmk : markE V x = ⟨keyE x, posV V room id⟩ := by unfold markE; rw [hr, he]
 unfold arrS Ms.tk Ms.tkOn
 by_cases hf : fitV V x = 0
 ·rw [if_pos hf, decide_eq_true hf, Bool.true_and]
  refine ⟨row_putM h.row, fun y hy => ?_⟩
  simp only
  cases ho : onM q.1.l (markE V x)
  ·simp only [ho, cond_false] at hy
   exact on_stays h.row (h.got y hy)
  ·simp only [ho, cond_true] at hy
   rcases List.mem_append.1 hy with hy | hy
   ·exact on_stays h.row (h.got y hy)
   ·rw [List.mem_singleton] at hy
    rw [hy, ← hmk]
    exact on_again h.row _
 ·rw [if_neg hf, decide_eq_false hf, Bool.false_and, cond_false]
  exact h
theorem ArrI.fresh {V : Vw} {room id : ByteArray} {q : Ms × List Edu} {x : Edu} (h : ArrI V room id q) (hr : x.room = room) (he : x.event = id) (ho : q.1.tkOn V x = true) : ∀ y ∈ q.2, keyE y ≠ keyE x := by
 intro y hy hk
 have h1 := h.got y hy
 unfold Ms.tkOn at ho
 rw [Bool.and_eq_true] at ho
 have hmk : markE V x = ⟨keyE x, posV V room id⟩ := by unfold markE; rw [hr, he]
 rw [hmk, ← hk, h1] at ho
 exact absurd ho.2 (by simp)
theorem arrS_park (V : Vw) (q : Ms × List Edu) (e : Edu) : (arrS V q e).1.p = q.1.p := by
 unfold arrS Ms.tk
 split <;> rfl
theorem arrS_len (V : Vw) (q : Ms × List Edu) (e : Edu) : (arrS V q e).1.l.length ≤ q.1.l.length + 1 ∧ (arrS V q e).2.length ≤ q.2.length + 1 := by
 unfold arrS Ms.tk
 refine ⟨?_, ?_⟩
 ·split
  ·exact put_leM _ _
  ·exact Nat.le_succ _
 ·cases Ms.tkOn q.1 V e <;> simp
theorem arrF_len (V : Vw) : ∀ (ts : List Edu) (q : Ms × List Edu), (ts.foldl (arrS V) q).1.p = q.1.p ∧ (ts.foldl (arrS V) q).1.l.length ≤ q.1.l.length + ts.length ∧ (ts.foldl (arrS V) q).2.length ≤ q.2.length + ts.length
 | [], q => ⟨rfl, Nat.le_refl _, Nat.le_refl _⟩
 | x :: r, q => by
  obtain ⟨h1, h2, h3⟩ := arrF_len V r (arrS V q x)
  obtain ⟨h4, h5⟩ := arrS_len V q x
  rw [List.foldl_cons, List.length_cons]
  exact ⟨h1.trans (arrS_park V q x), by omega, by omega⟩
theorem arrF_sub (V : Vw) : ∀ (ts : List Edu) (q : Ms × List Edu), ∀ y ∈ (ts.foldl (arrS V) q).2, y ∈ q.2 ∨ y ∈ ts
 | [], q, y, hy => .inl hy
 | x :: r, q, y, hy => by
  rcases arrF_sub V r (arrS V q x) y hy with h | h
  ·unfold arrS at h
   simp only at h
   cases ho : Ms.tkOn q.1 V x
   ·rw [ho, cond_false] at h
    exact .inl h
   ·rw [ho, cond_true] at h
    rcases List.mem_append.1 h with h | h
    ·exact .inl h
    ·rw [List.mem_singleton.1 h]
     exact .inr List.mem_cons_self
  ·exact .inr (List.mem_cons_of_mem _ h)
theorem arrF_tab (V : Vw) : ∀ (ts : List Edu) (q : Ms × List Edu), (ts.foldl (arrS V) q).1.l = foldM q.1.l ((ts.filter (fun e => decide (fitV V e = 0))).map (markE V))
 | [], q => rfl
 | x :: r, q => by
  rw [List.foldl_cons, arrF_tab V r]
  unfold arrS Ms.tk
  by_cases hf : fitV V x = 0
  ·rw [if_pos hf, List.filter_cons_of_pos (by simp [hf]), List.map_cons]
   rfl
  ·rw [if_neg hf, List.filter_cons_of_neg (by simp [hf])]
end Go.Proofs.YtnnapkakbdpkaaaGreat

namespace Go.Proofs.YtnnapkakbdpkaaaGreat
set_option maxRecDepth 20000
open Go.RowKit
theorem set_is {α : Type} {l : List α} {i : Nat} {a : α} (h : l[i]? = some a) : l.set i a = l := by
 obtain ⟨h1, h2⟩ := List.getElem?_eq_some_iff.1 h
 rw [← h2]
 exact List.set_getElem_self h1
structure Edu.small (e : Edu) : Prop where
 room : e.room.size ≤ 40
 user : e.user.size ≤ 40
 event : e.event.size ≤ 40
 thread : e.thread.size ≤ 40
theorem Edu.small.brief {e : Edu} (h : e.small) : e.brief := ⟨by have := h.room; omega, by have := h.user; omega, by have := h.event; omega, by have := h.thread; omega⟩
theorem maxLen_40 {n : Nat} (h : n ≤ 40) : n ≤ maxLen := by unfold maxLen; omega
def mkO (t b : Nat) : Array Value := #[.iface 68 (.pointer (some ⟨t, 0, none⟩)), .iface 69 (.pointer (some ⟨b, 0, none⟩)), .pointer (some ⟨t, 0, none⟩), .pointer (some ⟨b, 0, none⟩)]
def Th.mkB (g t b : Nat) : Th := Th.box g (.cells (mkO t b) 71 (0, 0))
theorem mkI_tab (x : Value) (w : World) : (Instr.makeInterface 68 x).run Tryz.prog w = .ok (.iface 68 x) w := run_makeInterface w _ x (by kernel_rfl)
theorem mkI_park (x : Value) (w : World) : (Instr.makeInterface 69 x).run Tryz.prog w = .ok (.iface 69 x) w := run_makeInterface w _ x (by kernel_rfl)
structure MkI where
 g : Nat
 B : Nat
 b : Nat
 v : Value
 p : Pk
 r : RI
def MkI.ms (x : MkI) : Ms := ⟨x.r.l, x.p⟩
def MkI.park (x : MkI) : Th := Th.park x.B x.b x.v x.p
def MkI.tab (x : MkI) : Th := Th.tab x.r
def MkI.box (x : MkI) : Th := Th.mkB x.g x.r.g x.b
structure AtM (x : MkI) (i j : Nat) (ms ts : List Th) : Prop where
 hi : ms[i]? = some x.park
 hj : ms[j]? = some x.tab
 ne : i ≠ j
 hb : x.box ∈ ts
structure MkI.to (x x' : MkI) (s : Ms) : Prop where
 g : x'.g = x.g
 b : x'.b = x.b
 t : x'.r.g = x.r.g
 ms : x'.ms = s
theorem MkI.to.box {x x' : MkI} {s : Ms} (h : x.to x' s) : x'.box = x.box := by
 unfold MkI.box
 rw [h.g, h.b, h.t]
section
variable {w wr : World} {vs : List VI} {ts ms : List Th} {vi : VI} {q i j : Nat} {x : MkI}
theorem AtM.to {x' : MkI} {s : Ms} (h : AtM x i j ms ts) (hx : x.to x' s) : AtM x' i j ((ms.set i x'.park).set j x'.tab) ts := by
 have h1 := (List.getElem?_eq_some_iff.1 h.hi).1
 have h2 := (List.getElem?_eq_some_iff.1 h.hj).1
 refine ⟨?_, ?_, h.ne, hx.box ▸ h.hb⟩
 ·rw [List.getElem?_set_ne h.ne.symm, List.getElem?_set_self h1]
 ·rw [List.getElem?_set_self (by rw [List.length_set]; exact h2)]
theorem AtM.more {t : Th} (h : AtM x i j ms ts) : AtM x i j ms (t :: ts) := ⟨h.hi, h.hj, h.ne, List.mem_cons_of_mem _ h.hb⟩
theorem AtM.stay (h : AtM x i j ms ts) : (ms.set i x.park).set j x.tab = ms := by
 rw [set_is h.hi, set_is h.hj]
theorem mkO_at {g : Nat} (h : wr.heap[g]? = some (.cells (mkO x.r.g x.b) 71 (0, 0))) : wr.cell? ⟨g, 0, none⟩ = some (.iface 68 (.pointer (some ⟨x.r.g, 0, none⟩))) ∧ wr.cell? ⟨g, 1, none⟩ = some (.iface 69 (.pointer (some ⟨x.b, 0, none⟩))) ∧ wr.cell? ⟨g, 2, none⟩ = some (.pointer (some ⟨x.r.g, 0, none⟩)) ∧ wr.cell? ⟨g, 3, none⟩ = some (.pointer (some ⟨x.b, 0, none⟩)) := ⟨cell_at h 0, cell_at h 1, cell_at h 2, cell_at h 3⟩
set_option maxHeartbeats 800000 in
theorem marksNew_yes (n : Nat) (h1 : 1 ≤ n) (h2 : n ≤ 1000) (h : Km codeDags w wr vs ms ts) : Calls Tryz.prog 9 #[.int .i64 (n : Int)] wr fun e w' => ∃ x : MkI, e = .returned (.tuple #[.pointer (some ⟨x.g, 0, none⟩), .int .i64 0]) ∧ x.ms = ⟨[], ⟨n, [], 0⟩⟩ ∧ Km codeDags w w' vs (ms ++ [x.park] ++ [x.tab]) (x.box :: ts) := by
 have HP := Lib.hid (pkNew_yes n wr h1 h2)
 have HR := Lib.hid (fun W => rcNew_any W)
 have HM1 := mkI_tab
 have HM2 := mkI_park
 have HK := Lib.hid h
 clear h1 h2 h
 go_enter Tryz.func9, Tryz.ntmps9
 go_wp2_with fail
 go_at_call 36
 refine HP.out.mono ?_
 rintro e w1 ⟨b, rfl, hp⟩
 have HK1 := Lib.hid (HK.out.made (m := Th.park wr.heap.size b (.slice none 0 0) ⟨n, [], 0⟩) hp.below hp.pk (fun k hk => (hp.pk.old hk).1))
 clear hp HK HP
 go_wp2_with fail
 go_at_call 37
 refine (HR.out _).mono ?_
 rintro e w2 ⟨r, rfl, hl, hc, hb, ho⟩
 have HK2 := Lib.hid (HK1.out.made (m := Th.tab r) hb hc ho)
 have HL := Lib.hid hl
 clear hb hc ho HK1 HR hl
 have HK3 := Lib.hid (HK2.out.add (t := Th.mkB w2.heap.size r.g b) (below_new w2 _) (heap_alloc_new w2 _) (fun k hk => .inl (Nat.le_of_eq hk.symm)))
 unfold Th.mkB mkO at HK3
 go_wp2_with fail
 refine bodyPost_ret (v := .tuple #[.pointer (some ⟨w2.heap.size, 0, none⟩), .int .i64 0]) ?_ rfl ⟨⟨w2.heap.size, wr.heap.size, b, .slice none 0 0, ⟨n, [], 0⟩, r⟩, rfl, ?_, HK3.out⟩
 ·simp [results, Tryz.results9, go_sem]
 ·unfold MkI.ms
  rw [HL.out]
end
end Go.Proofs.YtnnapkakbdpkaaaGreat
