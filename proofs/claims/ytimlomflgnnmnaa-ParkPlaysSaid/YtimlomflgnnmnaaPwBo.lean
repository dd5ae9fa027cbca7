/-
  A park of the code and the document's, in a box, beside one another.
-/
import Derived.Test.YtimlomflgnnmnaaPkK
namespace Go.Proofs.Ytimlomflgnnmnaa
set_option maxRecDepth 20000
open Go.RowKit
set_option linter.unusedVariables false
set_option linter.unusedSimpArgs false

def Pk.box (q : Pk) (vd : Value) : Obj := .cells #[.int .i64 (q.most : Int), vd, .int .i64 (q.lost : Int)] 30 (0, 0)
/-- The code's park p; the document's q in the box g, whose row is vd; things beside. -/
structure Bo (w wr : World) (b : Nat) (v : Value) (p : Pk) (g : Nat) (vd : Value) (q : Pk) (ts : List Th) : Prop where
  kp : Kp w wr b v p (Th.box g (q.box vd) :: Th.row LE vd q.l :: ts)
  off : ∀ k, 0 < q.l.length → vd.ownBlock = some k → k ≠ g
  lo : w.heap.size ≤ g
  ot : ∀ t ∈ ts, ¬ t.P g
/-- The same, when the document's new one is not yet in the box. -/
structure Bn (w wr : World) (b : Nat) (v : Value) (p : Pk) (g : Nat) (vd : Value) (q : Pk) (vn : Value) (qn : Pk) (ts : List Th) : Prop where
  kp : Kp w wr b v p (Th.box g (q.box vd) :: Th.row LE vn qn.l :: ts)
  off : ∀ k, 0 < qn.l.length → vn.ownBlock = some k → k ≠ g
  lo : w.heap.size ≤ g
  ot : ∀ t ∈ ts, ¬ t.P g
section
variable {w wr w' : World} {b g : Nat} {v v' vd vn : Value} {p p' q qn : Pk} {ts ts' : List Th} {t : Th}
theorem Bo.at (h : Bo w wr b v p g vd q ts) : wr.heap[g]? = some (q.box vd) := h.kp.is List.mem_cons_self
theorem Bo.row (h : Bo w wr b v p g vd q ts) : LE.Slice wr vd q.l := h.kp.is (t := Th.row LE vd q.l) (List.mem_cons_of_mem _ List.mem_cons_self)
theorem Bn.at (h : Bn w wr b v p g vd q vn qn ts) : wr.heap[g]? = some (q.box vd) := h.kp.is List.mem_cons_self
theorem Bn.row (h : Bn w wr b v p g vd q vn qn ts) : LE.Slice wr vn qn.l := h.kp.is (t := Th.row LE vn qn.l) (List.mem_cons_of_mem _ List.mem_cons_self)
theorem Bo.later (h : Bo w wr b v p g vd q ts) (hb : Below wr.heap.size wr w') : Bo w w' b v p g vd q ts := ⟨h.kp.later hb, h.off, h.lo, h.ot⟩
theorem Bn.later (h : Bn w wr b v p g vd q vn qn ts) (hb : Below wr.heap.size wr w') : Bn w w' b v p g vd q vn qn ts := ⟨h.kp.later hb, h.off, h.lo, h.ot⟩
theorem Bo.add (h : Bo w wr b v p g vd q ts) (hb : Below wr.heap.size wr w') (hI : t.I w') (hP : ∀ k, t.P k → wr.heap.size ≤ k) : Bo w w' b v p g vd q (t :: ts) := by
  refine ⟨(h.kp.add hb hI (fun k hk => .inl (hP k hk))).less (fun u hu => ?_), h.off, h.lo, fun u hu hg => ?_⟩
  · rcases List.mem_cons.1 hu with rfl | hu
    · exact List.mem_cons_of_mem _ List.mem_cons_self
    · rcases List.mem_cons.1 hu with rfl | hu
      · exact List.mem_cons_of_mem _ (List.mem_cons_of_mem _ List.mem_cons_self)
      · rcases List.mem_cons.1 hu with rfl | hu
        · exact List.mem_cons_self
        · exact List.mem_cons_of_mem _ (List.mem_cons_of_mem _ (List.mem_cons_of_mem _ hu))
  · rcases List.mem_cons.1 hu with rfl | hu
    · have := hP g hg
      have := smem_lt h.at
      omega
    · exact h.ot u hu hg
theorem Bn.add (h : Bn w wr b v p g vd q vn qn ts) (hb : Below wr.heap.size wr w') (hI : t.I w') (hP : ∀ k, t.P k → wr.heap.size ≤ k) : Bn w w' b v p g vd q vn qn (t :: ts) := by
  refine ⟨(h.kp.add hb hI (fun k hk => .inl (hP k hk))).less (fun u hu => ?_), h.off, h.lo, fun u hu hg => ?_⟩
  · rcases List.mem_cons.1 hu with rfl | hu
    · exact List.mem_cons_of_mem _ List.mem_cons_self
    · rcases List.mem_cons.1 hu with rfl | hu
      · exact List.mem_cons_of_mem _ (List.mem_cons_of_mem _ List.mem_cons_self)
      · rcases List.mem_cons.1 hu with rfl | hu
        · exact List.mem_cons_self
        · exact List.mem_cons_of_mem _ (List.mem_cons_of_mem _ (List.mem_cons_of_mem _ hu))
  · rcases List.mem_cons.1 hu with rfl | hu
    · have := hP g hg
      have := smem_lt h.at
      omega
    · exact h.ot u hu hg
theorem Bo.less (h : Bo w wr b v p g vd q ts) (hs : ∀ t ∈ ts', t ∈ ts) : Bo w wr b v p g vd q ts' :=
  ⟨h.kp.less (fun u hu => by
    rcases List.mem_cons.1 hu with rfl | hu
    · exact List.mem_cons_self
    · rcases List.mem_cons.1 hu with rfl | hu
      · exact List.mem_cons_of_mem _ List.mem_cons_self
      · exact List.mem_cons_of_mem _ (List.mem_cons_of_mem _ (hs u hu))), h.off, h.lo, fun t ht => h.ot t (hs t ht)⟩
/-- What the document's call tells. -/
theorem Bo.doc (h : Bo w wr b v p g vd q ts) (hd : DocP wr w' vd vn q qn) (hb : Below wr.heap.size wr w') : Bn w w' b v p g vd q vn qn ts := by
  have hl := smem_lt h.at
  rcases hd with ⟨rfl, rfl⟩ | hm
  · exact ⟨h.kp.later hb, h.off, h.lo, h.ot⟩
  · refine ⟨(h.kp.add hb (t := Th.row LE vn qn.l) hm.slice (fun k hk => .inl (hm.lt k hk.2).1)).less (fun u hu => ?_), fun k _ hk e => ?_, h.lo, h.ot⟩
    · rcases List.mem_cons.1 hu with rfl | hu
      · exact List.mem_cons_of_mem _ List.mem_cons_self
      · rcases List.mem_cons.1 hu with rfl | hu
        · exact List.mem_cons_self
        · exact List.mem_cons_of_mem _ (List.mem_cons_of_mem _ (List.mem_cons_of_mem _ hu))
    · have := (hm.lt k hk).1
      omega
theorem grown_setRow (w : World) (g : Nat) (cs : Array Value) : w.grownBy (w.setRow g cs) (some g) := by
  have hb : Below g w (w.setRow g cs) := below_setRow (Below.refl _ _) (Nat.le_refl _) cs
  exact ⟨hb.os, hb.tape, hb.output, hb.size, fun k hk hne => setRow_other w g k cs (fun e => hne (by rw [e]))⟩
/-- It is put into the box. -/
theorem Bn.store (h : Bn w wr b v p g vd q vn qn ts) : Bo w (wr.setRow g #[.int .i64 (qn.most : Int), vn, .int .i64 (qn.lost : Int)]) b v p g vn qn ts := by
  have hr := setRow_heap wr g _ #[.int .i64 (qn.most : Int), vn, .int .i64 (qn.lost : Int)] _ _ h.at
  refine ⟨h.kp.rebox hr (grown_setRow wr g _) h.lo (fun t ht hg => ?_), h.off, h.lo, h.ot⟩
  rcases List.mem_cons.1 ht with rfl | ht
  · exact h.off g hg.1 hg.2 rfl
  · exact h.ot t ht hg
theorem Bo.code (h : Bo w wr b v p g vd q ts) (hk : Kp w w' b v' p' (Th.box g (q.box vd) :: Th.row LE vd q.l :: ts)) : Bo w w' b v' p' g vd q ts := ⟨hk, h.off, h.lo, h.ot⟩
theorem Bo.code0 (h : Bo w wr b v p g vd q ts) (hk : Kp w w' b v' p' ts') (hs : ∀ t ∈ Th.box g (q.box vd) :: Th.row LE vd q.l :: [], t ∈ ts') : Bo w w' b v' p' g vd q [] := ⟨hk.less hs, h.off, h.lo, fun t ht => by cases ht⟩
end
/-- The first box. -/
theorem Bo.start {w wr : World} {b m : Nat} (hk : Kp w wr b (.slice none 0 0) ⟨m, [], 0⟩ []) : Bo w (wr.alloc (.cells #[.int .i64 (m : Int), .slice none 0 0, .int .i64 0] 30)) b (.slice none 0 0) ⟨m, [], 0⟩ wr.heap.size (.slice none 0 0) ⟨m, [], 0⟩ [] := by
  have hb := below_new wr (.cells #[.int .i64 (m : Int), .slice none 0 0, .int .i64 0] 30)
  refine ⟨(hk.add hb (t := Th.box wr.heap.size (Pk.box ⟨m, [], 0⟩ (.slice none 0 0))) (heap_alloc_new wr _) (fun k hk => .inl (Nat.le_of_eq hk.symm))).with (t := Th.row LE (.slice none 0 0) []) (Lies.Slice.nil _) (fun k hk => (by cases hk.2)) |>.swap, fun k h => (by cases h), hk.below.size, fun t ht => by cases ht⟩
/-- Memory that may be written, whatever is in it: the room of a row of EDUs. -/
def Th.room (v : Value) (n : Nat) : Th where
  P := fun k => 0 < n ∧ v.ownBlock = some k
  I := fun W => n = 0 ∨ ∃ g off c cur, v = .slice (some ⟨g, off, none⟩) n c ∧ W.heap[g]? = some (.cells cur 32 (0, 0)) ∧ off + n * 11 ≤ cur.size
  lt := fun W k h hk => by
    rcases h with h | ⟨g, off, c, cur, rfl, hh, _⟩
    · omega
    · have := hk.2
      simp only [Value.ownBlock, Option.some.injEq] at this
      rw [← this]
      exact smem_lt hh
  st := fun W W' h hs hb => by
    rcases h with h | ⟨g, off, c, cur, rfl, hh, hz⟩
    · exact .inl h
    · by_cases hn : n = 0
      · exact .inl hn
      · exact .inr ⟨g, off, c, cur, rfl, (hb g (smem_lt hh) ⟨by omega, rfl⟩).trans hh, hz⟩
theorem Lies.Mine.room {W : World} {B : Nat} {v : Value} {us : List Edu} (h : LE.Mine W B v us) : (Th.room v us.length).I W := by
  rcases h with ⟨_, rfl⟩ | ⟨g, off, cap, cur, rfl, _, hh, h1, _, h3, _⟩
  · exact .inl rfl
  · refine .inr ⟨g, off, cap, cur, rfl, hh, ?_⟩
    have : us.length * 11 ≤ cap * 11 := Nat.mul_le_mul_right _ h1
    have hc : cap * LE.c = cap * 11 := rfl
    omega
/-- Within its bound; few have gone. -/
structure FitP (p : Pk) (m a : Nat) : Prop where
  most : p.most = m
  len : p.l.length ≤ m
  lost : p.lost ≤ a
theorem FitP.start (m : Nat) : FitP ⟨m, [], 0⟩ m 0 := ⟨rfl, Nat.zero_le _, Nat.le_refl _⟩
theorem FitP.put {p : Pk} {m a : Nat} (h : FitP p m a) (e : Edu) : FitP (p.put e) m (a + 1) := by
  refine ⟨by rw [p.put_most]; exact h.most, ?_, ?_⟩
  · have := p.put_len e (by rw [h.most]; exact h.len)
    rw [h.most] at this
    exact this
  · have := p.put_lost e
    have := h.lost
    cases hg : p.goes e <;> simp only [hg, cond_true, cond_false] at * <;> omega
theorem FitP.take {p : Pk} {m a : Nat} (h : FitP p m a) (room event : ByteArray) : FitP (p.take room event) m (a + 1) :=
  ⟨h.most, Nat.le_trans (p.take_len room event) h.len, Nat.le_succ_of_le h.lost⟩
end Go.Proofs.Ytimlomflgnnmnaa
