/-
  What a statement's walk keeps: structs, rows of bytes, rows of EDUs; contracts in the form that the walks ask.
-/
import Derived.Test.YtnabbebkmafakaaPRefRead
namespace Go.Proofs.Ytnabbebkmafakaa
set_option maxRecDepth 20000
open Go.RowKit
set_option linter.unusedVariables false
set_option linter.unusedSimpArgs false

def KeepP (w : World) (l : List (Nat × Array Value × TypeId)) (rs : List (Value × List UInt8)) (ss : List (Value × List Edu)) (w' : World) : Prop :=
  Keep w l rs w' ∧ ∀ p ∈ ss, MadeE w' w.heap.size p.1 p.2
section
variable {w w' w'' : World} {l : List (Nat × Array Value × TypeId)} {rs : List (Value × List UInt8)} {ss : List (Value × List Edu)}
theorem KeepP.below (h : KeepP w l rs ss w') : Below w.heap.size w w' := h.1.1
theorem KeepP.later (h : KeepP w l rs ss w') (hb : Below w'.heap.size w' w'') : KeepP w l rs ss w'' := ⟨h.1.later hb, fun p hp => (h.2 p hp).below hb⟩
theorem KeepP.drew (h : KeepP w l rs ss w') : KeepP w l rs ss w'.drew := ⟨h.1.drew, h.2⟩
theorem KeepP.st (h : KeepP w l rs ss w') (i : Nat) {p : Nat × Array Value × TypeId} (hp : l[i]? = some p) : w'.heap[p.1]? = some (.cells p.2.1 p.2.2 (0, 0)) := h.1.st i hp
theorem KeepP.row (h : KeepP w l rs ss w') (i : Nat) {p : Value × List UInt8} (hp : rs[i]? = some p) : Row w' 0 p.1 p.2 := h.1.row i hp
theorem KeepP.sl (h : KeepP w l rs ss w') (i : Nat) {p : Value × List Edu} (hp : ss[i]? = some p) : MadeE w' w.heap.size p.1 p.2 := h.2 p (List.mem_of_getElem? hp)
theorem KeepP.cons (h : KeepP w l rs ss w') {g : Nat} {cs : Array Value} {t : TypeId} (hn : w'.heap[g]? = some (.cells cs t (0, 0))) : KeepP w ((g, cs, t) :: l) rs ss w' := ⟨h.1.cons hn, h.2⟩
theorem KeepP.consR (h : KeepP w l rs ss w') {v : Value} {bs : List UInt8} (hn : Row w' 0 v bs) : KeepP w l ((v, bs) :: rs) ss w' := ⟨h.1.consR hn, h.2⟩
theorem KeepP.consS (h : KeepP w l rs ss w') {v : Value} {es : List Edu} (hn : MadeE w' w.heap.size v es) : KeepP w l rs ((v, es) :: ss) w' :=
  ⟨h.1, fun p hp => by
    rcases List.mem_cons.1 hp with rfl | hp
    · exact hn
    · exact h.2 p hp⟩
theorem KeepP.new (h : KeepP w l rs ss w') (cs : Array Value) (t : TypeId) : KeepP w ((w'.heap.size, cs, t) :: l) rs ss (w'.alloc (.cells cs t)) := (h.later (below_new w' _)).cons (heap_alloc_new w' _)
/-- A field is written. -/
theorem KeepP.store {pre post : List (Nat × Array Value × TypeId)} {g i : Nat} {cs : Array Value} {t : TypeId} {u : Value} (h : KeepP w (pre ++ (g, cs, t) :: post) rs ss w') (hne : ∀ p ∈ pre ++ post, p.1 ≠ g) (hg : w.heap.size ≤ g) (h1 : t ≠ 5) (h2 : t ≠ 50) :
    KeepP w (pre ++ (g, cs.setIfInBounds i u, t) :: post) rs ss (w'.setCell ⟨g, i, none⟩ u) := by
  have hh : w'.heap[g]? = some (.cells cs t (0, 0)) := h.1.2.1 (g, cs, t) (by simp)
  have hgr := grown_set w' g i u
  refine ⟨⟨h.1.1.setCell (by simpa using hg) _, fun p hp => ?_, fun p hp => (h.1.2.2 p hp).grown hgr (not_bytes hh h1)⟩, fun p hp => made_keep (h.2 p hp) hh h2 hgr⟩
  rcases List.mem_append.1 hp with hp | hp
  · have := h.1.2.1 p (by simp [hp])
    exact (hgr.block _ (heap_lt this) (fun e => hne p (by simp [hp]) (by injection e))).trans this
  · rcases List.mem_cons.1 hp with rfl | hp
    · exact heap_set hh i u
    · have := h.1.2.1 p (by simp [hp])
      exact (hgr.block _ (heap_lt this) (fun e => hne p (by simp [hp]) (by injection e))).trans this
end
theorem KeepP.refl (w : World) : KeepP w [] [] [] w := ⟨Keep.refl w, fun _ h => (List.not_mem_nil h).elim⟩

theorem MadeE.shape {w : World} {B : Nat} {S : Value} {es : List Edu} (h : MadeE w B S es) : ∃ A cap, S = .slice A es.length cap := by
  obtain ⟨A, cap, rfl, _⟩ := h.slice
  exact ⟨A, cap, rfl⟩
theorem made_at {w : World} {B : Nat} {A : Option Addr} {n cap : Nat} {es : List Edu} (h : MadeE w B (.slice A n cap) es) : EdusAt w A es.length es ∧ es.length ≤ maxLen := by
  obtain ⟨A', cap', he, h1, h2, h3, h4⟩ := h.slice
  injection he with e1 e2 e3
  subst e1
  exact ⟨h4, by omega⟩
theorem Row.argQ {w : World} {lo : Nat} {v : Value} {bs : List UInt8} (h : Row w lo v bs) : ArgQ w w.heap.size v bs := by
  obtain ⟨A, c, hv, h1, h2, h3⟩ := h.shape
  refine ⟨A, c, hv, h1, h2, h3, fun h0 => ?_⟩
  obtain ⟨g, off, c', hv', hg, _, _, hc⟩ := h.addr h0
  rw [hv] at hv'
  injection hv' with e1 e2 e3
  refine ⟨g, off, e1, ?_, hc⟩
  have : bs[0]? = some bs[0] := List.getElem?_eq_getElem h0
  exact World.block_lt_of_cell? w _ (hc 0 _ this)
theorem readPar_yes {v : Value} {bs : List UInt8} {lo : Nat} {w : World} {q : Par} (h : ArgQ w lo v bs) (hl : bs.length ≤ 1000000) (hr : readP 16 1000000 bs = some q) :
    Calls Try.prog 17 #[v] w fun e w' => ∃ S, e = .returned (.tuple #[parV q S, .int .i64 0]) ∧ MadeE w' w.heap.size S q.edus ∧ Below w.heap.size w w' := by
  refine (readPar_any v bs lo w h hl).mono ?_
  rintro e w' ⟨hb, ⟨p, S, ho, he, hm⟩ | ⟨ho, he⟩⟩
  · rw [hr] at ho
    injection ho with ho
    subst ho
    exact ⟨S, he, hm, hb⟩
  · rw [hr] at ho
    cases ho
theorem readPar_none {v : Value} {bs : List UInt8} {lo : Nat} {w : World} (h : ArgQ w lo v bs) (hl : bs.length ≤ 1000000) (hr : readP 16 1000000 bs = none) :
    Calls Try.prog 17 #[v] w fun e w' => e = .returned (.tuple #[zeroPV, .int .i64 2]) ∧ Below w.heap.size w w' := by
  refine (readPar_any v bs lo w h hl).mono ?_
  rintro e w' ⟨hb, ⟨p, S, ho, he, hm⟩ | ⟨ho, he⟩⟩
  · rw [hr] at ho
    cases ho
  · exact ⟨he, hb⟩
theorem refReadPar_yes {v : Value} {bs : List UInt8} {w : World} {q : Par} (h : ArgQ w w.heap.size v bs) (hl : bs.length ≤ 1000000) (hr : readP 16 1000000 bs = some q) :
    Calls Try.prog 18 #[v] w fun e w' => ∃ S, e = .returned (.tuple #[parV q S, .int .i64 0]) ∧ MadeE w' w.heap.size S q.edus ∧ Below w.heap.size w w' := by
  refine (refReadPar_any v bs w h hl).mono ?_
  rw [← readP_same (m1 := 1000) (m1' := 16) (m2 := 100000) (m2' := 1000000) (by decide) (by decide) (by decide) (by decide), hr]
  rintro e w' ⟨hb, ⟨p, S, ho, he, hm⟩ | ⟨ho, he⟩⟩
  · injection ho with ho
    subst ho
    exact ⟨S, he, hm, hb⟩
  · cases ho
theorem refReadPar_none {v : Value} {bs : List UInt8} {w : World} (h : ArgQ w w.heap.size v bs) (hl : bs.length ≤ 1000000) (hr : readP 16 1000000 bs = none) :
    Calls Try.prog 18 #[v] w fun e w' => e = .returned (.tuple #[zeroPV, .int .i64 2]) ∧ Below w.heap.size w w' := by
  refine (refReadPar_any v bs w h hl).mono ?_
  rw [← readP_same (m1 := 1000) (m1' := 16) (m2 := 100000) (m2' := 1000000) (by decide) (by decide) (by decide) (by decide), hr]
  rintro e w' ⟨hb, ⟨p, S, ho, he, hm⟩ | ⟨ho, he⟩⟩
  · cases ho
  · exact ⟨he, hb⟩
theorem edus_nil (w : World) (A : Option Addr) : EdusAt w A 0 [] := ⟨rfl, (fun e he => (List.not_mem_nil he).elim), fun h => absurd h (Nat.lt_irrefl 0)⟩
theorem sameP_self (p : Par) : sameP p p = true := (sameP_iff p p).2 rfl
end Go.Proofs.Ytnabbebkmafakaa
