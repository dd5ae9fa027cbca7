/-
  A park that is kept, while a statement asks it; lists of EDUs and of flags that are handed in.
-/
import Derived.Test.YtimlomflgnnmnaaPkI
import Derived.Test.YtimlomflgnnmnaaSOpen
namespace Go.Proofs.Ytimlomflgnnmnaa
set_option maxRecDepth 20000
open Go.Joins Go.ChangeShapes Go.WideShapes Go.RowKit Go.Deep
set_option linter.unusedVariables false
set_option linter.unusedSimpArgs false

section
variable {w wr w' : World} {b : Nat} {v : Value} {p : Pk} {ts : List Th} {t : Th}
theorem Kp.with (h : Kp w wr b v p ts) (hI : t.I wr) (hP : ∀ k, t.P k → ¬ ownP b v k) : Kp w wr b v p (t :: ts) :=
  ⟨h.below, h.pk, fun u hu => by
    rcases List.mem_cons.1 hu with rfl | hu
    · exact ⟨hI, hP⟩
    · exact h.th u hu⟩
theorem Kp.take_any (h : Kp w wr b v p ts) (room event : ByteArray) (hl : p.l.length ≤ 100000) :
    Calls Try.prog 14 #[.pointer (some ⟨b, 0, none⟩), .string room, .string event] wr fun x w' => ∃ u, x = .returned u ∧ ∃ v', Kp w w' b v' (p.take room event) (Th.row LE u (p.took room event) :: ts) := by
  refine (pkTake_any h.pk room event hl).mono ?_
  rintro x w' ⟨u, v', hx, hm, hk, hne⟩
  refine ⟨u, hx, v', (h.putK hk).with (t := Th.row LE u (p.took room event)) hm.slice (fun k hk' ho => ?_)⟩
  have h1 := (hm.lt k hk'.2).1
  rcases ho with rfl | ho
  · have := smem_lt h.pk.hd
    omega
  · exact hne k hk'.2 ho
theorem Kp.all_any (h : Kp w wr b v p ts) (hl : p.l.length ≤ 100000) :
    Calls Try.prog 17 #[.pointer (some ⟨b, 0, none⟩)] wr fun x w' => ∃ u, x = .returned u ∧ LE.Mine w' wr.heap.size u p.l ∧ Kp w w' b v p (Th.row LE u p.l :: ts) := by
  refine (pkAll_any h.pk hl).mono ?_
  rintro x w' ⟨u, hx, hm, hb⟩
  exact ⟨u, hx, hm, h.add hb (t := Th.row LE u p.l) hm.slice (fun k hk => .inl (hm.lt k hk.2).1)⟩
end
/-- EDUs that are handed in; flags. -/
def EsS (w : World) (v : Value) (l : List Edu) : Prop := LE.Slice w v l ∧ ∀ e ∈ l, e.well
def LB : Lies Bool := ⟨4, 1, fun x => [.bool x], fun _ => rfl, fun x u hu => by
  simp only [List.mem_cons, List.not_mem_nil, or_false] at hu
  subst hu; rfl⟩
theorem knB : Kn Try.prog LB 23 (.bool false) 1 := ⟨Try.underlying23, by kernel_rfl, rfl, by decide⟩
section
variable {H : Type} {enc : TypeId × Value → H} {P : Program} {w : World} {base : Nat} {spare : Nat → Bool} {held : Bool}
set_option maxHeartbeats 1600000 in
theorem edu_of_cells {t : TypeId} {f0 f1 f2 f3 f4 f5 f6 f7 f8 f9 f10 : Field} {fuel : Nat} {cs : List Value} {x : DataW H × List MemPlace} (hs : P.underlying t = some (.struct #[f0, f1, f2, f3, f4, f5, f6, f7, f8, f9, f10])) (hone : oneCellFields P #[f0, f1, f2, f3, f4, f5, f6, f7, f8, f9, f10] = true) (hl : cs.length = 11)
    (u0 : P.underlying f0.type = some (.int .i64)) (u1 : P.underlying f1.type = some .string) (u2 : P.underlying f2.type = some .string) (u3 : P.underlying f3.type = some .string) (u4 : P.underlying f4.type = some .string) (u5 : P.underlying f5.type = some .bool) (u6 : P.underlying f6.type = some .bool) (u7 : P.underlying f7.type = some (.int .i64)) (u8 : P.underlying f8.type = some (.int .i64)) (u9 : P.underlying f9.type = some (.int .i64)) (u10 : P.underlying f10.type = some (.int .i64))
    (hf : DataW.trod enc P w base spare held fuel t cs = some x) : ∃ e : Edu, cs = e.cells ∧ e.well := by
  match cs, hl with
  | [c0, c1, c2, c3, c4, c5, c6, c7, c8, c9, c10], _ =>
    obtain ⟨xs, n, _, hx, _, hlen, hg⟩ := DataW.trod_struct hs hf
    obtain ⟨o0, k0⟩ := hone_of hone 0 f0 rfl
    obtain ⟨o1, k1⟩ := hone_of hone 1 f1 rfl
    obtain ⟨o2, k2⟩ := hone_of hone 2 f2 rfl
    obtain ⟨o3, k3⟩ := hone_of hone 3 f3 rfl
    obtain ⟨o4, k4⟩ := hone_of hone 4 f4 rfl
    obtain ⟨o5, k5⟩ := hone_of hone 5 f5 rfl
    obtain ⟨o6, k6⟩ := hone_of hone 6 f6 rfl
    obtain ⟨o7, k7⟩ := hone_of hone 7 f7 rfl
    obtain ⟨o8, k8⟩ := hone_of hone 8 f8 rfl
    obtain ⟨o9, k9⟩ := hone_of hone 9 f9 rfl
    obtain ⟨o10, k10⟩ := hone_of hone 10 f10 rfl
    match xs, hlen with
    | [y0, y1, y2, y3, y4, y5, y6, y7, y8, y9, y10], _ =>
      have t0 : DataW.trod enc P w base spare held n f0.type [c0] = some y0 := by simpa [o0, k0] using hg 0 f0 rfl
      have t1 : DataW.trod enc P w base spare held n f1.type [c1] = some y1 := by simpa [o1, k1] using hg 1 f1 rfl
      have t2 : DataW.trod enc P w base spare held n f2.type [c2] = some y2 := by simpa [o2, k2] using hg 2 f2 rfl
      have t3 : DataW.trod enc P w base spare held n f3.type [c3] = some y3 := by simpa [o3, k3] using hg 3 f3 rfl
      have t4 : DataW.trod enc P w base spare held n f4.type [c4] = some y4 := by simpa [o4, k4] using hg 4 f4 rfl
      have t5 : DataW.trod enc P w base spare held n f5.type [c5] = some y5 := by simpa [o5, k5] using hg 5 f5 rfl
      have t6 : DataW.trod enc P w base spare held n f6.type [c6] = some y6 := by simpa [o6, k6] using hg 6 f6 rfl
      have t7 : DataW.trod enc P w base spare held n f7.type [c7] = some y7 := by simpa [o7, k7] using hg 7 f7 rfl
      have t8 : DataW.trod enc P w base spare held n f8.type [c8] = some y8 := by simpa [o8, k8] using hg 8 f8 rfl
      have t9 : DataW.trod enc P w base spare held n f9.type [c9] = some y9 := by simpa [o9, k9] using hg 9 f9 rfl
      have t10 : DataW.trod enc P w base spare held n f10.type [c10] = some y10 := by simpa [o10, k10] using hg 10 f10 rfl
      obtain ⟨x0, e0, _, w0⟩ := DataW.trod_int u0 t0
      obtain ⟨x1, e1, _, w1⟩ := DataW.trod_string u1 t1
      obtain ⟨x2, e2, _, w2⟩ := DataW.trod_string u2 t2
      obtain ⟨x3, e3, _, w3⟩ := DataW.trod_string u3 t3
      obtain ⟨x4, e4, _, w4⟩ := DataW.trod_string u4 t4
      obtain ⟨x5, e5, _⟩ := DataW.trod_bool u5 t5
      obtain ⟨x6, e6, _⟩ := DataW.trod_bool u6 t6
      obtain ⟨x7, e7, _, w7⟩ := DataW.trod_int u7 t7
      obtain ⟨x8, e8, _, w8⟩ := DataW.trod_int u8 t8
      obtain ⟨x9, e9, _, w9⟩ := DataW.trod_int u9 t9
      obtain ⟨x10, e10, _, w10⟩ := DataW.trod_int u10 t10
      simp only [List.cons.injEq, and_true] at e0 e1 e2 e3 e4 e5 e6 e7 e8 e9 e10
      subst e0 e1 e2 e3 e4 e5 e6 e7 e8 e9 e10
      exact ⟨⟨x0, x1, x2, x3, x4, x5, x6, x7, x8, x9, x10⟩, rfl, ⟨bounds_i64 w0, bounds_i64 w7, bounds_i64 w8, bounds_i64 w9, bounds_i64 w10⟩, w1, w2, w3, w4⟩
end
section
variable {H : Type} {enc : TypeId × Value → H} {w : World} {base : Nat} {spare : Nat → Bool} {held : Bool}
/-- A slice of EDUs. -/
theorem open_edus {fuel : Nat} {cs : List Value} {x : DataW H × List MemPlace} (hf : DataW.trod enc Try.prog w base spare held fuel 22 cs = some x) :
    ∃ A cap xs, cs = [.slice A xs.length cap] ∧ EsS w (.slice A xs.length cap) xs :=
  open_lies (L := LE) (ok := Edu.well) zeroE Try.underlying22 (by kernel_rfl) (by decide) (fun fuel cs x hl ht => edu_of_cells Try.underlying32 (by kernel_rfl) hl Try.underlying3 Try.underlying9 Try.underlying9 Try.underlying9 Try.underlying9 Try.underlying4 Try.underlying4 Try.underlying3 Try.underlying3 Try.underlying3 Try.underlying3 ht) hf
/-- A slice of flags. -/
theorem open_flags {fuel : Nat} {cs : List Value} {x : DataW H × List MemPlace} (hf : DataW.trod enc Try.prog w base spare held fuel 23 cs = some x) :
    ∃ A cap xs, cs = [.slice A xs.length cap] ∧ LB.Slice w (.slice A xs.length cap) xs := by
  obtain ⟨A, cap, xs, h1, h2, -⟩ := open_lies (L := LB) (ok := fun _ => True) false Try.underlying23 (by kernel_rfl) (by decide) (fun fuel cs x hl ht => by
    match cs, hl with
    | [c0], _ =>
      obtain ⟨y, e0, _⟩ := DataW.trod_bool Try.underlying4 ht
      exact ⟨y, e0, trivial⟩) hf
  exact ⟨A, cap, xs, h1, h2⟩
end
/-- A bound from 1 to 6. -/
theorem bound6 (n : Int) : ∃ m : Nat, 1 ≤ m ∧ m ≤ 6 ∧ 1 + aroundI n 6 = (m : Int) := by
  have := aroundI_bd n 6 (by decide)
  exact ⟨(1 + aroundI n 6).toNat, by omega, by omega, by omega⟩
end Go.Proofs.Ytimlomflgnnmnaa
