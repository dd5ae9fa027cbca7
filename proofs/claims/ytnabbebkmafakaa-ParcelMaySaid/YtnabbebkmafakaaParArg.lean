/-
  A list of EDUs, and a parcel, that are handed in, as values: each EDU's cells, each of the parcel's fields. No function of the program is named here.
-/
import Derived.Test.YtnabbebkmafakaaParcel
import Derived.Deep.Slices
import Derived.Deep.Fields
import Derived.ChangeSame
namespace Go.Proofs.Ytnabbebkmafakaa
open Go.Joins Go.ChangeShapes Go.WideShapes Go.RowKit Go.Deep
set_option linter.unusedVariables false
set_option linter.unusedSimpArgs false

/-- An EDU's cells. -/
def Edu.cells (e : Edu) : List Value := [.int .i64 e.kind, .string e.room, .string e.user, .string e.event, .string e.thread, .bool e.priv, .bool e.on, .int .i64 e.span, .int .i64 e.state, .int .i64 e.tick, .int .i64 e.stamp]
/-- Its texts and numbers are as they can be. -/
def Edu.well (e : Edu) : Prop := e.fits ∧ e.room.size ≤ maxLen ∧ e.user.size ≤ maxLen ∧ e.event.size ≤ maxLen ∧ e.thread.size ≤ maxLen
/-- A slice of EDUs. -/
def EdusAt (w : World) (A : Option Addr) (len : Nat) (es : List Edu) : Prop :=
  es.length = len ∧ (∀ e ∈ es, e.well) ∧ (0 < len → ∃ b off, A = some ⟨b, off, none⟩ ∧ ∀ i e, es[i]? = some e → ∀ j u, e.cells[j]? = some u → w.cell? ⟨b, off + (i * 11 + j), none⟩ = some u)
theorem EdusAt.below {w w' : World} {A : Option Addr} {len : Nat} {es : List Edu} (h : EdusAt w A len es) (hb : Below w.heap.size w w') : EdusAt w' A len es := by
  obtain ⟨h1, h2, h3⟩ := h
  refine ⟨h1, h2, fun h0 => ?_⟩
  obtain ⟨b, off, hA, hc⟩ := h3 h0
  refine ⟨b, off, hA, fun i e he j u hu => ?_⟩
  have h6 := hc i e he j u hu
  rw [hb.cell (World.block_lt_of_cell? w _ h6)]
  exact h6

section
variable {H : Type} {enc : TypeId × Value → H} {P : Program} {w : World} {base : Nat} {spare : Nat → Bool} {held : Bool}
set_option maxHeartbeats 1600000 in
theorem edu_of_cells {t : TypeId} {f0 f1 f2 f3 f4 f5 f6 f7 f8 f9 f10 : Field} {fuel : Nat} {cs : List Value} {x : DataW H × List MemPlace} (hs : P.underlying t = some (.struct #[f0, f1, f2, f3, f4, f5, f6, f7, f8, f9, f10])) (hone : oneCellFields P #[f0, f1, f2, f3, f4, f5, f6, f7, f8, f9, f10] = true) (hl : cs.length = 11)
    (u0 : P.underlying f0.type = some (.int .i64)) (u1 : P.underlying f1.type = some .string) (u2 : P.underlying f2.type = some .string) (u3 : P.underlying f3.type = some .string) (u4 : P.underlying f4.type = some .string) (u5 : P.underlying f5.type = some .bool) (u6 : P.underlying f6.type = some .bool) (u7 : P.underlying f7.type = some (.int .i64)) (u8 : P.underlying f8.type = some (.int .i64)) (u9 : P.underlying f9.type = some (.int .i64)) (u10 : P.underlying f10.type = some (.int .i64))
    (hf : DataW.trod enc P w base spare held fuel t cs = some x) : ∃ e : Edu, cs = e.cells ∧ e.well := by
  match cs, hl with
  | [c0, c1, c2, c3, c4, c5, c6, c7, c8, c9, c10], _ =>
    obtain ⟨xs, n, _, hx, _, hlen, hg⟩ := DataW.trod_struct hs hf
    obtain ⟨o0, k0⟩ := hone_of hone 0 f0 rfl
    obtain ⟨o1, k1⟩ := hone_of hone 1 f1 rfl
    obtain ⟨o2, k2⟩ := hone_of hone 2 f2 rfl
    obtain ⟨o3, k3⟩ := hone_of hone 3 f3 rfl
    obtain ⟨o4, k4⟩ := hone_of hone 4 f4 rfl
    obtain ⟨o5, k5⟩ := hone_of hone 5 f5 rfl
    obtain ⟨o6, k6⟩ := hone_of hone 6 f6 rfl
    obtain ⟨o7, k7⟩ := hone_of hone 7 f7 rfl
    obtain ⟨o8, k8⟩ := hone_of hone 8 f8 rfl
    obtain ⟨o9, k9⟩ := hone_of hone 9 f9 rfl
    obtain ⟨o10, k10⟩ := hone_of hone 10 f10 rfl
    match xs, hlen with
    | [y0, y1, y2, y3, y4, y5, y6, y7, y8, y9, y10], _ =>
      have t0 : DataW.trod enc P w base spare held n f0.type [c0] = some y0 := by simpa [o0, k0] using hg 0 f0 rfl
      have t1 : DataW.trod enc P w base spare held n f1.type [c1] = some y1 := by simpa [o1, k1] using hg 1 f1 rfl
      have t2 : DataW.trod enc P w base spare held n f2.type [c2] = some y2 := by simpa [o2, k2] using hg 2 f2 rfl
      have t3 : DataW.trod enc P w base spare held n f3.type [c3] = some y3 := by simpa [o3, k3] using hg 3 f3 rfl
      have t4 : DataW.trod enc P w base spare held n f4.type [c4] = some y4 := by simpa [o4, k4] using hg 4 f4 rfl
      have t5 : DataW.trod enc P w base spare held n f5.type [c5] = some y5 := by simpa [o5, k5] using hg 5 f5 rfl
      have t6 : DataW.trod enc P w base spare held n f6.type [c6] = some y6 := by simpa [o6, k6] using hg 6 f6 rfl
      have t7 : DataW.trod enc P w base spare held n f7.type [c7] = some y7 := by simpa [o7, k7] using hg 7 f7 rfl
      have t8 : DataW.trod enc P w base spare held n f8.type [c8] = some y8 := by simpa [o8, k8] using hg 8 f8 rfl
      have t9 : DataW.trod enc P w base spare held n f9.type [c9] = some y9 := by simpa [o9, k9] using hg 9 f9 rfl
      have t10 : DataW.trod enc P w base spare held n f10.type [c10] = some y10 := by simpa [o10, k10] using hg 10 f10 rfl
      obtain ⟨x0, e0, _, w0⟩ := DataW.trod_int u0 t0
      obtain ⟨x1, e1, _, w1⟩ := DataW.trod_string u1 t1
      obtain ⟨x2, e2, _, w2⟩ := DataW.trod_string u2 t2
      obtain ⟨x3, e3, _, w3⟩ := DataW.trod_string u3 t3
      obtain ⟨x4, e4, _, w4⟩ := DataW.trod_string u4 t4
      obtain ⟨x5, e5, _⟩ := DataW.trod_bool u5 t5
      obtain ⟨x6, e6, _⟩ := DataW.trod_bool u6 t6
      obtain ⟨x7, e7, _, w7⟩ := DataW.trod_int u7 t7
      obtain ⟨x8, e8, _, w8⟩ := DataW.trod_int u8 t8
      obtain ⟨x9, e9, _, w9⟩ := DataW.trod_int u9 t9
      obtain ⟨x10, e10, _, w10⟩ := DataW.trod_int u10 t10
      simp only [List.cons.injEq, and_true] at e0 e1 e2 e3 e4 e5 e6 e7 e8 e9 e10
      subst e0 e1 e2 e3 e4 e5 e6 e7 e8 e9 e10
      exact ⟨⟨x0, x1, x2, x3, x4, x5, x6, x7, x8, x9, x10⟩, rfl, ⟨bounds_i64 w0, bounds_i64 w7, bounds_i64 w8, bounds_i64 w9, bounds_i64 w10⟩, w1, w2, w3, w4⟩

/-- A slice of EDUs that is handed in. -/
theorem open_edus {t et : TypeId} {f0 f1 f2 f3 f4 f5 f6 f7 f8 f9 f10 : Field} {fuel : Nat} {cs : List Value} {x : DataW H × List MemPlace} (ht : P.underlying t = some (.slice et)) (hs : P.underlying et = some (.struct #[f0, f1, f2, f3, f4, f5, f6, f7, f8, f9, f10])) (hone : oneCellFields P #[f0, f1, f2, f3, f4, f5, f6, f7, f8, f9, f10] = true) (hC : P.cellsOf et = 11)
    (u0 : P.underlying f0.type = some (.int .i64)) (u1 : P.underlying f1.type = some .string) (u2 : P.underlying f2.type = some .string) (u3 : P.underlying f3.type = some .string) (u4 : P.underlying f4.type = some .string) (u5 : P.underlying f5.type = some .bool) (u6 : P.underlying f6.type = some .bool) (u7 : P.underlying f7.type = some (.int .i64)) (u8 : P.underlying f8.type = some (.int .i64)) (u9 : P.underlying f9.type = some (.int .i64)) (u10 : P.underlying f10.type = some (.int .i64))
    (hf : DataW.trod enc P w base spare held fuel t cs = some x) : ∃ A len cap es, cs = [.slice A len cap] ∧ len ≤ cap ∧ cap ≤ maxLen ∧ (A = none → cap = 0) ∧ EdusAt w A len es := by
  rcases open_slice ht hf with ⟨hcs, _⟩ | ⟨a, l, c, m, n, D, Pl, hcs, _, hl, hm, hmm, _, hi⟩
  · exact ⟨none, 0, 0, [], hcs, Nat.le_refl _, Nat.zero_le _, fun _ => rfl, rfl, (fun e he => (List.not_mem_nil he).elim), fun h => absurd h (Nat.lt_irrefl 0)⟩
  · have hml : l ≤ m := by rw [hmm]; split <;> omega
    have hone' : ∀ i, ∃ e : Edu, i < l → e.well ∧ ∀ j u, e.cells[j]? = some u → w.cell? ((a.add (i * 11)).add j) = some u := by
      intro i
      by_cases hil : i < l
      · obtain ⟨cs', hc, ht'⟩ := hi i (by omega)
        rw [hC] at hc
        obtain ⟨_, hcl, hat⟩ := World.cells?_some hc
        obtain ⟨e, rfl, hw⟩ := edu_of_cells hs hone hcl u0 u1 u2 u3 u4 u5 u6 u7 u8 u9 u10 ht'
        refine ⟨e, fun _ => ⟨hw, fun j u hu => ?_⟩⟩
        have hj : j < 11 := by have := (List.getElem?_eq_some_iff.1 hu).1; rw [hcl] at this; exact this
        rw [hat j hj, hu]
      · exact ⟨⟨0, ⟨#[]⟩, ⟨#[]⟩, ⟨#[]⟩, ⟨#[]⟩, false, false, 0, 0, 0, 0⟩, fun h => absurd h hil⟩
    obtain ⟨f, hf'⟩ := Classical.axiomOfChoice hone'
    refine ⟨some a, l, c, (List.range l).map f, hcs, hl, hm, (fun h => by cases h), by simp, ?_, fun h0 => ?_⟩
    · intro e he
      obtain ⟨i, hi', rfl⟩ := List.mem_map.1 he
      exact (hf' i (List.mem_range.1 hi')).1
    · obtain ⟨b, off, spot⟩ := a
      have h00 := (hf' 0 h0).2 0 _ rfl
      have hspot : spot = none := by simpa [Addr.add] using World.cell?_spot h00
      subst hspot
      refine ⟨b, off, rfl, fun i e he j u hu => ?_⟩
      rw [List.getElem?_map] at he
      have hil : i < l := by
        rcases Nat.lt_or_ge i l with h | h
        · exact h
        · rw [List.getElem?_eq_none (by simpa using h)] at he
          cases he
      rw [List.getElem?_range hil] at he
      injection he with he
      subst he
      have := (hf' i hil).2 j u hu
      rw [Go.WideShapes.add_plain, Go.WideShapes.add_plain, Nat.add_assoc] at this
      exact this

/-- A parcel that is handed in. -/
theorem open_par {r : Reach} {b0 : Nat} {t et : TypeId} {p0 p1 p2 p3 p4 : Field} {f0 f1 f2 f3 f4 f5 f6 f7 f8 f9 f10 : Field} {v : Value} {d : DataW H} {pl : List MemPlace} (hp : P.underlying t = some (.struct #[p0, p1, p2, p3, p4])) (hpone : oneCellFields P #[p0, p1, p2, p3, p4] = true) (hpC : P.cellsOf t = 5)
    (q0 : P.underlying p0.type = some .bool) (q1 : P.underlying p1.type = some .string) (q2 : P.underlying p2.type = some .string) (q3 : P.underlying p3.type = some (.int .i64)) (q4 : P.underlying p4.type = some (.slice et))
    (hs : P.underlying et = some (.struct #[f0, f1, f2, f3, f4, f5, f6, f7, f8, f9, f10])) (hone : oneCellFields P #[f0, f1, f2, f3, f4, f5, f6, f7, f8, f9, f10] = true) (hC : P.cellsOf et = 11)
    (u0 : P.underlying f0.type = some (.int .i64)) (u1 : P.underlying f1.type = some .string) (u2 : P.underlying f2.type = some .string) (u3 : P.underlying f3.type = some .string) (u4 : P.underlying f4.type = some .string) (u5 : P.underlying f5.type = some .bool) (u6 : P.underlying f6.type = some .bool) (u7 : P.underlying f7.type = some (.int .i64)) (u8 : P.underlying f8.type = some (.int .i64)) (u9 : P.underlying f9.type = some (.int .i64)) (u10 : P.underlying f10.type = some (.int .i64))
    (hv : Value.okWide P w r b0 t v) (h : DataW.Trod enc P w base spare held t v d pl) :
    ∃ ack frm dest id A len cap es, v = .agg #[.bool ack, .string frm, .string dest, .int .i64 id, .slice A len cap] ∧ frm.size ≤ maxLen ∧ dest.size ≤ maxLen ∧ (-9223372036854775808 ≤ id ∧ id ≤ 9223372036854775807) ∧ len ≤ cap ∧ cap ≤ maxLen ∧ (A = none → cap = 0) ∧ EdusAt w A len es := by
  obtain ⟨cs, rfl, hsz⟩ := okWide_struct hp hv
  obtain ⟨l⟩ := cs
  match l, hsz.trans hpC with
  | [c0, c1, c2, c3, c4], _ =>
    obtain ⟨fuel, hf⟩ := h
    obtain ⟨xs, n, _, hx, _, hlen, hg⟩ := DataW.trod_struct hp hf
    obtain ⟨o0, k0⟩ := hone_of hpone 0 p0 rfl
    obtain ⟨o1, k1⟩ := hone_of hpone 1 p1 rfl
    obtain ⟨o2, k2⟩ := hone_of hpone 2 p2 rfl
    obtain ⟨o3, k3⟩ := hone_of hpone 3 p3 rfl
    obtain ⟨o4, k4⟩ := hone_of hpone 4 p4 rfl
    match xs, hlen with
    | [y0, y1, y2, y3, y4], _ =>
      have t0 : DataW.trod enc P w base spare held n p0.type [c0] = some y0 := by simpa [Value.cells, o0, k0] using hg 0 p0 rfl
      have t1 : DataW.trod enc P w base spare held n p1.type [c1] = some y1 := by simpa [Value.cells, o1, k1] using hg 1 p1 rfl
      have t2 : DataW.trod enc P w base spare held n p2.type [c2] = some y2 := by simpa [Value.cells, o2, k2] using hg 2 p2 rfl
      have t3 : DataW.trod enc P w base spare held n p3.type [c3] = some y3 := by simpa [Value.cells, o3, k3] using hg 3 p3 rfl
      have t4 : DataW.trod enc P w base spare held n p4.type [c4] = some y4 := by simpa [Value.cells, o4, k4] using hg 4 p4 rfl
      obtain ⟨x0, e0, _⟩ := DataW.trod_bool q0 t0
      obtain ⟨x1, e1, _, w1⟩ := DataW.trod_string q1 t1
      obtain ⟨x2, e2, _, w2⟩ := DataW.trod_string q2 t2
      obtain ⟨x3, e3, _, w3⟩ := DataW.trod_int q3 t3
      obtain ⟨A, len, cap, es, e4, r1, r2, r3, r4⟩ := open_edus q4 hs hone hC u0 u1 u2 u3 u4 u5 u6 u7 u8 u9 u10 t4
      simp only [List.cons.injEq, and_true] at e0 e1 e2 e3 e4
      subst e0 e1 e2 e3 e4
      exact ⟨x0, x1, x2, x3, A, len, cap, es, rfl, w1, w2, bounds_i64 w3, r1, r2, r3, r4⟩
end
end Go.Proofs.Ytnabbebkmafakaa
