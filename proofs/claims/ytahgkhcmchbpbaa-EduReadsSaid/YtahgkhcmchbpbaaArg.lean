/-
  A row of bytes that came in, and what is appended of it.
-/
import Derived.Test.YtahgkhcmchbpbaaLay
import Derived.Test.YtahgkhcmchbpbaaTiny
import Derived.OpenShut
namespace Go.Proofs.Ytahgkhcmchbpbaa
open Go.RowKit
set_option linter.unusedVariables false
set_option linter.unusedSimpArgs false

/-- A row of bytes as it is handed in. -/
def ArgB (w : World) (A : Option Addr) (len cap : Nat) (bs : List UInt8) : Prop :=
  bs.length = len ∧ len ≤ cap ∧ cap ≤ maxLen ∧ (A = none → cap = 0) ∧ ∀ ad, A = some ad → ∀ j x, bs[j]? = some x → w.cell? (ad.add j) = some (bV x)
theorem ArgB.below {w w' : World} {A : Option Addr} {len cap : Nat} {bs : List UInt8} (h : ArgB w A len cap bs) (hb : Below w.heap.size w w') : ArgB w' A len cap bs := by
  obtain ⟨h1, h2, h3, h4, h5⟩ := h
  refine ⟨h1, h2, h3, h4, fun ad ha j x hx => ?_⟩
  have h6 := h5 ad ha j x hx
  rw [hb.cell (World.block_lt_of_cell? w _ h6)]
  exact h6

/-- A row of bytes as the proof of a statement is told of it. -/
def RowB (w : World) (a : Option Addr) (len cap : Nat) (zs : List Int) : Prop :=
  (a = none ∧ len = 0 ∧ cap = 0 ∧ zs = []) ∨
  ∃ x, a = some x ∧ len ≤ cap ∧ cap ≤ maxLen ∧ zs.length = cap ∧ (∀ i, i < zs.length → w.cell? (x.add i) = some (.int .u8 (zs.getD i 0))) ∧ ∀ n ∈ zs, (Lit.int .u8 n).wf = true
theorem RowB.arg {w : World} {a : Option Addr} {len cap : Nat} {zs : List Int} (h : RowB w a len cap zs) : ∃ bs, ArgB w a len cap bs := by
  rcases h with ⟨rfl, rfl, rfl, rfl⟩ | ⟨x, rfl, h1, h2, h3, h4, h5⟩
  · exact ⟨[], rfl, Nat.le_refl _, Nat.zero_le _, fun _ => rfl, fun ad ha => by cases ha⟩
  · refine ⟨(zs.take len).map fun n => UInt8.ofNat n.toNat, by simp; omega, h1, h2, (fun h => by cases h), fun ad ha j y hy => ?_⟩
    injection ha with ha
    subst ha
    rw [List.getElem?_map, List.getElem?_take] at hy
    split at hy
    · rename_i hj
      have hjz : j < zs.length := by omega
      rw [List.getElem?_eq_getElem hjz] at hy
      injection hy with hy
      have hm := bounds_u8 (h5 zs[j] (List.getElem_mem _))
      rw [h4 j hjz, List.getD_eq_getElem?_getD, List.getElem?_eq_getElem hjz, ← hy]
      unfold bV
      rw [toNat_ofNat (by omega)]
      congr 2
      simp
      omega
    · cases hy

/-- The first bytes of what came in, as they are appended to nothing. -/
theorem Src.ofArg {w : World} {A : Option Addr} {len cap : Nat} {bs : List UInt8} (h : ArgB w A len cap bs) (k c : Nat) (hk : k ≤ len) : Src Try.prog 1 28 (.slice A k c) k (bVs (bs.take k)) w := by
  obtain ⟨h1, h2, h3, h4, h5⟩ := h
  have hl : (bVs (bs.take k)).length = k * 1 := by rw [bVs_len, List.length_take]; omega
  cases A with
  | none =>
    obtain rfl : k = 0 := by have := h4 rfl; omega
    exact Src.ofNil w Try.underlying28 c
  | some ad =>
    refine Src.ofSlice w Try.underlying28 ad k c _ hl (fun j u hu => ?_) (bVs_one _)
    obtain ⟨x, hx, rfl⟩ := bVs_get hu
    refine h5 ad rfl j x ?_
    rw [List.getElem?_take] at hx
    split at hx
    · exact hx
    · cases hx

theorem run_puts_nothing (w : World) (ty : TypeId) (A : Option Addr) (c : Nat) : (Builtin.append_ #[28, 28] ty #[.slice none 0 0, .slice A 0 c]).run Try.prog w = .ok (.slice none 0 0) w := by
  obtain ⟨i0, hi0, hz0, hz1, hz2⟩ := info_parts byte_info
  cases A with
  | none => simp [Builtin.append_, run_underlying Try.underlying28, sizeOf, typeInfo, hi0, Builtin.lenOf, Builtin.firstCells]
  | some ad => simp [Builtin.append_, run_underlying Try.underlying28, sizeOf, typeInfo, hi0, Builtin.lenOf, Builtin.firstCells, loadCells, loadCellsFrom]

theorem wpList_nothing {w : World} {ops : Array Oper} {rest : List Oper} {o : Oper} {a : Act} {Q : Exit → Act → World → Prop} (hgd : o.guard = none) (s x : Operand)
    (ho : o.op = .call { callee := .builtin .append, args := #[s, x], argTypes := #[28, 28] }) (hv : a.eval s = .slice none 0 0) (A : Option Addr) (c : Nat) (hx : a.eval x = .slice A 0 c)
    (K : wpList Try.prog ops Q rest (a.put o.dst (.slice none 0 0)) w) : wpList Try.prog ops Q (o :: rest) a w := by
  refine wpList_plain hgd fun _ hK => ?_
  unfold Oper.wp execOp
  simp only [ho, resolve, invoke, builtin, Sem.run_bind, Sem.run_pure, Result.andThen_ok, List.map_toArray, List.map_cons, List.map_nil, hv, hx, run_puts_nothing]
  exact hK _ _ K

end Go.Proofs.Ytahgkhcmchbpbaa
