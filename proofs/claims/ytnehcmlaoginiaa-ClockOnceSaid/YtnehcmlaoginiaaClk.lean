/-
  Package clock: counters, and how long to wait.
-/
import Derived.Test.YtnehcmlaoginiaaRows
import Derived.WalkKit
import Derived.WalkSpells
import Derived.WalkLawsBesides
import Derived.Lib.Hide
import Derived.Below
import Derived.LoopTactic
import Derived.Laws.LoneSync
namespace Go.Proofs.Ytnehcmlaoginiaa
set_option maxRecDepth 20000
open Go.RowKit
set_option linter.unusedVariables false
set_option linter.unusedSimpArgs false

/-- A number brought between 0 and m. -/
def aroundI (n m : Int) : Int := (if n < 0 then -(n + 1) else n) % m
theorem aroundI_bd (n m : Int) (h : 0 < m) : 0 ≤ aroundI n m ∧ aroundI n m < m := by
  unfold aroundI
  exact ⟨Int.emod_nonneg _ (by omega), Int.emod_lt_of_pos _ h⟩

theorem around_any (n m : Int) (w : World) (h0 : -9223372036854775808 ≤ n) (h1 : n ≤ 9223372036854775807) (hm0 : 0 < m) (hm1 : m ≤ 9223372036854775807) :
    Calls Try.prog 7 #[.int .i64 n, .int .i64 m] w fun e w' => e = .returned (.int .i64 (aroundI n m)) ∧ w = w' := by
  have q0 : (m == 0) = false := by rw [beq_eq_false_iff_ne]; omega
  by_cases h : n < 0
  · have Hn := Lib.hid (show aroundI n m = -((n + 1).tmod m) by unfold aroundI; rw [if_pos h, ← Int.neg_tmod, Int.tmod_eq_emod_of_nonneg (by omega)])
    go_enter Try.func7, Try.ntmps7
    go_wp2
    go_ret
    rw [Hn.out]
    exact ⟨rfl, rfl⟩
  · have Hn := Lib.hid (show aroundI n m = n % m by simp [aroundI, h])
    go_enter Try.func7, Try.ntmps7
    go_wp2
    go_ret
    rw [Hn.out]
    exact ⟨rfl, rfl⟩

theorem heap_lt {w : World} {g : Nat} {o : Obj} (h : w.heap[g]? = some o) : g < w.heap.size := (Array.getElem?_eq_some_iff.1 h).1
theorem cell_at {w : World} {g : Nat} {cs : Array Value} {t : TypeId} (h : w.heap[g]? = some (.cells cs t (0, 0))) (i : Nat) : w.cell? ⟨g, i, none⟩ = cs[i]? := cell_of_row w g i cs t (0, 0) h
theorem free_at {w : World} {g : Nat} {cs : Array Value} {t : TypeId} (h : w.heap[g]? = some (.cells cs t (0, 0))) (i : Nat) : w.frozen? ⟨g, i, none⟩ = false := by simp [World.frozen?, h]
theorem heap_set {w : World} {g : Nat} {cs : Array Value} {t : TypeId} (h : w.heap[g]? = some (.cells cs t (0, 0))) (i : Nat) (u : Value) : (w.setCell ⟨g, i, none⟩ u).heap[g]? = some (.cells (cs.setIfInBounds i u) t (0, 0)) := by
  simp [World.setCell, Array.getElem?_modify, h]
theorem grown_set (w : World) (g i : Nat) (u : Value) : w.grownBy (w.setCell ⟨g, i, none⟩ u) (some g) :=
  ⟨rfl, rfl, rfl, by simp [World.setCell], fun k hk hne => Below.heap_setCell w _ u k (fun e => hne (by rw [e]))⟩
theorem grown_trans {a b c : World} {g : Nat} (h : a.grownBy b (some g)) (k : b.grownBy c (some g)) : a.grownBy c (some g) :=
  ⟨k.os.trans h.os, k.tape.trans h.tape, k.output.trans h.output, Nat.le_trans h.size k.size, fun i hi hne => (k.block i (Nat.lt_of_lt_of_le hi h.size) hne).trans (h.block i hi hne)⟩
theorem grown_refl (w : World) (g : Nat) : w.grownBy w (some g) := ⟨rfl, rfl, rfl, Nat.le_refl _, fun _ _ _ => rfl⟩
theorem later {w a b : World} (h : Below w.heap.size w a) (k : Below a.heap.size a b) : Below w.heap.size w b := h.trans (k.mono h.size)
theorem below_drewN {B : Nat} {a w : World} (h : Below B a w) (n : Nat) : Below B a (w.drewN n) := ⟨h.os, h.tape, h.output, h.size, h.block⟩

/-- A counter, at n, whose greatest number is m, in block g (of the code's or of the document's type). -/
def Cnt (w : World) (g : Nat) (T : TypeId) (n m : Int) : Prop := w.heap[g]? = some (.cells #[.int .i64 n, .int .i64 m] T (0, 0))
theorem Cnt.lt {w : World} {g : Nat} {T : TypeId} {n m : Int} (h : Cnt w g T n m) : g < w.heap.size := heap_lt h
theorem Cnt.below {w w' : World} {g : Nat} {T : TypeId} {n m : Int} (h : Cnt w g T n m) (hb : Below w.heap.size w w') : Cnt w' g T n m := (hb.block g h.lt).trans h
theorem Cnt.grown {w w' : World} {g k : Nat} {T : TypeId} {n m : Int} (h : Cnt w g T n m) (hb : w.grownBy w' (some k)) (hk : g ≠ k) : Cnt w' g T n m := (hb.block g h.lt (fun e => hk (by injection e))).trans h
theorem Cnt.set {w : World} {g : Nat} {T : TypeId} {n m : Int} (h : Cnt w g T n m) (n' : Int) : Cnt (w.setCell ⟨g, 0, none⟩ (.int .i64 n')) g T n' m := heap_set h 0 _

/-- Its number behind Add(k); what Add tells; its error. -/
def addN (n m k : Int) : Int := if k < 0 then n else n + min k (m - n)
def addX (n m k : Int) : Int := if k < 0 then 0 else if 0 < k ∧ n = m then 0 else n + min k (m - n)
def addE (n m k : Int) : Int := if k < 0 then 1 else if 0 < k ∧ n = m then 11 else 0
/-- A counter may be so. -/
def Fit (n m : Int) : Prop := 1 ≤ m ∧ m ≤ 1099511627776 ∧ 0 ≤ n ∧ n ≤ m
theorem Fit.add {n m : Int} (h : Fit n m) (k : Int) : Fit (addN n m k) m := by
  obtain ⟨h1, h2, h3, h4⟩ := h
  unfold addN
  split
  · exact ⟨h1, h2, h3, h4⟩
  · exact ⟨h1, h2, by omega, by omega⟩

def AddPost (w : World) (g : Nat) (T : TypeId) (n m k : Int) (e : Ending) (w' : World) : Prop :=
  e = .returned (.tuple #[.int .i64 (addX n m k), .int .i64 (addE n m k)]) ∧ Cnt w' g T (addN n m k) m ∧ w.grownBy w' (some g)

theorem at_any (g : Nat) (n m : Int) (w : World) (h : Cnt w g 48 n m) :
    Calls Try.prog 13 #[.pointer (some ⟨g, 0, none⟩)] w fun e w' => e = .returned (.int .i64 n) ∧ w = w' := by
  have c0 : w.cell? ⟨g, 0, none⟩ = some (.int .i64 n) := cell_at h 0
  have hld := run_call_load (P := Try.prog) Try.func23 (by kernel_rfl) (by kernel_rfl) (by kernel_rfl) .i64 (by kernel_rfl) c0
  go_enter Try.func13, Try.ntmps13
  go_wp2
  go_ret
  exact ⟨rfl, rfl⟩
theorem most_any (g : Nat) (n m : Int) (w : World) (h : Cnt w g 48 n m) :
    Calls Try.prog 14 #[.pointer (some ⟨g, 0, none⟩)] w fun e w' => e = .returned (.int .i64 m) ∧ w = w' := by
  have c1 : w.cell? ⟨g, 1, none⟩ = some (.int .i64 m) := cell_at h 1
  go_enter Try.func14, Try.ntmps14
  go_wp2
  go_ret
  exact ⟨rfl, rfl⟩
end Go.Proofs.Ytnehcmlaoginiaa
