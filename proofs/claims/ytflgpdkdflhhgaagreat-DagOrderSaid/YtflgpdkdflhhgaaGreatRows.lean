/-
  No cell of these rows narrows 'for every input' (looked for: loops, veiled, ifaces, maps, wideKeys, modest, calm, conditions, laid).
  DERIVED. THE GIVEN ROWS OF THIS SEAT. 3 by the template 'for every input the law returns true; each argument reads behind the call as it read before'; 0 by the template 'total and deterministic' (their statements: YtflgpdkdflhhgaaGreatTotals.lean).
  GIVEN WITH THE SEED: the statements are not yours to turn. If you find one false, say at which input.
  Laid BY PROGRAM, IN A SANDBOX (cutbox-rows.mjs): the forced cells as the released guide's own fill.sh prints them over the translation 719d60d2fcdf136f… (all of the seat's roots in one cut). By AI agents, Wed Nov 11 2026. No macro, syntax, notation, axiom, sorry.
-/
import Derived.Test.YtflgpdkdflhhgaaGreatChecked
import GoSem.Claim
import GoSem.ClaimJoined
import GoSem.ClaimMapViews
import Derived.JoinedTies
import Derived.KernelRfl
namespace Go.Proofs.YtflgpdkdflhhgaaGreat
/- THE CELL 'sum', in the pinned program and in every row, IS THE sha256 OF THE DUMP (.gsa) THAT YtflgpdkdflhhgaaGreatProg.lean LOADS. Nothing in Lean hashes anything: it is a label: what it is worth is what the hold of that sum in a sandbox is worth. -/
noncomputable def Tryz.pinned : Pinned := { name := "ytflgpdkdflhhgaagreat", sum := "719d60d2fcdf136fa62956ca0e1e1f2f2f768c75816c9c2dc8ea89629d93e5de", checked := Tryz.checked }
namespace Rows
def none {H : Type} : Left H := { results := [], args := [] }

/-- 'concourselaw07.DagAdds': WHATEVER THE INPUT: true; the input reads as it did. -/
def dagAddsSpec : ChangeSpec := { name := "dagAdds", fn := fun _ => fun
  | [d1, d2, d3] => { results := [.lit (.bool true)], args := [d1, d2, d3] }
  | _ => none }
def dagAddsRow : OpenClaim := { program := "ytflgpdkdflhhgaagreat", sum := "719d60d2fcdf136fa62956ca0e1e1f2f2f768c75816c9c2dc8ea89629d93e5de", func := "concourse/concourselaw07.DagAdds", spec := "dagAdds", inPlace := ["internal/bytealg.IndexByteString", "internal/bytealg.IndexString", "internal/bytealg.abigen_runtime_cmpstring"], unfollowed := true, recurses := true, named := ["internal/bytealg.MaxLen"], apart := false }
def DagAddsSaid : Prop := dagAddsRow.holds Tryz.pinned (OpenSpec.ofChange dagAddsSpec)

/-- ITS FALSE NEIGHBOUR: 'it returns false'. Refute it at one input. -/
def dagAddsWrong : ChangeSpec := { name := "dagAdds", fn := fun _ => fun
  | [d1, d2, d3] => { results := [.lit (.bool false)], args := [d1, d2, d3] }
  | _ => none }
def DagAddsWrongFalsely : Prop := dagAddsRow.holds Tryz.pinned (OpenSpec.ofChange dagAddsWrong)

/-- 'concourselaw07.DagOrder': WHATEVER THE INPUT: true; the input reads as it did. -/
def dagOrderSpec : ChangeSpec := { name := "dagOrder", fn := fun _ => fun
  | [d1, d2] => { results := [.lit (.bool true)], args := [d1, d2] }
  | _ => none }
def dagOrderRow : OpenClaim := { program := "ytflgpdkdflhhgaagreat", sum := "719d60d2fcdf136fa62956ca0e1e1f2f2f768c75816c9c2dc8ea89629d93e5de", func := "concourse/concourselaw07.DagOrder", spec := "dagOrder", inPlace := ["internal/bytealg.IndexByteString", "internal/bytealg.IndexString", "internal/bytealg.abigen_runtime_cmpstring"], unfollowed := true, recurses := true, named := ["internal/bytealg.MaxLen"], apart := false }
def DagOrderSaid : Prop := dagOrderRow.holds Tryz.pinned (OpenSpec.ofChange dagOrderSpec)

/-- ITS FALSE NEIGHBOUR: 'it returns false'. Refute it at one input. -/
def dagOrderWrong : ChangeSpec := { name := "dagOrder", fn := fun _ => fun
  | [d1, d2] => { results := [.lit (.bool false)], args := [d1, d2] }
  | _ => none }
def DagOrderWrongFalsely : Prop := dagOrderRow.holds Tryz.pinned (OpenSpec.ofChange dagOrderWrong)

/-- 'concourselaw07.DagRefuses': WHATEVER THE INPUT: true; the input reads as it did. -/
def dagRefusesSpec : ChangeSpec := { name := "dagRefuses", fn := fun _ => fun
  | [d1, d2, d3, d4] => { results := [.lit (.bool true)], args := [d1, d2, d3, d4] }
  | _ => none }
def dagRefusesRow : OpenClaim := { program := "ytflgpdkdflhhgaagreat", sum := "719d60d2fcdf136fa62956ca0e1e1f2f2f768c75816c9c2dc8ea89629d93e5de", func := "concourse/concourselaw07.DagRefuses", spec := "dagRefuses", inPlace := ["internal/bytealg.IndexByteString", "internal/bytealg.IndexString", "internal/bytealg.abigen_runtime_cmpstring"], unfollowed := true, recurses := true, named := ["internal/bytealg.MaxLen"], apart := false }
def DagRefusesSaid : Prop := dagRefusesRow.holds Tryz.pinned (OpenSpec.ofChange dagRefusesSpec)

/-- ITS FALSE NEIGHBOUR: 'it returns false'. Refute it at one input. -/
def dagRefusesWrong : ChangeSpec := { name := "dagRefuses", fn := fun _ => fun
  | [d1, d2, d3, d4] => { results := [.lit (.bool false)], args := [d1, d2, d3, d4] }
  | _ => none }
def DagRefusesWrongFalsely : Prop := dagRefusesRow.holds Tryz.pinned (OpenSpec.ofChange dagRefusesWrong)

/- THE SECOND FORM. 'bulk': how many values and letters a reading holds, each counted each time it is reached (what is shared counts as often as it is met; a slice's spare places count too). A statement '..UptoSaid' is the law's where the arguments, and the package variables that the reading takes, are together of bulk at most 1048576: NARROWER than '..Said'. Prove '..Said' where nothing that the law and all that it calls make is longer than what came in: it says more and counts as full. Else prove '..UptoSaid'. A law counts once. -/
mutual
def uptoBulk {H : Type} : DataW H → Nat
  | .lit (.string bytes) => bytes.length + 1
  | .lit _ => 1
  | .nil => 1
  | .ptr d => uptoBulk d + 1
  | .slice elems spare => uptoBulkAll elems + uptoBulkAll spare + 1
  | .agg parts => uptoBulkAll parts + 1
  | .iface _ d => uptoBulk d + 1
  | .map entries => uptoBulkEntries entries + 1
  | .held _ => 1
def uptoBulkAll {H : Type} : List (DataW H) → Nat
  | [] => 0
  | d :: r => uptoBulk d + uptoBulkAll r
def uptoBulkEntries {H : Type} : List (Lit × DataW H) → Nat
  | [] => 0
  | x :: r => uptoBulkEntry x + uptoBulkEntries r
def uptoBulkEntry {H : Type} : Lit × DataW H → Nat
  | (.string bytes, d) => bytes.length + uptoBulk d + 1
  | (_, d) => uptoBulk d + 1
 end
def uptoSmall : (H : Type) → List (DataW H) → Bool := fun _ ds => decide (uptoBulkAll ds ≤ 1048576)
def OpenSpec.upto (s : _root_.Go.ChangeSpec) : _root_.Go.OpenSpec := { _root_.Go.OpenSpec.ofChange s with cond := some uptoSmall }

/-- 'concourselaw07.DagAdds', WHERE WHAT IT READS IS OF BULK AT MOST 1048576: true; the input reads as it did. -/
def dagAddsUptoRow : OpenClaim := { program := "ytflgpdkdflhhgaagreat", sum := "719d60d2fcdf136fa62956ca0e1e1f2f2f768c75816c9c2dc8ea89629d93e5de", func := "concourse/concourselaw07.DagAdds", spec := "dagAdds", inPlace := ["internal/bytealg.IndexByteString", "internal/bytealg.IndexString", "internal/bytealg.abigen_runtime_cmpstring"], unfollowed := true, recurses := true, named := ["internal/bytealg.MaxLen"], apart := false, narrowed := true }
def DagAddsUptoSaid : Prop := dagAddsUptoRow.holds Tryz.pinned (OpenSpec.upto dagAddsSpec)

/-- 'concourselaw07.DagOrder', WHERE WHAT IT READS IS OF BULK AT MOST 1048576: true; the input reads as it did. -/
def dagOrderUptoRow : OpenClaim := { program := "ytflgpdkdflhhgaagreat", sum := "719d60d2fcdf136fa62956ca0e1e1f2f2f768c75816c9c2dc8ea89629d93e5de", func := "concourse/concourselaw07.DagOrder", spec := "dagOrder", inPlace := ["internal/bytealg.IndexByteString", "internal/bytealg.IndexString", "internal/bytealg.abigen_runtime_cmpstring"], unfollowed := true, recurses := true, named := ["internal/bytealg.MaxLen"], apart := false, narrowed := true }
def DagOrderUptoSaid : Prop := dagOrderUptoRow.holds Tryz.pinned (OpenSpec.upto dagOrderSpec)

/-- 'concourselaw07.DagRefuses', WHERE WHAT IT READS IS OF BULK AT MOST 1048576: true; the input reads as it did. -/
def dagRefusesUptoRow : OpenClaim := { program := "ytflgpdkdflhhgaagreat", sum := "719d60d2fcdf136fa62956ca0e1e1f2f2f768c75816c9c2dc8ea89629d93e5de", func := "concourse/concourselaw07.DagRefuses", spec := "dagRefuses", inPlace := ["internal/bytealg.IndexByteString", "internal/bytealg.IndexString", "internal/bytealg.abigen_runtime_cmpstring"], unfollowed := true, recurses := true, named := ["internal/bytealg.MaxLen"], apart := false, narrowed := true }
def DagRefusesUptoSaid : Prop := dagRefusesUptoRow.holds Tryz.pinned (OpenSpec.upto dagRefusesSpec)

end Rows
end Go.Proofs.YtflgpdkdflhhgaaGreat
