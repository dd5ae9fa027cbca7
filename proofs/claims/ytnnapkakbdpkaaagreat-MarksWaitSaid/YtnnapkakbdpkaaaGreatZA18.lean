/-
  What the statements stand on, part ZA18.
-/
import Derived.Test.YtnnapkakbdpkaaaGreatZA17
set_option linter.unusedVariables false
set_option linter.unusedSimpArgs false
namespace Go.Proofs.YtnnapkakbdpkaaaGreat
set_option maxRecDepth 20000
open Go.RowKit
def stampsB (e : Edu) : Bool := decide (0 ≤ e.tick ∧ e.tick ≤ 1099511627776 ∧ 0 ≤ e.stamp ∧ e.stamp ≤ 1099511627776)
def kindB (e : Edu) : Bool :=
 if e.kind = 1 then namedB 33 e.room && eventB e.event && threadB e.thread && !e.on && decide (e.span = 0) && decide (e.state = 0)
 else if e.kind = 2 then namedB 33 e.room && (if e.on then decide (1 ≤ e.span ∧ e.span ≤ 60) else decide (e.span = 0)) && decide (e.event.size = 0) && decide (e.thread.size = 0) && decide (e.state = 0) && !e.priv
 else if e.kind = 3 then decide (e.room.size = 0) && decide (e.event.size = 0) && decide (e.thread.size = 0) && !e.on && decide (e.span = 0) && !e.priv && decide (0 ≤ e.state ∧ e.state ≤ 2)
 else false
def localB (e : Edu) : Bool := namedB 64 e.user && stampsB e && kindB e
end Go.Proofs.YtnnapkakbdpkaaaGreat
