/-
  The document's Position; positions as an order.
-/
import Derived.Test.YtjiecjpepiknmaaDagDepth
namespace Go.Proofs.Ytjiecjpepiknmaa
set_option maxRecDepth 20000
open Go.RowKit
set_option linter.unusedVariables false
set_option linter.unusedSimpArgs false

def posL (l : List Ev) (k : ByteArray) : Po := ⟨((depthL l k : Nat) : Int), k⟩

end Go.Proofs.Ytjiecjpepiknmaa
