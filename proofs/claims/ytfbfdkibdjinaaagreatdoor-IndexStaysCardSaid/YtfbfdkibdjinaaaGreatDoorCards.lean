/-
  DERIVED. GIVEN WITH THE SEED: THE CARDS: each row of YtfbfdkibdjinaaaGreatDoorRows.lean that lists a variable, with what it lists TIED to the program's text (the seventh form; the later family's looks); each row that meets fmt, with fmt's text TOLD by the authors' own Lean function (tested against real Go, not proved from fmt's source: count such statements apart). THE CARD IS WHAT COUNTS. Prove the row's statement (the work); the ties are given (YtfbfdkibdjinaaaGreatDoorTie.lean); close each card by the builder's one call (the guide's Derived/Test/ToyasCard.lean, 'card_holds'). Laid BY PROGRAM, IN A SANDBOX (cutbox-door.mjs). By AI agents, Wed Nov 11 2026. No macro, syntax, notation, axiom, sorry.
-/
import Derived.Test.YtfbfdkibdjinaaaGreatDoorRows
import GoSem.ClaimSeven
namespace Go.Proofs.YtfbfdkibdjinaaaGreatDoor
namespace Rows

/-- THE TIED CARD OF 'concourselaw08.IndexAhead'. -/
def indexAheadCard : Claim7 := { stood := { row := indexAheadRow, standIns := [], harness := (true, "634ddda6856a6794a2dd482729ea5e318673b73ca5e795fe8d05a277a294de00"), looks := false }, kinds := [], alts := [], laidByText := true, laidKinds := [.data], laidTests := true, laidLooks := .later }
def IndexAheadCardSaid : Prop := Claim7.holds Tryz.pinned (.plain (OpenSpec.ofChange indexAheadSpec)) indexAheadCard

/-- THE TIED CARD OF 'concourselaw08.IndexLists'. -/
def indexListsCard : Claim7 := { stood := { row := indexListsRow, standIns := [], harness := (true, "634ddda6856a6794a2dd482729ea5e318673b73ca5e795fe8d05a277a294de00"), looks := false }, kinds := [], alts := [], laidByText := true, laidKinds := [.data], laidTests := true, laidLooks := .later }
def IndexListsCardSaid : Prop := Claim7.holds Tryz.pinned (.plain (OpenSpec.ofChange indexListsSpec)) indexListsCard

/-- THE TIED CARD OF 'concourselaw08.IndexChains'. -/
def indexChainsCard : Claim7 := { stood := { row := indexChainsRow, standIns := [], harness := (true, "634ddda6856a6794a2dd482729ea5e318673b73ca5e795fe8d05a277a294de00"), looks := false }, kinds := [], alts := [], laidByText := true, laidKinds := [.data], laidTests := true, laidLooks := .later }
def IndexChainsCardSaid : Prop := Claim7.holds Tryz.pinned (.plain (OpenSpec.ofChange indexChainsSpec)) indexChainsCard

/-- THE TIED CARD OF 'concourselaw08.IndexStays'. -/
def indexStaysCard : Claim7 := { stood := { row := indexStaysRow, standIns := [], harness := (true, "634ddda6856a6794a2dd482729ea5e318673b73ca5e795fe8d05a277a294de00"), looks := false }, kinds := [], alts := [], laidByText := true, laidKinds := [.data], laidTests := true, laidLooks := .later }
def IndexStaysCardSaid : Prop := Claim7.holds Tryz.pinned (.plain (OpenSpec.ofChange indexStaysSpec)) indexStaysCard

/-- THE TIED CARD OF 'concourselaw08.IndexParents'. -/
def indexParentsCard : Claim7 := { stood := { row := indexParentsRow, standIns := [], harness := (true, "634ddda6856a6794a2dd482729ea5e318673b73ca5e795fe8d05a277a294de00"), looks := false }, kinds := [], alts := [], laidByText := true, laidKinds := [.data], laidTests := true, laidLooks := .later }
def IndexParentsCardSaid : Prop := Claim7.holds Tryz.pinned (.plain (OpenSpec.ofChange indexParentsSpec)) indexParentsCard

/-- THE SECOND FORM's CARD OF 'concourselaw08.IndexAhead'. -/
def indexAheadUptoCard : Claim7 := { stood := { row := indexAheadUptoRow, standIns := [], harness := (true, "634ddda6856a6794a2dd482729ea5e318673b73ca5e795fe8d05a277a294de00"), looks := false }, kinds := [], alts := [], laidByText := true, laidKinds := [.data], laidTests := true, laidLooks := .later }
def IndexAheadUptoCardSaid : Prop := Claim7.holds Tryz.pinned (.plain (OpenSpec.upto indexAheadSpec)) indexAheadUptoCard

/-- THE SECOND FORM's CARD OF 'concourselaw08.IndexLists'. -/
def indexListsUptoCard : Claim7 := { stood := { row := indexListsUptoRow, standIns := [], harness := (true, "634ddda6856a6794a2dd482729ea5e318673b73ca5e795fe8d05a277a294de00"), looks := false }, kinds := [], alts := [], laidByText := true, laidKinds := [.data], laidTests := true, laidLooks := .later }
def IndexListsUptoCardSaid : Prop := Claim7.holds Tryz.pinned (.plain (OpenSpec.upto indexListsSpec)) indexListsUptoCard

/-- THE SECOND FORM's CARD OF 'concourselaw08.IndexChains'. -/
def indexChainsUptoCard : Claim7 := { stood := { row := indexChainsUptoRow, standIns := [], harness := (true, "634ddda6856a6794a2dd482729ea5e318673b73ca5e795fe8d05a277a294de00"), looks := false }, kinds := [], alts := [], laidByText := true, laidKinds := [.data], laidTests := true, laidLooks := .later }
def IndexChainsUptoCardSaid : Prop := Claim7.holds Tryz.pinned (.plain (OpenSpec.upto indexChainsSpec)) indexChainsUptoCard

/-- THE SECOND FORM's CARD OF 'concourselaw08.IndexStays'. -/
def indexStaysUptoCard : Claim7 := { stood := { row := indexStaysUptoRow, standIns := [], harness := (true, "634ddda6856a6794a2dd482729ea5e318673b73ca5e795fe8d05a277a294de00"), looks := false }, kinds := [], alts := [], laidByText := true, laidKinds := [.data], laidTests := true, laidLooks := .later }
def IndexStaysUptoCardSaid : Prop := Claim7.holds Tryz.pinned (.plain (OpenSpec.upto indexStaysSpec)) indexStaysUptoCard

/-- THE SECOND FORM's CARD OF 'concourselaw08.IndexParents'. -/
def indexParentsUptoCard : Claim7 := { stood := { row := indexParentsUptoRow, standIns := [], harness := (true, "634ddda6856a6794a2dd482729ea5e318673b73ca5e795fe8d05a277a294de00"), looks := false }, kinds := [], alts := [], laidByText := true, laidKinds := [.data], laidTests := true, laidLooks := .later }
def IndexParentsUptoCardSaid : Prop := Claim7.holds Tryz.pinned (.plain (OpenSpec.upto indexParentsSpec)) indexParentsUptoCard
end Rows
end Go.Proofs.YtfbfdkibdjinaaaGreatDoor
