/-
  DERIVED. GIVEN WITH THE SEED: THE CARDS: each row of YtfgaohilpbocbaaGreatDoorRows.lean that lists a variable, with what it lists TIED to the program's text (the seventh form; the later family's looks); each row that meets fmt, with fmt's text TOLD by the authors' own Lean function (tested against real Go, not proved from fmt's source: count such statements apart). THE CARD IS WHAT COUNTS. Prove the row's statement (the work); the ties are given (YtfgaohilpbocbaaGreatDoorTie.lean); close each card by the builder's one call (the guide's Derived/Test/ToyasCard.lean, 'card_holds'). Laid BY PROGRAM, IN A SANDBOX (cutbox-door.mjs). By AI agents, Wed Nov 11 2026. No macro, syntax, notation, axiom, sorry.
-/
import Derived.Test.YtfgaohilpbocbaaGreatDoorRows
import GoSem.ClaimSeven
namespace Go.Proofs.YtfgaohilpbocbaaGreatDoor
namespace Rows

/-- THE TIED CARD OF 'geyserlaw18.ScanLooks'. -/
def scanLooksCard : Claim7 := { stood := { row := scanLooksRow, standIns := [], harness := (true, "d7883bd23b0e09112c58102a202bad903896b4af5dbf7871c9f9700df39dc7fb"), looks := false }, kinds := [], alts := [], laidByText := true, laidKinds := [.data, .data, .data, .data, .pinned], laidTests := true, laidLooks := .later }
def ScanLooksCardSaid : Prop := Claim7.holds Tryz.pinned (.plain (OpenSpec.ofChange scanLooksSpec)) scanLooksCard

/-- THE TIED CARD OF 'geyserlaw18.ScanSets'. -/
def scanSetsCard : Claim7 := { stood := { row := scanSetsRow, standIns := [], harness := (true, "d7883bd23b0e09112c58102a202bad903896b4af5dbf7871c9f9700df39dc7fb"), looks := false }, kinds := [], alts := [], laidByText := true, laidKinds := [.data, .data, .data, .data, .pinned], laidTests := true, laidLooks := .later }
def ScanSetsCardSaid : Prop := Claim7.holds Tryz.pinned (.plain (OpenSpec.ofChange scanSetsSpec)) scanSetsCard

/-- THE TIED CARD OF 'geyserlaw18.ScanLoads'. -/
def scanLoadsCard : Claim7 := { stood := { row := scanLoadsRow, standIns := [], harness := (true, "d7883bd23b0e09112c58102a202bad903896b4af5dbf7871c9f9700df39dc7fb"), looks := false }, kinds := [], alts := [], laidByText := true, laidKinds := [.data, .data, .data, .data, .pinned], laidTests := true, laidLooks := .later }
def ScanLoadsCardSaid : Prop := Claim7.holds Tryz.pinned (.plain (OpenSpec.ofChange scanLoadsSpec)) scanLoadsCard

/-- THE SECOND FORM's CARD OF 'geyserlaw18.ScanLooks'. -/
def scanLooksUptoCard : Claim7 := { stood := { row := scanLooksUptoRow, standIns := [], harness := (true, "d7883bd23b0e09112c58102a202bad903896b4af5dbf7871c9f9700df39dc7fb"), looks := false }, kinds := [], alts := [], laidByText := true, laidKinds := [.data, .data, .data, .data, .pinned], laidTests := true, laidLooks := .later }
def ScanLooksUptoCardSaid : Prop := Claim7.holds Tryz.pinned (.plain (OpenSpec.upto scanLooksSpec)) scanLooksUptoCard

/-- THE SECOND FORM's CARD OF 'geyserlaw18.ScanSets'. -/
def scanSetsUptoCard : Claim7 := { stood := { row := scanSetsUptoRow, standIns := [], harness := (true, "d7883bd23b0e09112c58102a202bad903896b4af5dbf7871c9f9700df39dc7fb"), looks := false }, kinds := [], alts := [], laidByText := true, laidKinds := [.data, .data, .data, .data, .pinned], laidTests := true, laidLooks := .later }
def ScanSetsUptoCardSaid : Prop := Claim7.holds Tryz.pinned (.plain (OpenSpec.upto scanSetsSpec)) scanSetsUptoCard

/-- THE SECOND FORM's CARD OF 'geyserlaw18.ScanLoads'. -/
def scanLoadsUptoCard : Claim7 := { stood := { row := scanLoadsUptoRow, standIns := [], harness := (true, "d7883bd23b0e09112c58102a202bad903896b4af5dbf7871c9f9700df39dc7fb"), looks := false }, kinds := [], alts := [], laidByText := true, laidKinds := [.data, .data, .data, .data, .pinned], laidTests := true, laidLooks := .later }
def ScanLoadsUptoCardSaid : Prop := Claim7.holds Tryz.pinned (.plain (OpenSpec.upto scanLoadsSpec)) scanLoadsUptoCard
end Rows
end Go.Proofs.YtfgaohilpbocbaaGreatDoor
