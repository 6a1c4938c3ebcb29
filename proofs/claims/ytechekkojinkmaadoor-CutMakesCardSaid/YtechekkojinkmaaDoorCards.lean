/-
  DERIVED. GIVEN WITH THE SEED: THE CARDS: each row of YtechekkojinkmaaDoorRows.lean that lists a variable, with what it lists TIED to the program's text (the seventh form; the later family's looks); each row that meets fmt, with fmt's text TOLD by the authors' own Lean function (tested against real Go, not proved from fmt's source: count such statements apart). THE CARD IS WHAT COUNTS. Prove the row's statement (the work); the ties are given (YtechekkojinkmaaDoorTie.lean); close each card by the builder's one call (the guide's Derived/Test/ToyasCard.lean, 'card_holds'). Laid BY PROGRAM, IN A SANDBOX (cutbox-door.mjs). By AI agents, Wed Nov 11 2026. No macro, syntax, notation, axiom, sorry.
-/
import Derived.Test.YtechekkojinkmaaDoorRows
import GoSem.ClaimSeven
namespace Go.Proofs.YtechekkojinkmaaDoor
namespace Rows

/-- THE TIED CARD OF 'geyserlaw14.PacketSets'. -/
def packetSetsCard : Claim7 := { stood := { row := packetSetsRow, standIns := [], harness := (true, "43aa974a4ef876b4eda17255fb4e1996d214e3bc5b4666d2c19d9e2b56a9dffe"), looks := false }, kinds := [], alts := [], laidByText := true, laidKinds := [.data, .data, .data, .pinned], laidTests := true, laidLooks := .later }
def PacketSetsCardSaid : Prop := Claim7.holds Tryd.pinned (.plain (OpenSpec.ofChange packetSetsSpec)) packetSetsCard

/-- THE TIED CARD OF 'geyserlaw16.CutMakes'. -/
def cutMakesCard : Claim7 := { stood := { row := cutMakesRow, standIns := [], harness := (true, "43aa974a4ef876b4eda17255fb4e1996d214e3bc5b4666d2c19d9e2b56a9dffe"), looks := false }, kinds := [], alts := [], laidByText := true, laidKinds := [.data, .data, .data, .data, .pinned], laidTests := true, laidLooks := .later }
def CutMakesCardSaid : Prop := Claim7.holds Tryd.pinned (.plain (OpenSpec.ofChange cutMakesSpec)) cutMakesCard

/-- THE SECOND FORM's CARD OF 'geyserlaw14.PacketSets'. -/
def packetSetsUptoCard : Claim7 := { stood := { row := packetSetsUptoRow, standIns := [], harness := (true, "43aa974a4ef876b4eda17255fb4e1996d214e3bc5b4666d2c19d9e2b56a9dffe"), looks := false }, kinds := [], alts := [], laidByText := true, laidKinds := [.data, .data, .data, .pinned], laidTests := true, laidLooks := .later }
def PacketSetsUptoCardSaid : Prop := Claim7.holds Tryd.pinned (.plain (OpenSpec.upto packetSetsSpec)) packetSetsUptoCard

/-- THE SECOND FORM's CARD OF 'geyserlaw16.CutMakes'. -/
def cutMakesUptoCard : Claim7 := { stood := { row := cutMakesUptoRow, standIns := [], harness := (true, "43aa974a4ef876b4eda17255fb4e1996d214e3bc5b4666d2c19d9e2b56a9dffe"), looks := false }, kinds := [], alts := [], laidByText := true, laidKinds := [.data, .data, .data, .data, .pinned], laidTests := true, laidLooks := .later }
def CutMakesUptoCardSaid : Prop := Claim7.holds Tryd.pinned (.plain (OpenSpec.upto cutMakesSpec)) cutMakesUptoCard
end Rows
end Go.Proofs.YtechekkojinkmaaDoor
