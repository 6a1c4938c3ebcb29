/-
  DERIVED. GIVEN WITH THE SEED: THE CARDS: each row of YthpfjgbhacdpgaaDoorRows.lean that lists a variable, with what it lists TIED to the program's text (the seventh form; the later family's looks); each row that meets fmt, with fmt's text TOLD by the authors' own Lean function (tested against real Go, not proved from fmt's source: count such statements apart). THE CARD IS WHAT COUNTS. Prove the row's statement (the work); the ties are given (YthpfjgbhacdpgaaDoorTie.lean); close each card by the builder's one call (the guide's Derived/Test/ToyasCard.lean, 'card_holds'). Laid BY PROGRAM, IN A SANDBOX (cutbox-door.mjs). By AI agents, Wed Nov 11 2026. No macro, syntax, notation, axiom, sorry.
-/
import Derived.Test.YthpfjgbhacdpgaaDoorRows
import GoSem.ClaimSeven
namespace Go.Proofs.YthpfjgbhacdpgaaDoor
namespace Rows

/-- THE TIED CARD OF 'geyserlaw14.PacketWrites'. -/
def packetWritesCard : Claim7 := { stood := { row := packetWritesRow, standIns := [], harness := (true, "584e3f235941cb3dd6c3f24d5e9505144810aa6150e817d9c92180a721887e2b"), looks := false }, kinds := [], alts := [], laidByText := true, laidKinds := [.data, .data], laidTests := true, laidLooks := .later }
def PacketWritesCardSaid : Prop := Claim7.holds Tryd.pinned (.plain (OpenSpec.ofChange packetWritesSpec)) packetWritesCard

/-- THE TIED CARD OF 'geyserlaw14.PacketReads'. -/
def packetReadsCard : Claim7 := { stood := { row := packetReadsRow, standIns := [], harness := (true, "584e3f235941cb3dd6c3f24d5e9505144810aa6150e817d9c92180a721887e2b"), looks := false }, kinds := [], alts := [], laidByText := true, laidKinds := [.data, .data], laidTests := true, laidLooks := .later }
def PacketReadsCardSaid : Prop := Claim7.holds Tryd.pinned (.plain (OpenSpec.ofChange packetReadsSpec)) packetReadsCard

/-- THE TIED CARD OF 'geyserlaw14.PacketFinds'. -/
def packetFindsCard : Claim7 := { stood := { row := packetFindsRow, standIns := [], harness := (true, "584e3f235941cb3dd6c3f24d5e9505144810aa6150e817d9c92180a721887e2b"), looks := false }, kinds := [], alts := [], laidByText := true, laidKinds := [.data, .data], laidTests := true, laidLooks := .later }
def PacketFindsCardSaid : Prop := Claim7.holds Tryd.pinned (.plain (OpenSpec.ofChange packetFindsSpec)) packetFindsCard

/-- THE TIED CARD OF 'geyserlaw14.PacketSets'. -/
def packetSetsCard : Claim7 := { stood := { row := packetSetsRow, standIns := [], harness := (true, "584e3f235941cb3dd6c3f24d5e9505144810aa6150e817d9c92180a721887e2b"), looks := false }, kinds := [], alts := [], laidByText := true, laidKinds := [.data, .data, .data, .pinned], laidTests := true, laidLooks := .later }
def PacketSetsCardSaid : Prop := Claim7.holds Tryd.pinned (.plain (OpenSpec.ofChange packetSetsSpec)) packetSetsCard

/-- THE TIED CARD OF 'geyserlaw14.PacketJoins'. -/
def packetJoinsCard : Claim7 := { stood := { row := packetJoinsRow, standIns := [], harness := (true, "584e3f235941cb3dd6c3f24d5e9505144810aa6150e817d9c92180a721887e2b"), looks := false }, kinds := [], alts := [], laidByText := true, laidKinds := [.data, .data, .data, .pinned], laidTests := true, laidLooks := .later }
def PacketJoinsCardSaid : Prop := Claim7.holds Tryd.pinned (.plain (OpenSpec.ofChange packetJoinsSpec)) packetJoinsCard

/-- THE SECOND FORM's CARD OF 'geyserlaw14.PacketWrites'. -/
def packetWritesUptoCard : Claim7 := { stood := { row := packetWritesUptoRow, standIns := [], harness := (true, "584e3f235941cb3dd6c3f24d5e9505144810aa6150e817d9c92180a721887e2b"), looks := false }, kinds := [], alts := [], laidByText := true, laidKinds := [.data, .data], laidTests := true, laidLooks := .later }
def PacketWritesUptoCardSaid : Prop := Claim7.holds Tryd.pinned (.plain (OpenSpec.upto packetWritesSpec)) packetWritesUptoCard

/-- THE SECOND FORM's CARD OF 'geyserlaw14.PacketReads'. -/
def packetReadsUptoCard : Claim7 := { stood := { row := packetReadsUptoRow, standIns := [], harness := (true, "584e3f235941cb3dd6c3f24d5e9505144810aa6150e817d9c92180a721887e2b"), looks := false }, kinds := [], alts := [], laidByText := true, laidKinds := [.data, .data], laidTests := true, laidLooks := .later }
def PacketReadsUptoCardSaid : Prop := Claim7.holds Tryd.pinned (.plain (OpenSpec.upto packetReadsSpec)) packetReadsUptoCard

/-- THE SECOND FORM's CARD OF 'geyserlaw14.PacketFinds'. -/
def packetFindsUptoCard : Claim7 := { stood := { row := packetFindsUptoRow, standIns := [], harness := (true, "584e3f235941cb3dd6c3f24d5e9505144810aa6150e817d9c92180a721887e2b"), looks := false }, kinds := [], alts := [], laidByText := true, laidKinds := [.data, .data], laidTests := true, laidLooks := .later }
def PacketFindsUptoCardSaid : Prop := Claim7.holds Tryd.pinned (.plain (OpenSpec.upto packetFindsSpec)) packetFindsUptoCard

/-- THE SECOND FORM's CARD OF 'geyserlaw14.PacketSets'. -/
def packetSetsUptoCard : Claim7 := { stood := { row := packetSetsUptoRow, standIns := [], harness := (true, "584e3f235941cb3dd6c3f24d5e9505144810aa6150e817d9c92180a721887e2b"), looks := false }, kinds := [], alts := [], laidByText := true, laidKinds := [.data, .data, .data, .pinned], laidTests := true, laidLooks := .later }
def PacketSetsUptoCardSaid : Prop := Claim7.holds Tryd.pinned (.plain (OpenSpec.upto packetSetsSpec)) packetSetsUptoCard

/-- THE SECOND FORM's CARD OF 'geyserlaw14.PacketJoins'. -/
def packetJoinsUptoCard : Claim7 := { stood := { row := packetJoinsUptoRow, standIns := [], harness := (true, "584e3f235941cb3dd6c3f24d5e9505144810aa6150e817d9c92180a721887e2b"), looks := false }, kinds := [], alts := [], laidByText := true, laidKinds := [.data, .data, .data, .pinned], laidTests := true, laidLooks := .later }
def PacketJoinsUptoCardSaid : Prop := Claim7.holds Tryd.pinned (.plain (OpenSpec.upto packetJoinsSpec)) packetJoinsUptoCard
end Rows
end Go.Proofs.YthpfjgbhacdpgaaDoor
