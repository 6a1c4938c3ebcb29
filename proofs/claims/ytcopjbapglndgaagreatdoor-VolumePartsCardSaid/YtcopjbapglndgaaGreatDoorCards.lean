/-
  DERIVED. GIVEN WITH THE SEED: THE CARDS: each row of YtcopjbapglndgaaGreatDoorRows.lean that lists a variable, with what it lists TIED to the program's text (the seventh form; the later family's looks); each row that meets fmt, with fmt's text TOLD by the authors' own Lean function (tested against real Go, not proved from fmt's source: count such statements apart). THE CARD IS WHAT COUNTS. Prove the row's statement (the work); the ties are given (YtcopjbapglndgaaGreatDoorTie.lean); close each card by the builder's one call (the guide's Derived/Test/ToyasCard.lean, 'card_holds'). Laid BY PROGRAM, IN A SANDBOX (cutbox-door.mjs). By AI agents, Wed Nov 11 2026. No macro, syntax, notation, axiom, sorry.
-/
import Derived.Test.YtcopjbapglndgaaGreatDoorRows
import GoSem.ClaimSeven
namespace Go.Proofs.YtcopjbapglndgaaGreatDoor
namespace Rows

/-- THE TIED CARD OF 'geyserlaw17.VolumeMakes'. -/
def volumeMakesCard : Claim7 := { stood := { row := volumeMakesRow, standIns := [], harness := (true, "ed7c0b9063b3d7694bae2efc0b0726b01703c12ccedf24f63df5a71e804a2028"), looks := false }, kinds := [], alts := [], laidByText := true, laidKinds := [.data, .data, .data, .data, .pinned], laidTests := true, laidLooks := .later }
def VolumeMakesCardSaid : Prop := Claim7.holds Tryz.pinned (.plain (OpenSpec.ofChange volumeMakesSpec)) volumeMakesCard

/-- THE TIED CARD OF 'geyserlaw17.VolumeParts'. -/
def volumePartsCard : Claim7 := { stood := { row := volumePartsRow, standIns := [], harness := (true, "ed7c0b9063b3d7694bae2efc0b0726b01703c12ccedf24f63df5a71e804a2028"), looks := false }, kinds := [], alts := [], laidByText := true, laidKinds := [.data, .data, .data, .data, .pinned], laidTests := true, laidLooks := .later }
def VolumePartsCardSaid : Prop := Claim7.holds Tryz.pinned (.plain (OpenSpec.ofChange volumePartsSpec)) volumePartsCard

/-- THE TIED CARD OF 'geyserlaw17.VolumeOther'. -/
def volumeOtherCard : Claim7 := { stood := { row := volumeOtherRow, standIns := [], harness := (true, "ed7c0b9063b3d7694bae2efc0b0726b01703c12ccedf24f63df5a71e804a2028"), looks := false }, kinds := [], alts := [], laidByText := true, laidKinds := [.data, .data, .data, .data, .pinned], laidTests := true, laidLooks := .later }
def VolumeOtherCardSaid : Prop := Claim7.holds Tryz.pinned (.plain (OpenSpec.ofChange volumeOtherSpec)) volumeOtherCard

/-- THE SECOND FORM's CARD OF 'geyserlaw17.VolumeMakes'. -/
def volumeMakesUptoCard : Claim7 := { stood := { row := volumeMakesUptoRow, standIns := [], harness := (true, "ed7c0b9063b3d7694bae2efc0b0726b01703c12ccedf24f63df5a71e804a2028"), looks := false }, kinds := [], alts := [], laidByText := true, laidKinds := [.data, .data, .data, .data, .pinned], laidTests := true, laidLooks := .later }
def VolumeMakesUptoCardSaid : Prop := Claim7.holds Tryz.pinned (.plain (OpenSpec.upto volumeMakesSpec)) volumeMakesUptoCard

/-- THE SECOND FORM's CARD OF 'geyserlaw17.VolumeParts'. -/
def volumePartsUptoCard : Claim7 := { stood := { row := volumePartsUptoRow, standIns := [], harness := (true, "ed7c0b9063b3d7694bae2efc0b0726b01703c12ccedf24f63df5a71e804a2028"), looks := false }, kinds := [], alts := [], laidByText := true, laidKinds := [.data, .data, .data, .data, .pinned], laidTests := true, laidLooks := .later }
def VolumePartsUptoCardSaid : Prop := Claim7.holds Tryz.pinned (.plain (OpenSpec.upto volumePartsSpec)) volumePartsUptoCard

/-- THE SECOND FORM's CARD OF 'geyserlaw17.VolumeOther'. -/
def volumeOtherUptoCard : Claim7 := { stood := { row := volumeOtherUptoRow, standIns := [], harness := (true, "ed7c0b9063b3d7694bae2efc0b0726b01703c12ccedf24f63df5a71e804a2028"), looks := false }, kinds := [], alts := [], laidByText := true, laidKinds := [.data, .data, .data, .data, .pinned], laidTests := true, laidLooks := .later }
def VolumeOtherUptoCardSaid : Prop := Claim7.holds Tryz.pinned (.plain (OpenSpec.upto volumeOtherSpec)) volumeOtherUptoCard
end Rows
end Go.Proofs.YtcopjbapglndgaaGreatDoor
