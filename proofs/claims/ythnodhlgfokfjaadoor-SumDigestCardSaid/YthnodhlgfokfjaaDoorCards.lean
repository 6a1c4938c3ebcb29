/-
  DERIVED. GIVEN WITH THE SEED: THE CARDS: each row of YthnodhlgfokfjaaDoorRows.lean that lists a variable, with what it lists TIED to the program's text (the seventh form; the later family's looks); each row that meets fmt, with fmt's text TOLD by the authors' own Lean function (tested against real Go, not proved from fmt's source: count such statements apart). THE CARD IS WHAT COUNTS. Prove the row's statement (the work); the ties are given (YthnodhlgfokfjaaDoorTie.lean); close each card by the builder's one call (the guide's Derived/Test/ToyasCard.lean, 'card_holds'). Laid BY PROGRAM, IN A SANDBOX (cutbox-door.mjs). By AI agents, Wed Nov 11 2026. No macro, syntax, notation, axiom, sorry.
-/
import Derived.Test.YthnodhlgfokfjaaDoorRows
import GoSem.ClaimSeven
namespace Go.Proofs.YthnodhlgfokfjaaDoor
namespace Rows

/-- THE TIED CARD OF 'geyserlaw02.SumCRC'. -/
def sumCRCCard : Claim7 := { stood := { row := sumCRCRow, standIns := [], harness := (true, "39021be4e01b797e58efe8830dfbaaa0b6c860bf118d3e6bb308eeb64d5fe8d5"), looks := false }, kinds := [], alts := [], laidByText := true, laidKinds := [.data], laidTests := true, laidLooks := .later }
def SumCRCCardSaid : Prop := Claim7.holds Tryd.pinned (.plain (OpenSpec.ofChange sumCRCSpec)) sumCRCCard

/-- THE TIED CARD OF 'geyserlaw02.SumDigest'. -/
def sumDigestCard : Claim7 := { stood := { row := sumDigestRow, standIns := [], harness := (true, "39021be4e01b797e58efe8830dfbaaa0b6c860bf118d3e6bb308eeb64d5fe8d5"), looks := false }, kinds := [], alts := [], laidByText := true, laidKinds := [.data, .data, .data], laidTests := true, laidLooks := .later }
def SumDigestCardSaid : Prop := Claim7.holds Tryd.pinned (.plain (OpenSpec.ofChange sumDigestSpec)) sumDigestCard

/-- THE TIED CARD OF 'geyserlaw02.SumRolls'. -/
def sumRollsCard : Claim7 := { stood := { row := sumRollsRow, standIns := [], harness := (true, "39021be4e01b797e58efe8830dfbaaa0b6c860bf118d3e6bb308eeb64d5fe8d5"), looks := false }, kinds := [], alts := [], laidByText := true, laidKinds := [.data], laidTests := true, laidLooks := .later }
def SumRollsCardSaid : Prop := Claim7.holds Tryd.pinned (.plain (OpenSpec.ofChange sumRollsSpec)) sumRollsCard

/-- THE SECOND FORM's CARD OF 'geyserlaw02.SumCRC'. -/
def sumCRCUptoCard : Claim7 := { stood := { row := sumCRCUptoRow, standIns := [], harness := (true, "39021be4e01b797e58efe8830dfbaaa0b6c860bf118d3e6bb308eeb64d5fe8d5"), looks := false }, kinds := [], alts := [], laidByText := true, laidKinds := [.data], laidTests := true, laidLooks := .later }
def SumCRCUptoCardSaid : Prop := Claim7.holds Tryd.pinned (.plain (OpenSpec.upto sumCRCSpec)) sumCRCUptoCard

/-- THE SECOND FORM's CARD OF 'geyserlaw02.SumDigest'. -/
def sumDigestUptoCard : Claim7 := { stood := { row := sumDigestUptoRow, standIns := [], harness := (true, "39021be4e01b797e58efe8830dfbaaa0b6c860bf118d3e6bb308eeb64d5fe8d5"), looks := false }, kinds := [], alts := [], laidByText := true, laidKinds := [.data, .data, .data], laidTests := true, laidLooks := .later }
def SumDigestUptoCardSaid : Prop := Claim7.holds Tryd.pinned (.plain (OpenSpec.upto sumDigestSpec)) sumDigestUptoCard

/-- THE SECOND FORM's CARD OF 'geyserlaw02.SumRolls'. -/
def sumRollsUptoCard : Claim7 := { stood := { row := sumRollsUptoRow, standIns := [], harness := (true, "39021be4e01b797e58efe8830dfbaaa0b6c860bf118d3e6bb308eeb64d5fe8d5"), looks := false }, kinds := [], alts := [], laidByText := true, laidKinds := [.data], laidTests := true, laidLooks := .later }
def SumRollsUptoCardSaid : Prop := Claim7.holds Tryd.pinned (.plain (OpenSpec.upto sumRollsSpec)) sumRollsUptoCard
end Rows
end Go.Proofs.YthnodhlgfokfjaaDoor
