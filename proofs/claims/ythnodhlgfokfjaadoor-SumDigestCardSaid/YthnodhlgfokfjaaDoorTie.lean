/-
  DERIVED. GIVEN WITH THE SEED: THE PROGRAM's TIES (one call each: nine closed facts by the kernel) AND EACH ROW's TIE, after the 31st guide's Derived/Test/Toyas{Tie, Card}.lean. No idea stands in it: it is a product of the set-up. Laid BY PROGRAM, IN A SANDBOX (cutbox-door.mjs). By AI agents, Wed Nov 11 2026. No macro, syntax, notation, axiom, sorry.
-/
import Derived.Test.YthnodhlgfokfjaaDoorRows
import Derived.LaidByTextLater
import Derived.SevenTiedAt
import Derived.LaidSub
import Derived.LaidOnce
namespace Go.Proofs.YthnodhlgfokfjaaDoor
open Go
set_option maxRecDepth 100000
theorem seatTie1 : Tryd.prog.laidByTextLater [("geyser/sum.fours", Rows.laid_geyser_sum_fours), ("geyser/sum.start", Rows.laid_geyser_sum_start), ("geyser/sum.rounds", Rows.laid_geyser_sum_rounds)] [.data, .data, .data] true :=
  Program.laidByTextLater_by_one 24 8 65 (by kernel_rfl) (by kernel_rfl) (by kernel_rfl) (by kernel_rfl) (by kernel_rfl) (by kernel_rfl) (fun _ _ => by kernel_rfl)
theorem noOwnUnsafe : Tryd.pinned.checked.prog.headLifts.contains "ownunsafe" = false := by kernel_rfl
theorem tie : Tryd.prog.laidByTextLater [("geyser/sum.fours", Rows.laid_geyser_sum_fours)] [.data] true :=
  Program.laidByTextLater.sub seatTie1 ["geyser/sum.fours"] (by kernel_rfl) (by kernel_rfl)
theorem sumCRC_row_tie : Rows.sumCRCRow.laidByTextAt .later Tryd.pinned [.data] true :=
  OpenClaim.laidByTextAt_later rfl rfl tie noOwnUnsafe
theorem sumRolls_row_tie : Rows.sumRollsRow.laidByTextAt .later Tryd.pinned [.data] true :=
  OpenClaim.laidByTextAt_later rfl rfl tie noOwnUnsafe
theorem tie2 : Tryd.prog.laidByTextLater [("geyser/sum.fours", Rows.laid_geyser_sum_fours), ("geyser/sum.start", Rows.laid_geyser_sum_start), ("geyser/sum.rounds", Rows.laid_geyser_sum_rounds)] [.data, .data, .data] true :=
  Program.laidByTextLater.sub seatTie1 ["geyser/sum.fours", "geyser/sum.start", "geyser/sum.rounds"] (by kernel_rfl) (by kernel_rfl)
theorem sumDigest_row_tie : Rows.sumDigestRow.laidByTextAt .later Tryd.pinned [.data, .data, .data] true :=
  OpenClaim.laidByTextAt_later rfl rfl tie2 noOwnUnsafe
theorem sumCRCUpto_row_tie : Rows.sumCRCUptoRow.laidByTextAt .later Tryd.pinned [.data] true :=
  OpenClaim.laidByTextAt_later rfl rfl tie noOwnUnsafe
theorem sumDigestUpto_row_tie : Rows.sumDigestUptoRow.laidByTextAt .later Tryd.pinned [.data, .data, .data] true :=
  OpenClaim.laidByTextAt_later rfl rfl tie2 noOwnUnsafe
theorem sumRollsUpto_row_tie : Rows.sumRollsUptoRow.laidByTextAt .later Tryd.pinned [.data] true :=
  OpenClaim.laidByTextAt_later rfl rfl tie noOwnUnsafe
end Go.Proofs.YthnodhlgfokfjaaDoor
