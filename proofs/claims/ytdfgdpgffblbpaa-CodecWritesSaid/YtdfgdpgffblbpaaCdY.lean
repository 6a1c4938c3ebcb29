/-
  The law CodecWrites, walked: items that are too many, too.
-/
import Derived.Test.YtdfgdpgffblbpaaCdS
namespace Go.Proofs.Ytdfgdpgffblbpaa
open Go.ChangeShapes Go.WideShapes Go.ChangeAt Go.RowKit Go.Joins
set_option linter.unusedVariables false

set_option maxRecDepth 1000000 in
set_option maxHeartbeats 2000000 in
theorem codecWrites_out {Od : (Nat → Prop) → World → Nat → Option (List Nat) → Nat → Prop} (HC : OutC Od) (ia : Option Addr) (ic : Nat) (L : List Itm) (w : World) (hL : Its w ia ic L) (hF : fewI L = false) :
    Calls Try.prog 3 #[.slice ia L.length ic] w (TrueAnd w) := by
  have HA : Hid (∀ w, Calls Try.prog 6 #[] w fun e w' => e = .returned (.bool true) ∧ Below w.heap.size w w') := fun w => awake13_any HC w
  have HFW : Hid (∀ w', Below w.heap.size w w' → Calls Try.prog 7 #[.slice ia L.length ic] w' fun e w'' => e = .returned (.bool false) ∧ w' = w'') := fun w' k => by
    have h := fewI_any ia ic L w' (hL.below k)
    rw [hF] at h; exact h
  clear HC hL hF
  go_enter Try.func3, Try.ntmps3
  go_wp2_with fail
  (with_reducible refine (HA.out w).mono ?_)
  rintro e w1 ⟨rfl, b1⟩
  have HB1 := Lib.hid b1
  have HF1 := Lib.hid (HFW.out w1 b1)
  clear b1 HFW
  go_wp2_with fail
  (with_reducible refine HF1.out.mono ?_)
  rintro e w2 ⟨rfl, rfl⟩
  clear HF1
  go_wp2_with fail
  (with_reducible refine (HA.out w1).mono ?_)
  rintro e w3 ⟨rfl, b3⟩
  have HB3 := Lib.hid (HB1.out.trans (b3.mono HB1.out.size))
  clear b3 HA
  go_wp2_with fail
  go_ret
  exact ⟨rfl, HB3.out⟩
theorem codecWrites_walk {Od : (Nat → Prop) → World → Nat → Option (List Nat) → Nat → Prop} (HC : OutC Od) {Id : Nat → (Nat → Prop) → World → Nat → Option (List Nat) → Prop} (HI : InC Id)
    (ia : Option Addr) (ic : Nat) (L : List Itm) (w : World) (hL : Its w ia ic L) : Calls Try.prog 3 #[.slice ia L.length ic] w (TrueAnd w) := by
  by_cases hF : fewI L = true
  · exact codecWrites_main HC HI ia ic L w hL hF
  · exact codecWrites_out HC ia ic L w hL (by simpa using hF)
end Go.Proofs.Ytdfgdpgffblbpaa
