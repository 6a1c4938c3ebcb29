/-
  The law of package peel's Right, walked.
-/
import Derived.Test.YticppgopblgkbaaPeelC
namespace Go.Proofs.Yticppgopblgkbaa
open Go.ChangeShapes Go.WideShapes Go.ChangeAt Go.RowKit Go.Joins
set_option linter.unusedVariables false

def TrueAnd (w : World) (e : Ending) (w' : World) : Prop := e = .returned (.bool true) ∧ Below w.heap.size w w'

set_option maxRecDepth 100000 in
set_option maxHeartbeats 2000000 in
theorem peelRights_walk (a : Option Addr) (cap : Nat) (es : Eqz) (n : Int) (hn : -9223372036854775808 ≤ n ∧ n ≤ 9223372036854775807) (w : World) (hs : Er w a cap es) :
    Calls Try.prog 3 #[.slice a es.length cap, .int .i64 n] w (TrueAnd w) := by
  have HS := Lib.hid hs
  have HAW := Lib.hid awake_any
  have HFW := Lib.hid (fun w h => few_any a cap es w h)
  have HRR := Lib.hid (fun w h => right_any a cap es n hn w h)
  have HRD := Lib.hid (fun w h => refRight_any a cap es n hn w h)
  clear hs
  generalize decide (RightP es n) = r at *
  go_enter Try.func3, Try.ntmps3
  go_wp2_with fail
  refine (HAW.out w).mono ?_
  rintro e w1 ⟨rfl, b1⟩
  have HB1 := Lib.hid b1
  clear b1
  go_wp2_with fail
  by_cases hf : FewP es
  · have hd : decide (FewP es) = true := by rw [decide_eq_true_iff]; exact hf
    rw [hd] at HFW
    refine (HFW.out w1 (HS.out.below HB1.out)).mono ?_
    rintro e w' ⟨rfl, rfl⟩
    go_wp2_with fail
    refine (HRR.out w1 (HS.out.below HB1.out)).mono ?_
    rintro e w2 ⟨rfl, b2⟩
    have HB2 := Lib.hid (HB1.out.trans (b2.mono HB1.out.size))
    clear b2
    go_wp2_with fail
    refine (HRD.out w2 (HS.out.below HB2.out)).mono ?_
    rintro e w3 ⟨rfl, b3⟩
    have HB3 := Lib.hid (HB2.out.trans (b3.mono HB2.out.size))
    clear b3
    have hr : (r == r) = true := by simp
    go_wp2_with fail
    go_ret
    exact ⟨by simp, HB3.out⟩
  · have hd : decide (FewP es) = false := by rw [decide_eq_false_iff_not]; exact hf
    rw [hd] at HFW
    refine (HFW.out w1 (HS.out.below HB1.out)).mono ?_
    rintro e w' ⟨rfl, rfl⟩
    go_wp2_with fail
    refine (HAW.out w1).mono ?_
    rintro e w2 ⟨rfl, b2⟩
    have HB2 := Lib.hid (HB1.out.trans (b2.mono HB1.out.size))
    clear b2
    go_wp2_with fail
    go_ret
    exact ⟨rfl, HB2.out⟩
end Go.Proofs.Yticppgopblgkbaa
