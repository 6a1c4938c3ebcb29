/-
  What the listed variables of the library give the walks of path; the laid heap meets the condition.
-/
import Derived.Test.YthpinjmlnongpaaDoorPaD
import Derived.Test.YthpinjmlnongpaaDoorTie
import Derived.Test.YthpinjmlnongpaaDoorCards
import Derived.SevenTiedAt
import Derived.LaidMore
import Derived.LaidLaws
import Derived.Stop.LaidErr
import Derived.Stop.Joined
import Derived.SizedLaws
import Derived.ChangeOld
import Derived.Lay
import Derived.Lib.LaidTab
namespace Go.Proofs.YthpinjmlnongpaaDoor
open Go.ChangeShapes Go.WideShapes Go.ChangeAt Go.RowKit
set_option linter.unusedVariables false

theorem own15 : ownKnob Tryd.prog.godebug = none := by kernel_rfl
theorem laidOut15 : laidOutB Tryd.prog = true := by kernel_rfl
def laid15 : List (String × DataW Unit) := [("math/bits.deBruijn32tab", Rows.laid_math_bits_deBruijn32tab), ("math/bits.deBruijn64tab", Rows.laid_math_bits_deBruijn64tab), ("internal/strconv.uint64pow10", Rows.laid_internal_strconv_uint64pow10), ("unicode/utf8.acceptRanges", Rows.laid_unicode_utf8_acceptRanges), ("strconv.ErrRange", Rows.laid_strconv_ErrRange), ("strconv.ErrSyntax", Rows.laid_strconv_ErrSyntax), ("unicode/utf8.first", Rows.laid_unicode_utf8_first)]
theorem plain15 : laidMetH Tryd.prog laid15 = laidMet Tryd.prog laid15 := by funext w; exact MakeChecks.laidMetH_plain _ _ _ (by kernel_rfl)
theorem pow_eq : (Rows.laid_internal_strconv_uint64pow10 : DataW Unit) = Lib.tabData .u64 Lib.pow10Tab := by kernel_rfl
theorem starErr : "*" ++ "errors.errorString" = "*errors.errorString" := by decide
theorem rowErr (u : TypeId) (h : Tryd.prog.typeName? 3 u = some "*errors.errorString") : u = 164 :=
  typeName_ptr_named (nm := "errors.errorString") (by rw [starErr]; kernel_rfl) (by kernel_rfl) (by decide) u (by rw [starErr]; exact h)
theorem cv_of {W : World} (hs : W.ShapedOpen Tryd.prog) (h : laidMetH Tryd.prog laid15 W) : Cv W := by
  rw [plain15] at h
  have h2 := h.tail.tail
  have h4 := h2.tail.tail
  have h5 := h4.tail
  refine ⟨Mx.of_shape hs, ?_, ?_, ?_⟩
  · rw [pow_eq] at h2
    exact Lib.tabIs_of_head (g := 5) (t := 169) (e := 108) (n := 20) (by kernel_rfl) (by kernel_rfl) Tryd.underlying169 Tryd.underlying108 (by kernel_rfl) (by kernel_rfl) h2
  · obtain ⟨a, s, hv, _⟩ := laid_sentinel (g := 3) h5 (by kernel_rfl) (by kernel_rfl) Tryd.underlying89 rowErr Tryd.underlying164 Tryd.underlying166 rfl rfl Tryd.underlying9 (by kernel_rfl) (by kernel_rfl)
    exact ⟨_, _, hv⟩
  · obtain ⟨a, s, hv, _⟩ := laid_sentinel (g := 4) h4 (by kernel_rfl) (by kernel_rfl) Tryd.underlying89 rowErr Tryd.underlying164 Tryd.underlying166 rfl rfl Tryd.underlying9 (by kernel_rfl) (by kernel_rfl)
    exact ⟨_, _, hv⟩
theorem shaped15 (os : Os) : (World.laidAll Tryd.prog os laid15).Shaped Tryd.prog := World.shaped_of_ZipB (by kernel_rfl) (by kernel_rfl)
theorem met15 (os : Os) (args : Array Value) : laidMetH Tryd.prog laid15 ((World.laidAll Tryd.prog os laid15).forCall (fun _ _ => 0) ⟨#[], args, []⟩).memory := by
  rw [plain15]; exact laidMet_laidAll _ (by kernel_rfl) (by kernel_rfl)
end Go.Proofs.YthpinjmlnongpaaDoor
