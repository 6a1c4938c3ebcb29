/-
  bytes.Clone: a copy of bytes.
-/
import Derived.Test.YtdfgdpgffblbpaaAppB
import Derived.Test.YtdfgdpgffblbpaaGrid
namespace Go.Proofs.Ytdfgdpgffblbpaa
open Go.ChangeShapes Go.WideShapes Go.ChangeAt Go.RowKit Go.Joins
set_option linter.unusedVariables false

theorem eqs_no (w : World) : (binOp BinOp.eql 28 (.slice none 0 0) (.slice none 0 0)).run Try.prog w = .ok (.bool true) w := by kernel_rfl
theorem eqs_yes (ad : Addr) (n cap : Nat) (w : World) : (binOp BinOp.eql 28 (.slice (some ad) n cap) (.slice none 0 0)).run Try.prog w = .ok (.bool false) w := by kernel_rfl

set_option maxRecDepth 100000 in
theorem clone_any (a : Option Addr) (cap : Nat) (l : List Nat) (w : World) (hl : l.length ≤ 100000) (hs : Sl w a cap l) :
    Calls Try.prog 24 #[.slice a l.length cap] w fun e w' => ∃ sa sc, e = .returned (.slice sa l.length sc) ∧ Rw 0 w' sa sc l ∧ Below w.heap.size w w' := by
  cases a with
  | none =>
    obtain ⟨rfl, rfl⟩ := hs.none rfl
    have hq := eqs_no w
    have HR : Hid (Rw 0 w none 0 []) := nil_rw 0 w
    clear hs
    go_enter Try.func24, Try.ntmps24
    go_wp2_with fail
    go_ret
    exact ⟨_, _, rfl, HR.out, Below.refl _ _⟩
  | some ad =>
    have hq := eqs_yes ad l.length cap w
    have HB : Hid (Below w.heap.size w (w.alloc (.cells #[] 5))) := (Below.refl _ _).alloc (Nat.le_refl _) _
    have HS : Hid (Sl (w.alloc (.cells #[] 5)) (some ad) cap l) := hs.below HB.out
    have HE : Hid (Rw 0 (w.alloc (.cells #[] 5)) (some ⟨w.heap.size, 0, none⟩) 0 []) := ⟨⟨by simp [IsByte], by simp, by simp, fun e => (by cases e), .inl rfl⟩, fun h => absurd rfl h⟩
    have hlm := hs.lt
    have hcm : cap ≤ 9223372036854775807 := by have := hs.most; unfold maxLen at this; omega
    clear hs
    go_enter Try.func24, Try.ntmps24
    go_wp2_with (at_builtin; refine wpList_appB 0 w.heap.size 0 [] (some ad) cap l.length l _ rfl _ _ rfl rfl rfl rfl HE.out rfl HS.out (by omega) hl ?_; intro g2 c2 w2 HR2 hb2)
    have HW := Lib.hid (HB.out.trans (hb2.mono HB.out.size))
    go_ret
    exact ⟨some ⟨g2, 0, none⟩, c2, by simp, by simpa using HR2.out, HW.out⟩
end Go.Proofs.Ytdfgdpgffblbpaa
