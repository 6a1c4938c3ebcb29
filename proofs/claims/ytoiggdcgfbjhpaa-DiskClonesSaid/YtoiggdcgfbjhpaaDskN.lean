/-
  Files, tables that may be nil, and how long the file is that a name means.
-/
import Derived.Test.YtoiggdcgfbjhpaaDskM
namespace Go.Proofs.Ytoiggdcgfbjhpaa
open Go.ChangeShapes Go.WideShapes Go.ChangeAt Go.RowKit Go.Joins
set_option linter.unusedVariables false

def byteD (n : Nat) : Value := .int .u8 (n : Int)
/-- A file: its bytes, and how many of them are safe. -/
structure Fl where
  bytes : List Nat
  safe : Nat
/-- Block b is this file; its bytes lie in their own block rb. -/
structure FileAt (w : World) (b : Nat) (rb : Option Nat) (f : Fl) : Prop where
  byte : ∀ n ∈ f.bytes, n < 256
  size : f.bytes.length ≤ 1000000
  safe : f.safe ≤ f.bytes.length
  here : ∃ v, v.ownBlock = rb ∧ w.ownsRow 0 5 1 v f.bytes.length (f.bytes.map byteD) ∧ w.heap[b]? = some (.cells #[v, .int .i64 (f.safe : Int)] 69 (0, 0))
theorem own_shape {w : World} {B e s n : Nat} {v : Value} {xs : List Value} (h : w.ownsRow B e s v n xs) : ∃ a cap, v = .slice a n cap ∧ cap ≤ maxLen ∧ n ≤ cap := by
  rcases h.2 with ⟨rfl, rfl⟩ | ⟨g, cap, cur, rfl, _, _, h1, h2, _⟩
  · exact ⟨none, 0, rfl, Nat.zero_le _, Nat.le_refl _⟩
  · exact ⟨_, cap, rfl, h2, h1⟩

/-- A table of names, which may be nil. -/
def Tab (ι : Nat → Option Nat) (w : World) (t : Option Nat) (n : Nat) (D : DM) : Prop := (t = none ∧ D = .map []) ∨ ∃ b, t = some b ∧ w.ownsMap Try.prog 9 (fileR ι) b n D
theorem atKey_nil (k : Lit) (z : DM) : DataW.atKey (.map [] : DM) k z = z := rfl
theorem Tab.look {ι : Nat → Option Nat} {w : World} {t : Option Nat} {n : Nat} {D : DM} (h : Tab ι w t n D) {s : ByteArray} (hs : s.size ≤ maxLen) :
    ∃ v ps, (Instr.lookup 45 (.map t) (.string s) false).run Try.prog w = .ok v w ∧ fileR ι v = some (D.atKey (keyD s) (idD (-1)), ps) := by
  have hz : (zeroValue 59).run Try.prog w = .ok (.pointer none) w := by kernel_rfl
  rcases h with ⟨rfl, rfl⟩ | ⟨b, rfl, ho⟩
  · exact ⟨.pointer none, [], by rw [Maps.look_nil false keyedS Try.underlying45 hz (key_string s hs)]; rfl, rfl⟩
  · exact ho.lookup keyedS Try.underlying45 hz (zd := idD (-1)) (zp := []) rfl (key_string s hs)

/-- The number that a name means, -1 of none. -/
def numD (D : DM) (s : ByteArray) : Int := match D.atKey (keyD s) (idD (-1)) with | .lit (.int .i64 i) => i | _ => -1
def sizeD (F : Nat → Fl) (D : DM) (s : ByteArray) : Int := if numD D s = -1 then 0 else ((F (numD D s).toNat).bytes.length : Int)
/-- All files that ι tells are there. -/
def Files (ι : Nat → Option Nat) (rb : Nat → Option Nat) (F : Nat → Fl) (w : World) : Prop := ∀ b i, ι b = some i → FileAt w b (rb i) (F i)

theorem Tab.num {ι : Nat → Option Nat} {w : World} {t : Option Nat} {n : Nat} {D : DM} (h : Tab ι w t n D) {s : ByteArray} (hs : s.size ≤ maxLen) :
    (numD D s = -1 ∧ (Instr.lookup 45 (.map t) (.string s) false).run Try.prog w = .ok (.pointer none) w) ∨
    ∃ b i, ι b = some i ∧ numD D s = (i : Int) ∧ (Instr.lookup 45 (.map t) (.string s) false).run Try.prog w = .ok (.pointer (some ⟨b, 0, none⟩)) w := by
  obtain ⟨v, ps, hr, hv⟩ := h.look hs
  rcases fileR_inv hv with ⟨rfl, e⟩ | ⟨b, i, rfl, hi, e⟩
  · refine .inl ⟨?_, hr⟩
    unfold numD
    rw [show D.atKey (keyD s) (idD (-1)) = idD (-1) from congrArg Prod.fst e]
    rfl
  · refine .inr ⟨b, i, hi, ?_, hr⟩
    unfold numD
    rw [show D.atKey (keyD s) (idD (-1)) = idD (i : Int) from congrArg Prod.fst e]
    rfl

set_option maxRecDepth 100000 in
theorem size_any {ι rb : Nat → Option Nat} {F : Nat → Fl} {w : World} {t : Option Nat} {n : Nat} {D : DM} (h : Tab ι w t n D) (hf : Files ι rb F w) {s : ByteArray} (hs : s.size ≤ maxLen) :
    Calls Try.prog 44 #[.map t, .string s] w fun e w' => e = .returned (.int .i64 (sizeD F D s)) ∧ w = w' := by
  rcases h.num hs with ⟨h1, hr⟩ | ⟨b, i, hi, h1, hr⟩
  · have HV : Hid (sizeD F D s = 0) := by show _ = _; simp [sizeD, h1]
    clear h hf hs h1
    go_enter Try.func44, Try.ntmps44
    go_wp2_with fail
    go_ret
    rw [HV.out]
    exact ⟨rfl, rfl⟩
  · have HV : Hid (sizeD F D s = ((F i).bytes.length : Int)) := by
      show _ = _
      have : ¬ (i : Int) = -1 := by omega
      simp [sizeD, h1, this]
    obtain ⟨v, -, hv, hb⟩ := (hf b i hi).here
    obtain ⟨a, cap, rfl, -, -⟩ := own_shape hv
    have hsz := (hf b i hi).size
    have c0 : w.cell? ⟨b, 0, none⟩ = some (.slice a (F i).bytes.length cap) := by rw [cell_of_row w b 0 _ _ (0, 0) hb]; rfl
    clear h hf hs h1 hi hv hb
    generalize (F i).bytes.length = q at *
    go_enter Try.func44, Try.ntmps44
    go_wp2_with fail
    go_ret
    rw [HV.out]
    exact ⟨rfl, rfl⟩
end Go.Proofs.Ytoiggdcgfbjhpaa
