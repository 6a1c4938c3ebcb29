/-
  What the listed tables of package sum give: the cells of 'fours'; the heap of the door's own run meets the condition; a list of bytes that came in.
-/
import Derived.Test.YthnodhlgfokfjaaDoorCrcB
import Derived.LaidMore
import Derived.Stop.Joined
import Derived.SizedLaws
import Derived.ChangeOld
namespace Go.Proofs.YthnodhlgfokfjaaDoor
open Go.ChangeShapes Go.WideShapes Go.ChangeAt Go.RowKit
set_option linter.unusedVariables false

theorem own : ownKnob Tryd.prog.godebug = none := by kernel_rfl
theorem laidOut : laidOutB Tryd.prog = true := by kernel_rfl
theorem gFours : Tryd.prog.globalNamed "geyser/sum.fours" = some 1 := by kernel_rfl
theorem tFours : (Tryd.prog.globals[1]?).map (·.type) = some 49 := by kernel_rfl
theorem cells24 : Tryd.prog.cellsOf 24 = 1 := by kernel_rfl
theorem cells5 : Tryd.prog.cellsOf 5 = 1 := by kernel_rfl

/-- An array of numbers of one cell each, opened: each cell holds its number. -/
theorem array_cells {H : Type} {enc : TypeId × Value → H} {w : World} {base fuel n : Nat} {spare : Nat → Bool} {held : Bool} {t : TypeId} {cs : List Value} {zs : List Int} {ps : List MemPlace}
    (ht : Tryd.prog.underlying t = some (.array n 24)) (hd : DataW.trod enc Tryd.prog w base spare held fuel t cs = some (.agg (zs.map fun z => .lit (.int .u32 z)), ps)) :
    zs.length = n ∧ ∀ i (h : i < zs.length), cs[i]? = some (.int .u32 zs[i]) := by
  obtain ⟨xs, m1, _, hx1, hcl, hn3, hel⟩ := DataW.trod_array ht hd
  simp only [Prod.mk.injEq, DataW.agg.injEq] at hx1
  have hl : zs.length = xs.length := by have := congrArg List.length hx1.1; simpa using this
  refine ⟨hl.trans hn3, fun i hi => ?_⟩
  have hix : i < xs.length := by omega
  have h0 := hel i (by omega)
  rw [cells24, Nat.mul_one, List.getElem?_eq_getElem hix] at h0
  obtain ⟨k, e1, e2, _⟩ := DataW.trod_int Tryd.underlying24 h0
  have hk : zs[i] = k := by
    have := congrArg (fun l => l[i]?) hx1.1
    simp [hi, hix, e2] at this
    exact this
  rw [hk]
  have : (cs.drop i)[0]? = some (.int .u32 k) := by
    cases h : cs.drop i with
    | nil => rw [h] at e1; simp at e1
    | cons c r => rw [h] at e1; simp at e1; simp [e1]
  simpa using this

def foursL : List Int := [0, 498536548, 997073096, 651767980, 1994146192, 1802195444, 1303535960, 1342533948, 3988292384, 4027552580, 3604390888, 3412177804, 2607071920, 2262029012, 2685067896, 3183342108]

theorem fours_get : ∀ k (h : k < 16), foursL[k]? = some ((four k : Nat) : Int) := by decide

/-- WHAT THE CONDITION GIVES THE WALKS: the table's cells. -/
theorem of_laid {W : World} (h : laidMetH Tryd.prog [("geyser/sum.fours", Rows.laid_geyser_sum_fours)] W) : Fours W := by
  rw [MakeChecks.laidMetH_plain _ _ _ (by kernel_rfl)] at h
  obtain ⟨ps, ⟨g0, t0, cs0, f0, p0, q0, hg0, ht0, hv0, hd0, _⟩, _, _⟩ := h
  obtain rfl := Option.some.inj (gFours.symm.trans hg0)
  obtain rfl := Option.some.inj (tFours.symm.trans ht0)
  have ha := (array_cells (zs := foursL) Tryd.underlying49 hd0).2
  intro k hk
  have hc := World.var?_cell hg0 hv0 k
  have hk2 := ha k hk
  have e : foursL[k] = ((four k : Nat) : Int) := by
    have := fours_get k hk
    rw [List.getElem?_eq_getElem (by exact hk)] at this
    exact Option.some.inj this
  rw [e] at hk2
  rw [hc]
  simpa using hk2

/-- The door's own heap meets the condition. -/
theorem door_met (os : Os) (args : Array Value) : laidMetH Tryd.prog [("geyser/sum.fours", Rows.laid_geyser_sum_fours)] ((World.doorLaid Tryd.prog 600 os).forCall (fun _ _ => 0) ⟨#[], args, []⟩).memory :=
  laidMetH_of_parts3 (fuel := 8) (laidMet_of_run' 8 (by kernel_rfl) (by kernel_rfl)) (by kernel_rfl) (by kernel_rfl)

/-- A list of bytes that came in. -/
theorem bytes_in {H : Type} {enc : TypeId × Value → H} {w : World} {base fuel : Nat} {spare : Nat → Bool} {held : Bool} {c : Value} {x : DataW H × List MemPlace}
    (h : DataW.trod enc Tryd.prog w base spare held fuel 22 [c] = some x) :
    ∃ (a : Option Addr) (cap : Nat) (l : List Nat), c = .slice a l.length cap ∧ l.length ≤ maxLen ∧ l.length ≤ cap ∧ cap ≤ maxLen ∧ IsByte l ∧ BytesAt w a l := by
  rcases open_ints Tryd.underlying22 Tryd.underlying5 cells5 h with ⟨hcs, hx⟩ | ⟨a, len, cap, zs, hcs, _, hl, hm, hz, hx, hcell, hwz⟩
  · simp only [List.cons.injEq, and_true] at hcs
    exact ⟨none, 0, [], hcs, by simp, by simp, by simp, by simp [IsByte], .inl rfl⟩
  · simp only [List.cons.injEq, and_true] at hcs
    have hlz : len ≤ zs.length := by rw [hz]; split <;> omega
    have hll : ((zs.take len).map Int.toNat).length = len := by simp; omega
    refine ⟨some a, cap, (zs.take len).map Int.toNat, by rw [hll]; exact hcs, by omega, by omega, hm, fun n hn => ?_, ?_⟩
    · obtain ⟨z, hz1, rfl⟩ := List.mem_map.1 hn
      have := hwz z (List.mem_of_mem_take hz1)
      have hb : 0 ≤ z ∧ z ≤ 255 := by simpa [Lit.wf, IntKind.min, IntKind.max, IntKind.signed, IntKind.bits] using this
      omega
    · by_cases h0 : len = 0
      · exact .inl (List.length_eq_zero_iff.1 (by omega))
      · obtain ⟨b, off, spot⟩ := a
        have hc0 := hcell 0 (by omega)
        have hspot : spot = none := by simpa [Addr.add] using World.cell?_spot hc0
        subst hspot
        refine .inr ⟨b, off, rfl, fun i hi => ?_⟩
        have hi2 : i < len := by omega
        have hci := hcell i (by omega)
        have hwi := hwz zs[i] (List.getElem_mem (by omega))
        have hb : 0 ≤ zs[i] ∧ zs[i] ≤ 255 := by simpa [Lit.wf, IntKind.min, IntKind.max, IntKind.signed, IntKind.bits] using hwi
        have e : zs.getD i 0 = zs[i] := by simp [List.getD, show i < zs.length by omega]
        rw [e] at hci
        have e2 : ((((zs.take len).map Int.toNat)[i] : Nat) : Int) = zs[i] := by simp; omega
        rw [e2, ← hci]
        by_cases hi0 : i = 0
        · subst hi0; simp [Addr.add]
        · simp [Addr.add, hi0]

end Go.Proofs.YthnodhlgfokfjaaDoor
