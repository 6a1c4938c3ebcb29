/-
  Package precode's sum: sources of one length, each times its number.
-/
import Derived.Test.YtpbnfbljjkofhaaRefSym
namespace Go.Proofs.Ytpbnfbljjkofhaa
open Go.ChangeShapes Go.WideShapes Go.ChangeAt Go.RowKit Go.Joins
set_option linter.unusedVariables false

/-- Bytes in a block of bytes stay, wherever a frame begins. -/
theorem Rw.up {w : World} {a : Option Addr} {cap : Nat} {l : List Nat} (h : Rw 0 w a cap l) (B : Nat) : Rw B w a cap l :=
  ⟨h.sl, fun hl p hp => (h.tag hl p hp).elim (fun h => absurd h (Nat.not_lt_zero _)) .inr⟩
def SumPost (v : Rws) (m : Nat) (row : List Nat) (w : World) (e : Ending) (w' : World) : Prop :=
  ∃ g, e = .returned (.slice (some ⟨g, 0, none⟩) m m) ∧ Rw 0 w' (some ⟨g, 0, none⟩) m (symTo v m row v.length) ∧ Below w.heap.size w w'

set_option maxRecDepth 100000 in
set_option maxHeartbeats 1000000 in
theorem sum_any (B : Nat) (a : Option Addr) (cap : Nat) (v : Rws) (m : Nat) (ra : Option Addr) (rcap : Nat) (row : List Nat) (w : World) (hB : B ≤ w.heap.size) (hs : Rs B w a cap v) (hl : v.length ≤ row.length) (hr : Sl w ra rcap row) (hm : m ≤ 1000000) (hall : ∀ x ∈ v, x.length = m) :
    Calls Try.prog 16 #[.slice a v.length cap, .slice ra row.length rcap, .int .i64 (m : Int)] w (SumPost v m row w) := by
  have HS := Lib.hid hs
  have HR := Lib.hid hr
  have HV := Lib.hid hs.byte
  have HA := Lib.hid hall
  have hlm := hs.lt
  have hlr := hr.lt
  have hmk := make_row m hm
  have HZ := Lib.hid (zeros_rw 0 w m hm)
  have HB0 := Lib.hid ((Below.refl w.heap.size w).alloc (Nat.le_refl _) (.cells (rowArr m zV) 5))
  clear hs hr hall
  go_enter Try.func16, Try.ntmps16
  go_wp2_with fail
  clear hmk
  go_loopw [7, 14] (fun o i wr => ∃ k g : Nat, k ≤ v.length ∧ i = .int .i64 k ∧ o = .slice (some ⟨g, 0, none⟩) m m ∧ Hid (Rw 0 wr (some ⟨g, 0, none⟩) m (symTo v m row k)) ∧ Hid (Below w.heap.size w wr)) (fun _ i _ => v.length - (intOf i).toNat)
  case atStart => exact ⟨0, w.heap.size, by omega, rfl, rfl, HZ, HB0⟩
  case round =>
    obtain ⟨k, g, hk, rfl, rfl, HO, HB⟩ := hrel
    by_cases hlt : k < v.length
    · obtain ⟨b, off, rfl, hb, hrr⟩ := (HS.out.keep hB (Keep.of_below HB.out)).some hlt
      obtain ⟨ai, ci, hck, hrw⟩ := hrr k hlt
      have hkr : k < row.length := by omega
      obtain ⟨b2, off2, rfl, hb2⟩ := (HR.out.below HB.out).some hkr
      have hck2 := hb2 k hkr
      have hy : row[k] < 256 := HR.out.byte _ (List.getElem_mem hkr)
      have HSL := Lib.hid hrw.sl
      have hxm : v[k].length = m := HA.out _ (List.getElem_mem hlt)
      have HL := Lib.hid (symTo_ok (row := row) (m := m) HV.out k (by omega))
      have HE : Hid (symTo v m row (k + 1) = plusN (symTo v m row k) v[k] row[k]) := by
        show plusN _ _ _ = _
        rw [getR hlt, getD_get hkr]
        congr 1
        rw [← hxm]; exact fillN_self _
      generalize v[k] = x at *
      generalize row[k] = y at *
      have HC : Hid (Calls Try.prog 22 #[.slice (some ⟨g, 0, none⟩) m m, .slice ai m ci, .int .u8 (y : Int)] wr fun e w' => e = .returned (.tuple #[.slice (some ⟨wr.heap.size, 0, none⟩) m m, .int .i64 0]) ∧ Hid (Rw 0 w' (some ⟨wr.heap.size, 0, none⟩) m (symTo v m row (k + 1))) ∧ Below wr.heap.size wr w') := by
        have := axpy_same (some ⟨g, 0, none⟩) ai m ci (symTo v m row k) x y wr (by omega) hy (by rw [HL.out.1, hxm]) HO.out.sl HSL.out
        rw [HL.out.1, hxm] at this
        refine this.mono ?_
        rintro e w' ⟨h1, h2⟩
        refine ⟨h1, ?_, h2.below⟩
        rw [HE.out]
        exact rw_of h2 (by rw [plusN_len _ _ _ (by rw [HL.out.1, hxm]; exact Nat.le_refl _), HL.out.1]) (plusN_byte _ _ _ HL.out.2 HSL.out.byte) (by omega)
      rw [hxm] at hck
      have i1 : (0 : Int) ≤ (k : Int) := by omega
      have i2 : (k : Int) < (v.length : Int) := by omega
      have i3 : (k : Int) < (row.length : Int) := by omega
      clear hrr hrw hb2 HZ HB0
      go_wp2_with fail
      refine HC.out.mono ?_
      rintro e w1 ⟨rfl, HN1, hb1⟩
      have HB1 : Hid (Below w.heap.size w w1) := HB.out.trans (hb1.mono HB.out.size)
      clear hb1 HC HE HL HO hck hck2
      generalize wr.heap.size = g1 at *
      go_wp2_with fail
      go_roundw
      case rel => exact ⟨k + 1, g1, by omega, by go_num, rfl, HN1, HB1⟩
      case measure => simp [intOf]; omega
    · obtain rfl : k = v.length := by omega
      go_wp2_with fail
      go_ret
      exact ⟨g, rfl, HO.out, HB.out⟩
end Go.Proofs.Ytpbnfbljjkofhaa
