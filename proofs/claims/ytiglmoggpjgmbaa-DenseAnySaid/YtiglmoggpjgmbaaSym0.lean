/-
  The document's Symbol once more: what it answers lies in a block of bytes.
-/
import Derived.Test.YtiglmoggpjgmbaaSolveW
import Derived.Test.YtiglmoggpjgmbaaDenLaw
namespace Go.Proofs.Ytiglmoggpjgmbaa
open Go.ChangeShapes Go.WideShapes Go.ChangeAt Go.RowKit Go.Joins
set_option linter.unusedVariables false

theorem Rw.any {w : World} {a : Option Addr} {cap : Nat} {l : List Nat} (h : Rw 0 w a cap l) (B : Nat) : Rw B w a cap l := ⟨h.sl, fun hl p hp => (h.tag hl p hp).elim (fun h => by omega) .inr⟩
def SymPost0 (v : Rws) (m : Nat) (row : List Nat) (w : World) (e : Ending) (w' : World) : Prop :=
  ∃ g, e = .returned (.slice (some ⟨g, 0, none⟩) m m) ∧ Rw 0 w' (some ⟨g, 0, none⟩) m (symTo v m row v.length) ∧ Below w.heap.size w w'

set_option maxRecDepth 100000 in
set_option maxHeartbeats 1000000 in
theorem symbol0_any (B : Nat) (a : Option Addr) (cap : Nat) (v : Rws) (m : Nat) (ra : Option Addr) (rcap : Nat) (row : List Nat) (w : World) (hB : B ≤ w.heap.size) (hs : Rs B w a cap v) (hl : v.length ≤ row.length) (hr : Sl w ra rcap row) (hm : m ≤ 1000000) :
    Calls Try.prog 13 #[.slice a v.length cap, .int .i64 (m : Int), .slice ra row.length rcap] w (SymPost0 v m row w) := by
  have HS := Lib.hid hs
  have HR := Lib.hid hr
  have HV := Lib.hid hs.byte
  have hlm := hs.lt
  have hlr := hr.lt
  have hmk := make_row m hm
  have HZ := Lib.hid (zeros_rw 0 w m hm)
  have HB0 := Lib.hid ((Below.refl w.heap.size w).alloc (Nat.le_refl _) (.cells (rowArr m zV) 5))
  clear hs hr
  go_enter Try.func13, Try.ntmps13
  go_wp2_with fail
  clear hmk
  go_loopw [7, 13] (fun o i wr => ∃ k g : Nat, k ≤ v.length ∧ i = .int .i64 k ∧ o = .slice (some ⟨g, 0, none⟩) m m ∧ Hid (Rw 0 wr (some ⟨g, 0, none⟩) m (symTo v m row k)) ∧ Hid (Below w.heap.size w wr)) (fun _ i _ => v.length - (intOf i).toNat)
  case atStart => exact ⟨0, w.heap.size, by omega, rfl, rfl, HZ, HB0⟩
  case round =>
    obtain ⟨k, g, hk, rfl, rfl, HO, HB⟩ := hrel
    by_cases hlt : k < v.length
    · obtain ⟨b, off, rfl, hb, hrr⟩ := (HS.out.keep hB (Keep.of_below HB.out)).some hlt
      obtain ⟨ai, ci, hck, hrw⟩ := hrr k hlt
      have hkr : k < row.length := by omega
      obtain ⟨b2, off2, rfl, hb2⟩ := (HR.out.below HB.out).some hkr
      have hck2 := hb2 k hkr
      have hy : row[k] < 256 := HR.out.byte _ (List.getElem_mem hkr)
      have HSL := Lib.hid hrw.sl
      have HE : Hid (symTo v m row (k + 1) = plusN (symTo v m row k) (fillN v[k] m) row[k]) := by
        show plusN _ _ _ = _
        rw [getR hlt, getD_get hkr]
      have HL := Lib.hid (symTo_ok (row := row) (m := m) HV.out k (by omega)).1
      generalize v[k] = x at *
      generalize row[k] = y at *
      have c1 := cell_up hck
      have c2 := cell_up hck2
      have i1 : (0 : Int) ≤ (k : Int) := by omega
      have i2 : (k : Int) < (v.length : Int) := by omega
      have i3 : (k : Int) < (row.length : Int) := by omega
      clear hrr hrw hb2 hck hck2 HZ HB0
      go_wp2_with fail
      refine grow_begin (by kernel_rfl) ?_
      refine grow_take (by kernel_rfl) [0, 1, 2, 3, 4, 5, 7, 8, 9, 10] 3 _ _ (by kernel_rfl) ?_
      simp only [opsAt, List.getElem?_toArray, List.getElem?_cons_succ, List.getElem?_cons_zero]
      repeat (first | go_big_quiet_step (fail) | quiet_step (fail))
      refine wpQuiet_nil ?_
      intro w1 hw1
      have hb1 := below_of_up hw1
      clear c1 c2 i1 i2 i3
      refine grow_one 6 (by kernel_rfl) hw1 (fun K hK => ?_)
      simp only [stepOf, List.getElem?_toArray, List.getElem?_cons_succ, List.getElem?_cons_zero]
      go_simp
      go_at_call 12
      refine (fill_at 0 ai ci x m _ hm (HSL.out.below hb1) hb1).mono ?_
      rintro e w2 ⟨rfl, HN2, hb12, hb2⟩
      refine hK.out _ _ hb12 ?_
      clear hK K
      generalize w1.heap.size = g1 at *
      intro w3 hw3
      have hb3 := below_of_up hw3
      refine grow_one 11 (by kernel_rfl) hw3 (fun K hK => ?_)
      simp only [stepOf, List.getElem?_toArray, List.getElem?_cons_succ, List.getElem?_cons_zero]
      go_simp
      go_at_call 16
      have hb03 : Below wr.heap.size wr w3 := hb2.trans (hb3.mono hb2.size)
      have HP : Hid (Calls Try.prog 16 #[.slice (some ⟨g, 0, none⟩) m m, .slice (some ⟨g1, 0, none⟩) m m, .int .u8 (y : Int)] w3 fun e w' => e = .returned (.slice (some ⟨w3.heap.size, 0, none⟩) m m) ∧ Hid (Rw 0 w' (some ⟨w3.heap.size, 0, none⟩) m (symTo v m row (k + 1))) ∧ Below w3.heap.size w3 w' ∧ Below wr.heap.size wr w') := by
        have := plus_at 0 (some ⟨g, 0, none⟩) (some ⟨g1, 0, none⟩) m m (symTo v m row k) (fillN x m) y w3 (by rw [fillN_len]; exact hm) hy (by rw [HL.out, fillN_len]) (HO.out.sl.below hb03) (HN2.out.sl.below hb3) hb03
        rw [HL.out, fillN_len, ← HE.out] at this
        exact this
      refine HP.out.mono ?_
      rintro e w4 ⟨rfl, HN4, hb34, hb4⟩
      refine hK.out _ _ hb34 ?_
      clear hK K HP HO HE HL
      generalize w3.heap.size = g2 at *
      refine grow_take (by kernel_rfl) [12] 0 _ _ (by kernel_rfl) ?_
      simp only [opsAt, List.getElem?_toArray, List.getElem?_cons_succ, List.getElem?_cons_zero]
      repeat (first | go_big_quiet_step (fail) | quiet_step (fail))
      refine wpQuiet_nil ?_
      intro w5 hw5
      have hb5 := below_of_up hw5
      refine grow_done (by kernel_rfl) ?_
      have HN5 := Lib.hid (HN4.out.below hb5)
      have HB5 : Hid (Below w.heap.size w w5) := HB.out.trans ((hb4.trans (hb5.mono hb4.size)).mono HB.out.size)
      clear hb5 hw5 hb4 hb34 hb03 hb3 hw3 hb2 hb12 hb1 hw1 HN4 HN2
      go_wp2_with fail
      go_roundw
      case rel => exact ⟨k + 1, g2, by omega, by go_num, rfl, HN5, HB5⟩
      case measure => simp [intOf]; omega
    · obtain rfl : k = v.length := by omega
      go_wp2_with fail
      go_ret
      exact ⟨g, rfl, HO.out, HB.out⟩
end Go.Proofs.Ytiglmoggpjgmbaa
