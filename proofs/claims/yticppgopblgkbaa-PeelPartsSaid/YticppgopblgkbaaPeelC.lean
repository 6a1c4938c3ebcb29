/-
  Whether they are equations: the document's Right.
-/
import Derived.Test.YticppgopblgkbaaPeelB
namespace Go.Proofs.Yticppgopblgkbaa
open Go.ChangeShapes Go.WideShapes Go.ChangeAt Go.RowKit Go.Joins
set_option linter.unusedVariables false

theorem below_drawn {B : Nat} {a w : World} (h : Below B a w) {q : Nat} : Below B a (w.drewN q) := ⟨h.os, h.tape, h.output, h.size, h.block⟩

set_option maxRecDepth 100000 in
set_option maxHeartbeats 4000000 in
theorem refRight_any (a : Option Addr) (cap : Nat) (es : Eqz) (n : Int) (hn : -9223372036854775808 ≤ n ∧ n ≤ 9223372036854775807) (w : World) (hs : Er w a cap es) :
    Calls Try.prog 8 #[.slice a es.length cap, .int .i64 n] w fun e w' => e = .returned (.bool (decide (RightP es n))) ∧ Below w.heap.size w w' := by
  have HS := Lib.hid hs
  have hlm := hs.lt
  clear hs
  by_cases n0 : n < 0
  · have HF : Hid (decide (RightP es n) = false) := by show _ = _; rw [decide_eq_false_iff_not]; intro h; have := h.1; omega
    have d1 : decide (n < 0) = true := by simp; omega
    go_enter Try.func8, Try.ntmps8
    go_wp2_with fail
    go_ret
    exact ⟨ret_bool HF.out.symm, Below.refl _ _⟩
  have d1 : decide (n < 0) = false := by simp; omega
  by_cases n1 : 256 < n
  · have HF : Hid (decide (RightP es n) = false) := by show _ = _; rw [decide_eq_false_iff_not]; intro h; have := h.2.1; omega
    have d2 : decide ((256 : Int) < n) = true := by simp; omega
    go_enter Try.func8, Try.ntmps8
    go_wp2_with fail
    go_ret
    exact ⟨ret_bool HF.out.symm, Below.refl _ _⟩
  have d2 : decide ((256 : Int) < n) = false := by simp; omega
  by_cases e1 : 1000 < es.length
  · have HF : Hid (decide (RightP es n) = false) := by show _ = _; rw [decide_eq_false_iff_not]; intro h; have := h.2.2.1; omega
    have d3 : decide ((1000 : Int) < (es.length : Int)) = true := by simp; omega
    go_enter Try.func8, Try.ntmps8
    go_wp2_with fail
    go_ret
    exact ⟨ret_bool HF.out.symm, Below.refl _ _⟩
  have d3 : decide ((1000 : Int) < (es.length : Int)) = false := by simp; omega
  have HI := Lib.hid (rightP_all (es := es) (n := n) (by omega) (by omega) (by omega))
  have HO0 : Hid (∀ l ∈ es.take 0, EqOk n l) := fun l h => by simp at h
  have HB0 : Hid (Below w.heap.size w w) := Below.refl _ _
  go_enter Try.func8, Try.ntmps8
  go_wp2_with fail
  go_loopw [22] (fun i wr => ∃ k : Nat, k ≤ es.length ∧ i = .int .i64 k ∧ Hid (∀ l ∈ es.take k, EqOk n l) ∧ Hid (Below w.heap.size w wr)) (fun i _ => es.length - (intOf i).toNat)
  case atStart => exact ⟨0, by omega, rfl, HO0, HB0⟩
  case round =>
    obtain ⟨k, hk, rfl, HO, HB⟩ := hrel
    clear HB0 HO0
    by_cases hlt : k < es.length
    · obtain ⟨b, off, rfl, hb, a', c', hc, hl⟩ := er_one (HS.out.below HB.out) hlt
      have hlk := hl.lt
      have HL := Lib.hid hl
      have HN := Lib.hid (fun h : EqOk n es[k] => all_next hlt HO.out h)
      have HF : Hid (¬ EqOk n es[k] → decide (RightP es n) = false) := fun h => by
        rw [decide_eq_false_iff_not]
        intro h1
        exact h (h1.2.2.2 _ (List.getElem_mem hlt))
      have hb0 : b < wr.heap.size := World.block_lt_of_cell? wr _ hc
      generalize es[k] = x at *
      clear hl
      obtain ⟨W1, rfl⟩ : ∃ x, x = wr := ⟨_, rfl⟩
      have HP0 : Hid (EqOk n (x.take 0)) := EqOk.nil _
      have HB1 : Hid (Below W1.heap.size W1 W1) := Below.refl _ _
      go_wp2_with fail
      go_loopw [30] (fun i wr => ∃ j : Nat, j ≤ x.length ∧ i = .int .i64 j ∧ Hid (EqOk n (x.take j)) ∧ Hid (Below W1.heap.size W1 wr)) (fun i _ => x.length - (intOf i).toNat)
      case atStart => exact ⟨0, by omega, rfl, HP0, HB1⟩
      case round =>
        obtain ⟨j, hj, rfl, HP, HC⟩ := hrel
        clear HB1 HP0
        by_cases hlj : j < x.length
        · have HD := Lib.hid (HL.out.below HC.out)
          obtain ⟨b', off', rfl, hb', hc'⟩ := HD.out.some hlj
          obtain ⟨c0, c1⟩ := hc' j hlj
          obtain ⟨r1, r2, r3⟩ := HD.out.rng _ (List.getElem_mem hlj)
          have HX := Lib.hid (eqOk_next (n := n) hlj)
          have HNN : Hid (¬ ((0 ≤ x[j].1 ∧ x[j].1 < n ∧ x[j].2 ≠ 0) ∧ ∀ i, (hi : i < j) → x[i].1 ≠ x[j].1) → ¬ EqOk n x) := fun h h1 => h ((eqOk_next hlj).1 (h1.take (j + 1))).2
          have HCC := Lib.hid hc'
          have hcw : wr.cell? ⟨b, off + k, none⟩ = some (.slice (some ⟨b', off', none⟩) x.length c') := (HC.out.cell (p := ⟨b, off + k, none⟩) hb0).trans hc
          obtain ⟨⟨z, y⟩, hzy⟩ : ∃ y, y = x[j] := ⟨_, rfl⟩
          rw [← hzy] at c0 c1 r1 r2 r3 HX HNN
          simp only at c0 c1 r1 r2 r3 HX HNN
          have b0 : b' < wr.heap.size := World.block_lt_of_cell? wr _ c0
          have b1 : b < wr.heap.size := Nat.lt_of_lt_of_le hb0 HC.out.size
          clear hc' hzy hc
          by_cases z0 : z < 0
          · have HF2 : Hid (decide (RightP es n) = false) := HF.out (HNN.out fun h => by omega)
            have f1 : decide (z < 0) = true := by simp; omega
            go_wp2_with fail
            go_ret
            exact ⟨ret_bool HF2.out.symm, (HB.out.trans (HC.out.mono HB.out.size)).alloc (Nat.le_trans HB.out.size HC.out.size) _⟩
          have f1 : decide (z < 0) = false := by simp; omega
          by_cases zn : n ≤ z
          · have HF2 : Hid (decide (RightP es n) = false) := HF.out (HNN.out fun h => by omega)
            have f2 : decide (n ≤ z) = true := by simp; omega
            go_wp2_with fail
            go_ret
            exact ⟨ret_bool HF2.out.symm, (HB.out.trans (HC.out.mono HB.out.size)).alloc (Nat.le_trans HB.out.size HC.out.size) _⟩
          have f2 : decide (n ≤ z) = false := by simp; omega
          by_cases y0 : y = 0
          · subst y0
            have HF2 : Hid (decide (RightP es n) = false) := HF.out (HNN.out fun h => by omega)
            go_wp2_with fail
            go_ret
            exact ⟨ret_bool HF2.out.symm, (HB.out.trans (HC.out.mono HB.out.size)).alloc (Nat.le_trans HB.out.size HC.out.size) _⟩
          have f3 : ((y : Int) == 0) = false := by simp; omega
          have HX2 : Hid ((∀ i, (hi : i < j) → x[i].1 ≠ z) → EqOk n (x.take (j + 1))) := fun h => HX.out.2 ⟨HP.out, ⟨by omega, by omega, by omega⟩, h⟩
          have HN3 : Hid (∀ i, (hi : i < j) → x[i].1 = z → decide (RightP es n) = false) := fun i hi h => HF.out (HNN.out fun h2 => h2.2 i hi h)
          clear HX HNN
          have HBW := Lib.hid ((HB.out.trans (HC.out.mono HB.out.size)).alloc (Nat.le_trans HB.out.size HC.out.size) (.cells #[.int .i64 z, .int .u8 y] 38))
          have HBV := Lib.hid (HC.out.alloc HC.out.size (.cells #[.int .i64 z, .int .u8 y] 38))
          obtain ⟨W0, rfl⟩ : ∃ x, x = wr := ⟨_, rfl⟩
          go_wp2_with fail
          have g0 : (W0.alloc (.cells #[.int .i64 z, .int .u8 y] 38)).cell? ⟨W0.heap.size, 0, none⟩ = some (.int .i64 z) := by simp
          have hcw2 : (W0.alloc (.cells #[.int .i64 z, .int .u8 y] 38)).cell? ⟨b, off + k, none⟩ = some (.slice (some ⟨b', off', none⟩) x.length c') := (((Below.refl _ W0).alloc (Nat.le_refl _) _).cell (p := ⟨b, off + k, none⟩) b1).trans hcw
          have HCC2 : Hid (∀ i (h : i < x.length), (W0.alloc (.cells #[.int .i64 z, .int .u8 y] 38)).cell? ⟨b', off' + i * 2, none⟩ = some (.int .i64 x[i].1)) := fun i hi => (((Below.refl _ W0).alloc (Nat.le_refl _) _).cell (p := ⟨b', off' + i * 2, none⟩) b0).trans (HCC.out i hi).1
          have s0 : W0.heap.size < (W0.alloc (.cells #[.int .i64 z, .int .u8 y] 38)).heap.size := by simp
          have s1 : b < (W0.alloc (.cells #[.int .i64 z, .int .u8 y] 38)).heap.size := by omega
          have s2 : b' < (W0.alloc (.cells #[.int .i64 z, .int .u8 y] 38)).heap.size := by omega
          generalize W0.alloc (.cells #[.int .i64 z, .int .u8 y] 38) = W2 at *
          have HQ0 : Hid (∀ i, (hi : i < x.length) → i < 0 → x[i].1 ≠ z) := fun i _ h => by omega
          have HV0 : Hid (Below W2.heap.size W2 W2) := Below.refl _ _
          clear hcw c0 c1
          go_loopw [55] (fun i wr => ∃ m : Nat, m ≤ j ∧ i = .int .i64 m ∧ Hid (∀ i, (hi : i < x.length) → i < m → x[i].1 ≠ z) ∧ Hid (Below W2.heap.size W2 wr)) (fun i _ => j - (intOf i).toNat)
          case atStart => exact ⟨0, by omega, rfl, HQ0, HV0⟩
          case round =>
            obtain ⟨m, hm, rfl, HQ, HV⟩ := hrel
            clear HQ0 HV0
            by_cases hmj : m < j
            · have hmx : m < x.length := by omega
              have cm := (HV.out.cell (p := ⟨b', off' + m * 2, none⟩) s2).trans (HCC2.out m hmx)
              have g1 := (HV.out.cell (p := ⟨W0.heap.size, 0, none⟩) s0).trans g0
              have cw := (HV.out.cell (p := ⟨b, off + k, none⟩) s1).trans hcw2
              by_cases hz : x[m].1 = z
              · have HF2 := Lib.hid (HN3.out m hmj hz)
                rw [hz] at cm
                have fz : (z == z) = true := by simp
                go_wp2_with fail
                go_quiet (fail)
                go_wp2_with fail
                go_ret
                exact ⟨ret_bool HF2.out.symm, below_drawn (HBW.out.trans (HV.out.mono HBW.out.size))⟩
              · have HQ2 : Hid (∀ i, (hi : i < x.length) → i < m + 1 → x[i].1 ≠ z) := fun i hi h => by
                  by_cases e : i = m
                  · subst e; exact hz
                  · exact HQ.out i hi (by omega)
                have fz : (x[m].1 == z) = false := by simpa using hz
                generalize x[m].1 = y at *
                clear HQ
                go_wp2_with fail
                go_quiet (fail)
                go_wp2_with fail
                go_roundw
                case rel => exact ⟨m + 1, by omega, by go_num, HQ2, (below_drawn HV.out)⟩
                case measure => simp [intOf]; omega
            · obtain rfl : m = j := by omega
              have HO3 := Lib.hid (HX2.out fun i hi => HQ.out i (by omega) hi)
              have HB3 := Lib.hid (HBV.out.trans (HV.out.mono HBV.out.size))
              clear HX2 HN3 HCC2 HCC HQ
              go_wp2_with fail
              go_roundw
              case rel => exact ⟨m + 1, by omega, by go_num, HO3, HB3⟩
              case measure => simp [intOf]; omega
        · obtain rfl : j = x.length := by omega
          have HE : Hid (EqOk n x) := by
            have := HP.out
            rwa [List.take_length] at this
          have HN2 := Lib.hid (HN.out HE.out)
          have HB2 := Lib.hid (HB.out.trans (HC.out.mono HB.out.size))
          clear HP HF HE HO
          go_wp2_with fail
          go_roundw
          case rel => exact ⟨k + 1, by omega, by go_num, HN2, HB2⟩
          case measure => simp [intOf]; omega
    · obtain rfl : k = es.length := by omega
      have HF : Hid (decide (RightP es n) = true) := by
        show _ = _
        rw [decide_eq_true_iff, HI.out]
        have := HO.out
        rwa [List.take_length] at this
      go_wp2_with fail
      go_ret
      exact ⟨ret_bool HF.out.symm, HB.out⟩
end Go.Proofs.Yticppgopblgkbaa
