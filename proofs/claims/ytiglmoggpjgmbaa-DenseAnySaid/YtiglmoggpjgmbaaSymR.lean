/-
  The library's merge in place at package dense's lines: one line at the right.
-/
import Derived.Test.YtiglmoggpjgmbaaSymL
namespace Go.Proofs.Ytiglmoggpjgmbaa
open Go.ChangeShapes Go.WideShapes Go.ChangeAt Go.RowKit Go.Joins
set_option linter.unusedVariables false

set_option maxHeartbeats 4000000 in
set_option maxRecDepth 1000000 in
theorem sym_right (B cap a m b : Nat) (d0 d : Array LV) (w0 w : World) (R : RL w0 B d0) (hs : d0.size = d.size) (S : SL w0 B d w) (ham : a + 1 < m) (hm : b = m + 1) (hb : b ≤ d.size) (hsz : d.size ≤ 1000000) (hL : Sort.SortedIn ltR a m d) :
    Calls Try.prog 48 #[.slice (some ⟨B, 0, none⟩) d.size cap, .int .i64 a, .int .i64 m, .int .i64 b, .func (.func 35) #[] #[]] w (SymPst w0 B a b d) := by
  have mixed : Try.prog.follows .mixedOrders = true := by kernel_rfl
  have S0 : Aside (SL w0 B d w) := S
  have HL := Lib.hid hL
  have ha1 : a ≤ 1000000 := by omega
  have hb1 : b ≤ 1000000 := by omega
  have hm1 : m ≤ 1000000 := by omega
  have hq : (((m : Int) - (a : Int)) == 1) = false := by simp; omega
  have hq2 : (((b : Int) - (m : Int)) == 1) = true := by simp; omega
  have HM := Lib.hid hm
  have hmb : m < b := by omega
  have hms : m < d.size := by omega
  clear S hL hm
  go_enter Try.func48, Try.ntmps48
  go_wp2_with fail
  go_loopg [14, 15] (b - a) (fun g s10 s11 wr => ∃ (i j : Nat), s10 = .int .i64 i ∧ s11 = .int .i64 j ∧ a ≤ i ∧ i ≤ j ∧ j ≤ m ∧ j - i ≤ g ∧ Aside (SL w0 B d wr) ∧ Aside (∀ k, a ≤ k → k < i → ltR d[m]! d[k]! = false) ∧ Aside (∀ k, j ≤ k → k < m → ltR d[m]! d[k]! = true))
  case atStart => exact ⟨a, m, rfl, rfl, Nat.le_refl _, by omega, Nat.le_refl _, by omega, S0, fun k h1 h2 => by omega, fun k h1 h2 => by omega⟩
  case round =>
    clear S0
    obtain ⟨i, j, rfl, rfl, hai, hij, hjb, hg, S1, P1, P2⟩ := hrel
    by_cases hlt : i < j
    · have hltz : (i : Int) < (j : Int) := by omega
      have hh1 : i ≤ (i + j) / 2 := by omega
      have hh2 : (i + j) / 2 < j := by omega
      have hlen : (i + j) / 2 < d.size := by omega
      have hx0 : (0 : Int) ≤ ((i : Int) + (j : Int)) / 2 := by omega
      have hx1 : ((i : Int) + (j : Int)) / 2 < (d.size : Int) := by omega
      have hx2 : (((i : Int) + (j : Int)) / 2).toNat = (i + j) / 2 := by omega
      obtain ⟨c0, c1, c2⟩ := sl_grown S1.out R (by omega) (i := m) (by omega)
      obtain ⟨b0, b1, b2⟩ := sl_grown S1.out R (by omega) (i := (i + j) / 2) (by omega)
      have az : (m : Int) < (d.size : Int) := by omega
      cases hlv : ltR d[m]! d[(i + j) / 2]! with
      | false =>
        have Q1 : Aside (∀ k, a ≤ k → k < (i + j) / 2 + 1 → ltR d[m]! d[k]! = false) := fun k h1 h2 => by
          have := sorted_le swo_ltR HL.out (i := k) (j := (i + j) / 2) (by omega) (by omega) (by omega)
          simp [ltR] at this hlv ⊢; omega
        obtain ⟨c, hc, hcall⟩ := byLen_no hlv
        have hcd : (!decide (c < 0)) = true := by simp; omega
        clear hlv P1
        generalize d[(i + j) / 2]! = x at *
        generalize hya : d[m]! = y at c0 c1 c2 b0 hcall
        have HY := Lib.hid hya
        clear hya
        go_wp2_with fail
        go_quiet_grown (first | (go_at_call 35; refine Calls.grown_of (hcall _)))
        have S3 : Aside (SL w0 B d (Sort.grow (wr.drewN nq) osq)) := S1.out.grown nq osq
        clear c0 c1 c2 b0 b1 b2 hcall S1
        generalize Sort.grow (wr.drewN nq) osq = w2 at S3 ⊢
        go_wp2_with fail
        go_roundg (j - ((i + j) / 2 + 1))
        case measure => omega
        case rel => exact ⟨(i + j) / 2 + 1, j, by first | rfl | go_num | (congr 1; omega), rfl, by omega, by omega, hjb, Nat.le_refl _, S3, Q1, P2⟩
      | true =>
        have Q2 : Aside (∀ k, (i + j) / 2 ≤ k → k < m → ltR d[m]! d[k]! = true) := fun k h1 h2 => by
          have := sorted_le swo_ltR HL.out (i := (i + j) / 2) (j := k) (by omega) (by omega) (by omega)
          simp [ltR] at this hlv ⊢; omega
        obtain ⟨c, hc, hcall⟩ := byLen_yes hlv
        have hcd : (!decide (c < 0)) = false := by simp; omega
        clear hlv P2
        generalize d[(i + j) / 2]! = x at *
        generalize hya : d[m]! = y at c0 c1 c2 b0 hcall
        have HY := Lib.hid hya
        clear hya
        go_wp2_with fail
        go_quiet_grown (first | (go_at_call 35; refine Calls.grown_of (hcall _)))
        have S3 : Aside (SL w0 B d (Sort.grow (wr.drewN nq) osq)) := S1.out.grown nq osq
        clear c0 c1 c2 b0 b1 b2 hcall S1
        generalize Sort.grow (wr.drewN nq) osq = w2 at S3 ⊢
        go_wp2_with fail
        go_roundg ((i + j) / 2 - i)
        case measure => omega
        case rel => exact ⟨i, (i + j) / 2, rfl, by first | rfl | go_num | (congr 1; omega), hai, by omega, by omega, Nat.le_refl _, S3, P1, Q2⟩
    · obtain rfl : i = j := by omega
      have hltz : ¬ (i : Int) < (i : Int) := by omega
      go_wp2_with fail
      go_loopg [17] (m - i) (fun g s13 wr => ∃ (k : Nat) (dk : Array LV), s13 = .int .i64 k ∧ i ≤ k ∧ k ≤ m ∧ k - i ≤ g ∧ Aside (SL w0 B dk wr) ∧ Aside (Down k m d dk))
      case atStart => exact ⟨m, d, rfl, hjb, Nat.le_refl _, Nat.le_refl _, S1, Down.start m d⟩
      case round =>
        clear S1
        obtain ⟨k, dk, rfl, hak, hki, hg2, S1, U1⟩ := hrel
        have hds : dk.size = d.size := U1.out.size
        by_cases hlt2 : i < k
        · obtain ⟨kp, rfl⟩ : ∃ kp, k = kp + 1 := ⟨k - 1, by omega⟩
          have e0 : ((kp : Int) + 1).toNat = kp + 1 := by omega
          have p0 : (0 : Int) ≤ (kp : Int) + 1 := by omega
          have bz : (kp : Int) + 1 < (d.size : Int) := by omega
          have bz1 : (kp : Int) < (d.size : Int) := by omega
          have hwp : IntKind.i64.wrap (kp : Int) = (kp : Int) := by rw [IntKind.wrap_i64]; omega
          have hz2 : (i : Int) < (kp : Int) + 1 := by omega
          have S2 : Aside _ := SWK.drew (sl_swapped S1.out R (i := kp + 1) (j := kp) (by omega) (by omega))
          have U2 : Aside (Down kp m d (Sort.swp dk (kp + 1) kp)) := U1.out.step hki (by omega)
          obtain ⟨c0, c1, c2, f0, f1, f2⟩ := sl_cells S1.out R (by omega) (i := kp) (by omega)
          obtain ⟨b0, b1, b2, g0, g1, g2⟩ := sl_cells S1.out R (by omega) (i := kp + 1) (by omega)
          generalize dk[kp]! = x at *
          generalize dk[kp + 1]! = y at *
          clear S1 U1 hds
          go_wp2_with fail
          go_big_region_o
          go_wp2_with fail
          go_roundg (kp - i)
          case measure => omega
          case rel => exact ⟨kp, _, by first | rfl | go_num | (congr 1; omega), by omega, by omega, Nat.le_refl _, S2, U2⟩
        · obtain rfl : k = i := by omega
          have hz2 : ¬ (k : Int) < (k : Int) := by omega
          have F := Lib.hid (Down.sorted swo_ltR U1.out hai hjb hms HL.out P1.out P2.out)
          rw [← HM.out] at F
          go_wp2_with fail
          go_end0
          exact ⟨rfl, dk, S1.out, F.out⟩
end Go.Proofs.Ytiglmoggpjgmbaa
