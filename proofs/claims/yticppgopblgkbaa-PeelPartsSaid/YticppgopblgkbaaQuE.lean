/-
  A heap of equations: container/heap's down.
-/
import Derived.Test.YticppgopblgkbaaQuD
namespace Go.Proofs.Yticppgopblgkbaa
open Go.ChangeShapes Go.WideShapes Go.ChangeAt Go.RowKit Go.Joins
set_option linter.unusedVariables false

set_option maxRecDepth 100000 in
set_option maxHeartbeats 4000000 in
theorem down_any (q : QP) (m : Nat) (es : List Nat) (at_ op : Nat → Nat) (w : World) (h : Qm w q m es at_ op) (i n : Nat) (hi : i < n) (hn : n ≤ es.length) :
    Calls Try.prog 27 #[.iface 43 (.pointer (some ⟨q.qb, 0, none⟩)), .int .i64 (i : Int), .int .i64 (n : Int)] w fun e w' => (∃ b : Bool, e = .returned (.bool b)) ∧ ∃ es', Turned q m op es es' w w' ∧ ∀ k, n ≤ k → es'[k]? = es[k]? := by
  have HQ := Lib.hid (qcalls q m op)
  have HT0 : Hid (Turned q m op es es w w) := Turned.refl h
  have hlm : es.length ≤ 1000 := Nat.le_trans h.short h.few
  have m1 := meth_less q.qb
  have m2 := meth_swap q.qb
  clear h
  go_enter Try.func27, Try.ntmps27
  go_wp2_with fail
  go_loopw [7] (fun v wr => ∃ (k : Nat) (es' : List Nat), k < n ∧ v = .int .i64 k ∧ Hid (Turned q m op es es' w wr) ∧ Hid (∀ x, n ≤ x → es'[x]? = es[x]?)) (fun v _ => n - (intOf v).toNat)
  case atStart => exact ⟨i, es, hi, rfl, HT0, fun x _ => rfl⟩
  case round =>
    obtain ⟨k, es', hk, rfl, HT, HF⟩ := hrel
    clear HT0
    have hl : es'.length = es.length := HT.out.2.1.length_eq
    obtain ⟨p, hp⟩ : ∃ p, p = 2 * k + 1 := ⟨_, rfl⟩
    have hq : 2 * (k : Int) + 1 = (p : Int) := by omega
    have hkp : k < p := by omega
    clear hp
    by_cases hpn : n ≤ p
    · have d1 : decide ((n : Int) ≤ (p : Int)) = true := by simp; omega
      go_wp2_with fail
      go_ret
      exact ⟨⟨_, rfl⟩, es', HT.out, HF.out⟩
    have d1 : decide ((n : Int) ≤ (p : Int)) = false := by simp; omega
    have d2 : decide ((p : Int) < 0) = false := by rw [decide_eq_false_iff_not]; omega
    obtain ⟨r, hr⟩ : ∃ r, r = p + 1 := ⟨_, rfl⟩
    have hq2 : (p : Int) + 1 = (r : Int) := by omega
    have hkr : p < r := by omega
    clear hr
    by_cases hrn : r < n
    · have d3 : decide ((r : Int) < (n : Int)) = true := by simp; omega
      obtain ⟨a1, Q1⟩ := HT.out.1
      have HL := Lib.hid (HQ.out.less es' a1 wr Q1 r p (by omega) (by omega))
      clear Q1
      go_wp2_with fail
      (with_reducible refine HL.out.mono ?_)
      rintro e w1 ⟨⟨b, rfl⟩, f1⟩
      have HT1 := Lib.hid (HT.out.still f1)
      clear f1 HL HT
      cases b
      · -- the left one
        obtain ⟨a2, Q2⟩ := HT1.out.1
        have HL2 := Lib.hid (HQ.out.less es' a2 w1 Q2 p k (by omega) (by omega))
        clear Q2
        go_wp2_with fail
        (with_reducible refine HL2.out.mono ?_)
        rintro e w2 ⟨⟨b, rfl⟩, f1⟩
        have HT2 := Lib.hid (HT1.out.still f1)
        clear f1 HL2 HT1
        cases b
        · go_wp2_with fail
          go_ret
          exact ⟨⟨_, rfl⟩, es', HT2.out, HF.out⟩
        · obtain ⟨a3, Q3⟩ := HT2.out.1
          have HS := Lib.hid (HQ.out.swap es' a3 w2 Q3 k p (by omega) (by omega) (by omega))
          clear Q3
          go_wp2_with fail
          (with_reducible refine HS.out.mono ?_)
          rintro e w3 ⟨rfl, t3⟩
          have HT3 := Lib.hid (HT2.out.trans t3)
          have HF3 : Hid (∀ x, n ≤ x → (swapL es' k p)[x]? = es[x]?) := fun x hx => (swapL_far (by omega) (by omega) (by omega) (by omega)).trans (HF.out x hx)
          clear t3 HS HT2 HF
          go_wp2_with fail
          go_roundw
          case rel => exact ⟨p, swapL es' k p, by omega, rfl, HT3, HF3⟩
          case measure => simp [intOf]; omega
      · -- the right one
        obtain ⟨a2, Q2⟩ := HT1.out.1
        have HL2 := Lib.hid (HQ.out.less es' a2 w1 Q2 r k (by omega) (by omega))
        clear Q2
        go_wp2_with fail
        (with_reducible refine HL2.out.mono ?_)
        rintro e w2 ⟨⟨b, rfl⟩, f1⟩
        have HT2 := Lib.hid (HT1.out.still f1)
        clear f1 HL2 HT1
        cases b
        · go_wp2_with fail
          go_ret
          exact ⟨⟨_, rfl⟩, es', HT2.out, HF.out⟩
        · obtain ⟨a3, Q3⟩ := HT2.out.1
          have HS := Lib.hid (HQ.out.swap es' a3 w2 Q3 k r (by omega) (by omega) (by omega))
          clear Q3
          go_wp2_with fail
          (with_reducible refine HS.out.mono ?_)
          rintro e w3 ⟨rfl, t3⟩
          have HT3 := Lib.hid (HT2.out.trans t3)
          have HF3 : Hid (∀ x, n ≤ x → (swapL es' k r)[x]? = es[x]?) := fun x hx => (swapL_far (by omega) (by omega) (by omega) (by omega)).trans (HF.out x hx)
          clear t3 HS HT2 HF
          go_wp2_with fail
          go_roundw
          case rel => exact ⟨r, swapL es' k r, by omega, rfl, HT3, HF3⟩
          case measure => simp [intOf]; omega
    · have d3 : decide ((r : Int) < (n : Int)) = false := by simp; omega
      obtain ⟨w1, rfl⟩ : ∃ x, x = wr := ⟨_, rfl⟩
      have HT1 := HT
      clear HT
      obtain ⟨a2, Q2⟩ := HT1.out.1
      have HL2 := Lib.hid (HQ.out.less es' a2 w1 Q2 p k (by omega) (by omega))
      clear Q2
      go_wp2_with fail
      (with_reducible refine HL2.out.mono ?_)
      rintro e w2 ⟨⟨b, rfl⟩, f1⟩
      have HT2 := Lib.hid (HT1.out.still f1)
      clear f1 HL2 HT1
      cases b
      · go_wp2_with fail
        go_ret
        exact ⟨⟨_, rfl⟩, es', HT2.out, HF.out⟩
      · obtain ⟨a3, Q3⟩ := HT2.out.1
        have HS := Lib.hid (HQ.out.swap es' a3 w2 Q3 k p (by omega) (by omega) (by omega))
        clear Q3
        go_wp2_with fail
        (with_reducible refine HS.out.mono ?_)
        rintro e w3 ⟨rfl, t3⟩
        have HT3 := Lib.hid (HT2.out.trans t3)
        have HF3 : Hid (∀ x, n ≤ x → (swapL es' k p)[x]? = es[x]?) := fun x hx => (swapL_far (by omega) (by omega) (by omega) (by omega)).trans (HF.out x hx)
        clear t3 HS HT2 HF
        go_wp2_with fail
        go_roundw
        case rel => exact ⟨p, swapL es' k p, by omega, rfl, HT3, HF3⟩
        case measure => simp [intOf]; omega
end Go.Proofs.Yticppgopblgkbaa
