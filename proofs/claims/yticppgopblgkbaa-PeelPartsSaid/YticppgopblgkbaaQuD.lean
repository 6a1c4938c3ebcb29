/-
  A heap of equations: container/heap's up and down.
-/
import Derived.Test.YticppgopblgkbaaQuC
namespace Go.Proofs.Yticppgopblgkbaa
open Go.ChangeShapes Go.WideShapes Go.ChangeAt Go.RowKit Go.Joins
set_option linter.unusedVariables false

theorem Turned.refl {q : QP} {m : Nat} {op : Nat → Nat} {es : List Nat} {at_ : Nat → Nat} {w : World} (h : Qm w q m es at_ op) : Turned q m op es es w w := ⟨⟨at_, h⟩, List.Perm.refl _, Fr.refl _ _⟩
theorem Turned.still {q : QP} {m : Nat} {op : Nat → Nat} {es es' : List Nat} {w w' w'' : World} (h : Turned q m op es es' w w') (k : Fr (fun _ => False) w' w'') : Turned q m op es es' w w'' := by
  obtain ⟨⟨a, h1⟩, h2, h3⟩ := h
  exact ⟨⟨a, h1.fr k fun _ _ h => h⟩, h2, h3.trans (k.mono fun _ _ h => h.elim)⟩
theorem Turned.trans {q : QP} {m : Nat} {op : Nat → Nat} {es es1 es2 : List Nat} {w w1 w2 : World} (h : Turned q m op es es1 w w1) (k : Turned q m op es1 es2 w1 w2) : Turned q m op es es2 w w2 :=
  ⟨k.1, k.2.1.trans h.2.1, h.2.2.trans k.2.2⟩

/-- A call on a queue of this list: Len, Less, Swap. -/
structure QCalls (q : QP) (m : Nat) (op : Nat → Nat) : Prop where
  len : ∀ (es : List Nat) (at_ : Nat → Nat) (w : World), Qm w q m es at_ op → Calls Try.prog 14 #[.pointer (some ⟨q.qb, 0, none⟩)] w fun e w' => e = .returned (.int .i64 (es.length : Int)) ∧ w = w'
  less : ∀ (es : List Nat) (at_ : Nat → Nat) (w : World), Qm w q m es at_ op → ∀ (i j : Nat), i < es.length → j < es.length → Calls Try.prog 63 #[.pointer (some ⟨q.qb, 0, none⟩), .int .i64 (i : Int), .int .i64 (j : Int)] w fun e w' => (∃ b : Bool, e = .returned (.bool b)) ∧ Fr (fun _ => False) w w'
  swap : ∀ (es : List Nat) (at_ : Nat → Nat) (w : World), Qm w q m es at_ op → ∀ (i j : Nat), i < es.length → j < es.length → i ≠ j → Calls Try.prog 66 #[.pointer (some ⟨q.qb, 0, none⟩), .int .i64 (i : Int), .int .i64 (j : Int)] w fun e w' => e = .returned (.tuple #[]) ∧ Turned q m op es (swapL es i j) w w'
theorem qcalls (q : QP) (m : Nat) (op : Nat → Nat) : QCalls q m op :=
  ⟨fun es at_ w h => len_any q m es at_ op w h, fun es at_ w h i j hi hj => less_any q m es at_ op w h i j hi hj, fun es at_ w h i j hi hj hij => swap_any q m es at_ op w h i j hi hj hij⟩

theorem swapL_far {es : List Nat} {i j k : Nat} (hi : i < es.length) (hj : j < es.length) (h1 : k ≠ i) (h2 : k ≠ j) : (swapL es i j)[k]? = es[k]? := by
  unfold swapL
  rw [List.getElem?_set_ne (Ne.symm h2), List.getElem?_set_ne (Ne.symm h1)]

set_option maxRecDepth 100000 in
set_option maxHeartbeats 4000000 in
theorem up_any (q : QP) (m : Nat) (es : List Nat) (at_ op : Nat → Nat) (w : World) (h : Qm w q m es at_ op) (j : Nat) (hj : j < es.length) :
    Calls Try.prog 24 #[.iface 43 (.pointer (some ⟨q.qb, 0, none⟩)), .int .i64 (j : Int)] w fun e w' => e = .returned (.tuple #[]) ∧ ∃ es', Turned q m op es es' w w' ∧ ∀ k, j < k → es'[k]? = es[k]? := by
  have HQ := Lib.hid (qcalls q m op)
  have HT0 : Hid (Turned q m op es es w w) := Turned.refl h
  have hlm : es.length ≤ 1000 := Nat.le_trans h.short h.few
  have m1 := meth_less q.qb
  have m2 := meth_swap q.qb
  clear h
  go_enter Try.func24, Try.ntmps24
  go_wp2_with fail
  go_loopw [1] (fun v wr => ∃ (k : Nat) (es' : List Nat), k ≤ j ∧ v = .int .i64 k ∧ Hid (Turned q m op es es' w wr) ∧ Hid (∀ x, j < x → es'[x]? = es[x]?)) (fun v _ => (intOf v).toNat)
  case atStart => exact ⟨j, es, by omega, rfl, HT0, fun x _ => rfl⟩
  case round =>
    obtain ⟨k, es', hk, rfl, HT, HF⟩ := hrel
    clear HT0
    by_cases k0 : k = 0
    · subst k0
      go_wp2_with fail
      go_end0
      exact ⟨rfl, es', HT.out, HF.out⟩
    · obtain ⟨p, hp⟩ : ∃ p, p = (k - 1) / 2 := ⟨_, rfl⟩
      have hq : ((k : Int) - 1).tdiv 2 = (p : Int) := by rw [show (k : Int) - 1 = ((k - 1 : Nat) : Int) by omega, hp]; exact (Int.ofNat_tdiv _ _).symm
      have hpk : p < k := by omega
      clear hp
      have he : ((p : Int) == (k : Int)) = false := by simp; omega
      have hl : es'.length = es.length := HT.out.2.1.length_eq
      obtain ⟨a1, Q1⟩ := HT.out.1
      have HL := Lib.hid (HQ.out.less es' a1 wr Q1 k p (by omega) (by omega))
      clear Q1
      go_wp2_with fail
      (with_reducible refine HL.out.mono ?_)
      rintro e w1 ⟨⟨b, rfl⟩, f1⟩
      have HT1 := Lib.hid (HT.out.still f1)
      clear f1 HL HT
      cases b
      · go_wp2_with fail
        go_end0
        exact ⟨rfl, es', HT1.out, HF.out⟩
      · obtain ⟨a2, Q2⟩ := HT1.out.1
        have HS := Lib.hid (HQ.out.swap es' a2 w1 Q2 p k (by omega) (by omega) (by omega))
        clear Q2
        go_wp2_with fail
        (with_reducible refine HS.out.mono ?_)
        rintro e w2 ⟨rfl, t2⟩
        have HT2 := Lib.hid (HT1.out.trans t2)
        have HF2 : Hid (∀ x, j < x → (swapL es' p k)[x]? = es[x]?) := fun x hx => (swapL_far (by omega) (by omega) (by omega) (by omega)).trans (HF.out x hx)
        clear t2 HS HT1 HF
        go_wp2_with fail
        go_roundw
        case rel => exact ⟨p, swapL es' p k, by omega, rfl, HT2, HF2⟩
        case measure => simp [intOf]; omega
end Go.Proofs.Yticppgopblgkbaa
