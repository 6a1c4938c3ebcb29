/-
  Whether they are equations: package peel's Right, all of them; whether they are few; the law's awake.
-/
import Derived.Test.YticppgopblgkbaaPeelA
namespace Go.Proofs.Yticppgopblgkbaa
open Go.ChangeShapes Go.WideShapes Go.ChangeAt Go.RowKit Go.Joins
set_option linter.unusedVariables false

theorem rightP_all {es : Eqz} {n : Int} (h0 : 0 ≤ n) (h1 : n ≤ 256) (h2 : es.length ≤ 1000) : RightP es n ↔ ∀ l ∈ es, EqOk n l := ⟨fun h => h.2.2.2, fun h => ⟨h0, h1, h2, h⟩⟩
theorem all_next {es : Eqz} {P : Cz → Prop} {k : Nat} (h : k < es.length) (h1 : ∀ l ∈ es.take k, P l) (h2 : P es[k]) : ∀ l ∈ es.take (k + 1), P l := fun l hl => by
  rw [List.take_succ_eq_append_getElem h] at hl
  rcases List.mem_append.1 hl with hl | hl
  · exact h1 l hl
  · obtain rfl : l = es[k] := by simpa using hl
    exact h2
theorem er_one {w : World} {a : Option Addr} {cap : Nat} {es : Eqz} (h : Er w a cap es) {k : Nat} (hk : k < es.length) :
    ∃ b off, a = some ⟨b, off, none⟩ ∧ b < w.heap.size ∧ ∃ a' c', w.cell? ⟨b, off + k, none⟩ = some (.slice a' es[k].length c') ∧ Cr w a' c' es[k] := by
  obtain ⟨b, off, e, hb, hc⟩ := h.some hk
  exact ⟨b, off, e, hb, hc k hk⟩

set_option maxRecDepth 100000 in
set_option maxHeartbeats 2000000 in
theorem right_any (a : Option Addr) (cap : Nat) (es : Eqz) (n : Int) (hn : -9223372036854775808 ≤ n ∧ n ≤ 9223372036854775807) (w : World) (hs : Er w a cap es) :
    Calls Try.prog 7 #[.slice a es.length cap, .int .i64 n] w fun e w' => e = .returned (.bool (decide (RightP es n))) ∧ Below w.heap.size w w' := by
  have HS := Lib.hid hs
  have hlm := hs.lt
  clear hs
  by_cases n0 : n < 0
  · have HF : Hid (decide (RightP es n) = false) := by show _ = _; rw [decide_eq_false_iff_not]; intro h; have := h.1; omega
    have d1 : decide (n < 0) = true := by simp; omega
    go_enter Try.func7, Try.ntmps7
    go_wp2_with fail
    go_ret
    exact ⟨ret_bool HF.out.symm, Below.refl _ _⟩
  have d1 : decide (n < 0) = false := by simp; omega
  by_cases n1 : 256 < n
  · have HF : Hid (decide (RightP es n) = false) := by show _ = _; rw [decide_eq_false_iff_not]; intro h; have := h.2.1; omega
    have d2 : decide ((256 : Int) < n) = true := by simp; omega
    go_enter Try.func7, Try.ntmps7
    go_wp2_with fail
    go_ret
    exact ⟨ret_bool HF.out.symm, Below.refl _ _⟩
  have d2 : decide ((256 : Int) < n) = false := by simp; omega
  by_cases e1 : 1000 < es.length
  · have HF : Hid (decide (RightP es n) = false) := by show _ = _; rw [decide_eq_false_iff_not]; intro h; have := h.2.2.1; omega
    have d3 : decide ((1000 : Int) < (es.length : Int)) = true := by simp; omega
    go_enter Try.func7, Try.ntmps7
    go_wp2_with fail
    go_ret
    exact ⟨ret_bool HF.out.symm, Below.refl _ _⟩
  have d3 : decide ((1000 : Int) < (es.length : Int)) = false := by simp; omega
  have HI := Lib.hid (rightP_all (es := es) (n := n) (by omega) (by omega) (by omega))
  obtain ⟨N, rfl⟩ : ∃ N : Nat, n = (N : Int) := ⟨n.toNat, by omega⟩
  have hN : N ≤ 256 := by omega
  have HR : Hid (∀ (a : Option Addr) (cap : Nat) (l : Cz) (w : World), Cr w a cap l → Calls Try.prog 10 #[.slice a l.length cap, .int .i64 (N : Int)] w fun e w' => e = .returned (.bool (decide (EqOk N l))) ∧ Below w.heap.size w w') := fun a cap l w h => right1_any a cap l N hN w h
  have HO0 : Hid (∀ l ∈ es.take 0, EqOk (N : Int) l) := fun l h => by simp at h
  have HB0 : Hid (Below w.heap.size w w) := Below.refl _ _
  go_enter Try.func7, Try.ntmps7
  go_wp2_with fail
  go_loopw [20] (fun i wr => ∃ k : Nat, k ≤ es.length ∧ i = .int .i64 k ∧ Hid (∀ l ∈ es.take k, EqOk (N : Int) l) ∧ Hid (Below w.heap.size w wr)) (fun i _ => es.length - (intOf i).toNat)
  case atStart => exact ⟨0, by omega, rfl, HO0, HB0⟩
  case round =>
    obtain ⟨k, hk, rfl, HO, HB⟩ := hrel
    clear HB0 HO0
    by_cases hlt : k < es.length
    · obtain ⟨b, off, rfl, hb, a', c', hc, hl⟩ := er_one (HS.out.below HB.out) hlt
      have HA := Lib.hid (HR.out a' c' es[k] wr hl)
      have hlk := hl.lt
      have HN := Lib.hid (fun h : EqOk (N : Int) es[k] => all_next hlt HO.out h)
      have HF : Hid (¬ EqOk (N : Int) es[k] → decide (RightP es N) = false) := fun h => by
        rw [decide_eq_false_iff_not]
        intro h1
        exact h (h1.2.2.2 _ (List.getElem_mem hlt))
      generalize es[k] = x at *
      clear hl
      by_cases hx : EqOk (N : Int) x
      · have hd : decide (EqOk (N : Int) x) = true := by rw [decide_eq_true_iff]; exact hx
        rw [hd] at HA
        have HN2 := Lib.hid (HN.out hx)
        clear HF HN HO
        go_wp2_with fail
        refine HA.out.mono ?_
        rintro e w1 ⟨rfl, hb1⟩
        have HB1 := Lib.hid (HB.out.trans (hb1.mono HB.out.size))
        clear hb1 HA
        go_wp2_with fail
        go_roundw
        case rel => exact ⟨k + 1, by omega, by go_num, HN2, HB1⟩
        case measure => simp [intOf]; omega
      · have hd : decide (EqOk (N : Int) x) = false := by rw [decide_eq_false_iff_not]; exact hx
        rw [hd] at HA
        have HF2 := Lib.hid (HF.out hx)
        clear HF HN HO
        go_wp2_with fail
        refine HA.out.mono ?_
        rintro e w1 ⟨rfl, hb1⟩
        have HB1 := Lib.hid (HB.out.trans (hb1.mono HB.out.size))
        clear hb1 HA
        go_wp2_with fail
        go_ret
        exact ⟨ret_bool HF2.out.symm, HB1.out⟩
    · obtain rfl : k = es.length := by omega
      have HF : Hid (decide (RightP es N) = true) := by
        show _ = _
        rw [decide_eq_true_iff, HI.out]
        have := HO.out
        rwa [List.take_length] at this
      go_wp2_with fail
      go_ret
      exact ⟨ret_bool HF.out.symm, HB.out⟩

theorem nil_er (w : World) : Er w none 0 [] := ⟨by simp, by unfold maxLen; omega, fun _ => ⟨rfl, rfl⟩, .inl rfl⟩

set_option maxRecDepth 100000 in
theorem awake_any (w : World) : Calls Try.prog 5 #[] w fun e w' => e = .returned (.bool true) ∧ Below w.heap.size w w' := by
  have E1 : Hid (∀ w, Calls Try.prog 7 #[.slice none 0 0, .int .i64 0] w fun e w' => e = .returned (.bool true) ∧ Below w.heap.size w w') := fun w => right_any none 0 [] 0 (by omega) w (nil_er w)
  have E2 : Hid (∀ w, Calls Try.prog 7 #[.slice none 0 0, .int .i64 (-1)] w fun e w' => e = .returned (.bool false) ∧ Below w.heap.size w w') := fun w => right_any none 0 [] (-1) (by omega) w (nil_er w)
  go_enter Try.func5, Try.ntmps5
  go_wp2_with fail
  refine (E1.out w).mono ?_
  rintro e w1 ⟨rfl, b1⟩
  have HB1 := Lib.hid b1
  clear b1 E1
  go_wp2_with fail
  refine (E2.out w1).mono ?_
  rintro e w2 ⟨rfl, b2⟩
  have HB2 := Lib.hid (HB1.out.trans (b2.mono HB1.out.size))
  clear b2 E2
  go_wp2_with fail
  go_ret
  exact ⟨rfl, HB2.out⟩

/-- Few equations. -/
def FewP (es : Eqz) : Prop := es.length ≤ 80 ∧ ∀ l ∈ es, l.length ≤ 80
instance (es : Eqz) : Decidable (FewP es) := by unfold FewP; infer_instance
set_option maxHeartbeats 1000000 in
theorem few_any (a : Option Addr) (cap : Nat) (es : Eqz) (w : World) (hs : Er w a cap es) :
    Calls Try.prog 6 #[.slice a es.length cap] w fun e w' => e = .returned (.bool (decide (FewP es))) ∧ w = w' := by
  have HS := Lib.hid hs
  have hlm := hs.lt
  clear hs
  go_enter Try.func6, Try.ntmps6
  go_wp2_with fail
  go_loop [6] (fun i => ∃ k : Nat, k ≤ es.length ∧ i = .int .i64 k ∧ k ≤ 80 ∧ Hid (∀ l ∈ es.take k, l.length ≤ 80)) (fun i => es.length - (intOf i).toNat)
  case atStart => exact ⟨0, by omega, rfl, by omega, fun l h => by simp at h⟩
  case round =>
    obtain ⟨k, hk, rfl, h80, HO⟩ := hrel
    by_cases hlt : k < es.length
    · obtain ⟨b, off, rfl, hb, a', c', hc, hl⟩ := er_one HS.out hlt
      have hlk := hl.lt
      clear hl
      by_cases k80 : 80 ≤ k
      · have HF : Hid (decide (FewP es) = false) := by show _ = _; rw [decide_eq_false_iff_not]; intro h; have := h.1; omega
        have d1 : decide ((80 : Int) ≤ (k : Int)) = true := by simp; omega
        go_wp2_with fail
        go_ret
        exact ⟨ret_bool HF.out.symm, rfl⟩
      · have d1 : decide ((80 : Int) ≤ (k : Int)) = false := by simp; omega
        by_cases l80 : 80 < es[k].length
        · have HF : Hid (decide (FewP es) = false) := by show _ = _; rw [decide_eq_false_iff_not]; intro h; have := h.2 _ (List.getElem_mem hlt); omega
          generalize es[k] = x at *
          have d2 : decide ((80 : Int) < (x.length : Int)) = true := by simp; omega
          go_wp2_with fail
          go_ret
          exact ⟨ret_bool HF.out.symm, rfl⟩
        · have HN := Lib.hid (all_next (P := fun l => l.length ≤ 80) hlt HO.out (by omega))
          generalize es[k] = x at *
          have d2 : decide ((80 : Int) < (x.length : Int)) = false := by simp; omega
          clear HO
          go_wp2_with fail
          go_round
          case rel => exact ⟨k + 1, by omega, by go_num, by omega, HN⟩
          case measure => simp [intOf]; omega
    · obtain rfl : k = es.length := by omega
      have HF : Hid (decide (FewP es) = true) := by
        show _ = _
        rw [decide_eq_true_iff]
        refine ⟨by omega, ?_⟩
        have := HO.out
        rwa [List.take_length] at this
      go_wp2_with fail
      go_ret
      exact ⟨ret_bool HF.out.symm, rfl⟩
end Go.Proofs.Yticppgopblgkbaa
