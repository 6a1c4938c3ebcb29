/-
  Package codec: an Out's N, Text, Raw.
-/
import Derived.Test.YtdfgdpgffblbpaaCdU
import Derived.Test.YtdfgdpgffblbpaaCdW
namespace Go.Proofs.Ytdfgdpgffblbpaa
open Go.ChangeShapes Go.WideShapes Go.ChangeAt Go.RowKit Go.Joins
set_option linter.unusedVariables false

theorem addO_none (s : Option (List Nat)) : addO s none = none := by cases s <;> rfl

/-- N, out of what spoil and put do. -/
def fitsN (v n : Int) : Prop := 1 ≤ n ∧ n ≤ 6 ∧ 0 ≤ v ∧ v < 256 ^ n.toNat
set_option maxRecDepth 100000 in
set_option maxHeartbeats 1000000 in
theorem outN_core (pv : Option Addr) (w : World) (v n : Int) (hv : i64R v) (hn : i64R n) (P : World → Prop)
    (hsp : ¬ fitsN v n → Calls Try.prog 22 #[.pointer pv] w fun e w' => e = .returned (.tuple #[]) ∧ P w')
    (hpt : ∀ V N : Nat, v = (V : Int) → n = (N : Int) → N ≤ 6 → putN v n = some (wideN V N) → ∀ wr, Below w.heap.size w wr → Sl wr (some ⟨w.heap.size, 0, none⟩) N (wideN V N) →
      Calls Try.prog 23 #[.pointer pv, .slice (some ⟨w.heap.size, 0, none⟩) N N] wr fun e w' => e = .returned (.tuple #[]) ∧ P w') :
    Calls Try.prog 8 #[.pointer pv, .int .i64 v, .int .i64 n] w fun e w' => e = .returned (.tuple #[]) ∧ P w' := by
  have hv1 := hv.1
  have hv2 := hv.2
  have HZ := Lib.hid (sized_any n w hn)
  have HSPA := Lib.hid hsp
  have HPTA := Lib.hid hpt
  clear hsp hpt
  have HV := Lib.hid hv
  clear hv
  by_cases g : 1 ≤ n ∧ n ≤ 6
  · have HSZ : Hid (Calls Try.prog 21 #[.int .i64 n] w fun e w' => e = .returned (.bool true) ∧ w = w') := HZ.out.mono fun e w' h => ⟨by rw [h.1, decide_eq_true g], h.2⟩
    obtain ⟨g1, g2⟩ := g
    clear HZ
    by_cases g3 : 0 ≤ v
    · obtain ⟨V, rfl⟩ : ∃ V : Nat, v = (V : Int) := ⟨v.toNat, by omega⟩
      obtain ⟨N, rfl⟩ : ∃ N : Nat, n = (N : Int) := ⟨n.toNat, by omega⟩
      have hpow : (2 : Int) ^ (8 * N) = ((256 ^ N : Nat) : Int) := by
        rw [Int.pow_mul]
        simp
      have hN6 : N ≤ 6 := by omega
      have d3 : decide ((V : Int) < 0) = false := decide_eq_false (by omega)
      have hw8 : (8 * (N : Int)).toNat = 8 * N := by omega
      obtain ⟨R, hR⟩ : ∃ R : Nat, R = V / 256 ^ N := ⟨_, rfl⟩
      have hsh : (V : Int) / 2 ^ (8 * N) = (R : Int) := by rw [hpow, hR]; simp
      have HPW := Lib.hid hpow
      have HRR := Lib.hid hR
      clear hpow hR
      by_cases g4 : V < 256 ^ N
      · have HP : Hid (putN (V : Int) (N : Int) = some (wideN V N)) := by
          show _ = _
          unfold putN
          rw [if_pos ⟨g1, g2, by omega, by rw [Int.toNat_natCast]; exact_mod_cast g4⟩]
          simp
        obtain rfl : R = 0 := by rw [HRR.out]; exact Nat.div_eq_of_lt g4
        clear HRR g4 HSPA
        have hmk := make_row N (by omega) w
        have HB0 : Hid (Below w.heap.size w (w.alloc (.cells (rowArr N zV) 5))) := (Below.refl _ _).alloc (Nat.le_refl _) _
        have HR0 : Hid (Row (w.alloc (.cells (rowArr N zV) 5)) w.heap.size 5 N N (backV V N 0)) := (Row.new_whole w _ _ zV _ _ rfl rfl).mono (Nat.le_refl _) fun j hj => by
          unfold backV
          rw [if_neg (by omega)]
        obtain ⟨G, hG⟩ : ∃ G, G = w.heap.size := ⟨_, rfl⟩
        obtain ⟨w1, hw1⟩ : ∃ w1, w1 = w.alloc (.cells (rowArr N zV) 5) := ⟨_, rfl⟩
        have HGE := Lib.hid hG
        rw [← hG, ← hw1] at hmk
        rw [← hw1] at HB0 HR0
        rw [← hG] at HR0
        clear hw1 hG
        go_enter Try.func8, Try.ntmps8
        go_wp2_with fail
        (with_reducible refine HSZ.out.mono ?_)
        rintro e w' ⟨rfl, rfl⟩
        go_wp2_with fail
        clear hmk HSZ hsh hw8
        go_loopw [28] (fun i wr => ∃ k : Nat, k ≤ N ∧ i = .int .i64 (k : Int) ∧ Hid (Row wr G 5 N N (backV V N k)) ∧ Hid (Below w.heap.size w wr)) (fun i _ => N - (intOf i).toNat)
        case atStart => exact ⟨0, by omega, rfl, HR0, HB0⟩
        case round =>
          obtain ⟨k, hk, rfl, HR, HB⟩ := hrel
          clear HR0 HB0
          by_cases hlt : k < N
          · have hkz : (k : Int) < (N : Int) := by omega
            obtain ⟨m, hm⟩ : ∃ m : Nat, (N : Int) - 1 - (k : Int) = (m : Int) := ⟨N - 1 - k, by omega⟩
            have hmn : m < N := by omega
            have hmz : (m : Int) < (N : Int) := by omega
            have hw8k : (8 * (k : Int)).toNat = 8 * k := by omega
            obtain ⟨T, hT⟩ : ∃ T : Nat, T = V / 256 ^ k := ⟨_, rfl⟩
            have hpk : (2 : Int) ^ (8 * k) = ((256 ^ k : Nat) : Int) := by
              rw [Int.pow_mul]
              simp
            have hshk : (V : Int) / 2 ^ (8 * k) = (T : Int) := by rw [hpk, hT]; simp
            have HMD : Hid ((T : Int) % 256 = ((T % 256 : Nat) : Int)) := by show _ = _; omega
            obtain ⟨_, c1⟩ := HR.out.has m hmn
            have f1 := HR.out.loose m
            have HRN : Hid (Row (wr.setCell ⟨G, m, none⟩ (.int .u8 ((T : Int) % 256))) G 5 N N (backV V N (k + 1))) := (HR.out.upd m hmn _).mono (Nat.le_refl _) fun j hj => by
              have hnk : N - (k + 1) = m := by omega
              by_cases e : j = m
              · subst e
                have hlen : j < (wideN V N).length := by rw [wideN_len]; exact hj
                simp only [if_true, backV, hnk, Nat.le_refl]
                rw [HMD.out, vOf_eq _ _ hlen, wideN_get N V j hlen hj, hT, show N - 1 - j = k by omega]
              · simp only [e, if_false, backV, hnk]
                by_cases h : N - k ≤ j
                · rw [if_pos h, if_pos (by omega)]
                · rw [if_neg h, if_neg (by omega)]
            have HBN : Hid (Below w.heap.size w (wr.setCell ⟨G, m, none⟩ (.int .u8 ((T : Int) % 256)))) := HB.out.setCell (p := ⟨G, m, none⟩) (by rw [← HGE.out]; exact Nat.le_refl _) _
            have HM := Lib.hid hm
            clear hT hpk
            go_wp2_with fail
            go_roundw
            case rel => exact ⟨k + 1, by omega, by go_num, HRN, HBN⟩
            case measure => simp [intOf]; omega
          · obtain rfl : k = N := by omega
            have hdd : decide ((k : Int) < (k : Int)) = false := by simp
            have hzz : ¬ (k : Int) < (k : Int) := by omega
            have hwl : (wideN V k).length = k := wideN_len _ _
            have HSL : Hid (Sl wr (some ⟨G, 0, none⟩) k (wideN V k)) := Row.sl (HR.out.mono (Nat.le_refl _) fun j hj => by unfold backV; rw [if_pos (by omega)]) hwl (wideN_byte _ _) (by unfold maxLen; omega)
            have HPT := Lib.hid (HPTA.out V k rfl rfl (by omega) HP.out wr HB.out (by rw [← HGE.out]; exact HSL.out))
            rw [← HGE.out] at HPT
            clear hwl
            go_wp2_with fail
            (with_reducible refine HPT.out.mono ?_)
            rintro e w' ⟨rfl, hp⟩
            go_wp2_with fail
            go_end0
            exact ⟨rfl, hp⟩
      · have d4 : ((R : Int) == 0) = false := by
          rw [beq_eq_false_iff_ne, HRR.out]
          have := Nat.div_pos (Nat.le_of_not_lt g4) (show 0 < 256 ^ N from Nat.pow_pos (by omega))
          omega
        have d5 : decide ((R : Int) = 0) = false := decide_eq_false (by simpa using d4)
        have HSP := Lib.hid (HSPA.out fun e => g4 (by have := e.2.2.2; rw [Int.toNat_natCast] at this; exact_mod_cast this))
        clear HSPA HPTA HRR g4
        go_enter Try.func8, Try.ntmps8
        go_wp2_with fail
        (with_reducible refine HSZ.out.mono ?_)
        rintro e w' ⟨rfl, rfl⟩
        go_wp2_with fail
        (with_reducible refine HSP.out.mono ?_)
        rintro e w' ⟨rfl, hp⟩
        go_wp2_with fail
        refine bodyPost_ret (results_none rfl _ _ _) rfl ?_
        exact ⟨rfl, hp⟩
    · have d3 : decide (v < 0) = true := decide_eq_true (by omega)
      have HSP := Lib.hid (HSPA.out fun e => g3 e.2.2.1)
      clear HSPA HPTA
      go_enter Try.func8, Try.ntmps8
      go_wp2_with fail
      (with_reducible refine HSZ.out.mono ?_)
      rintro e w' ⟨rfl, rfl⟩
      go_wp2_with fail
      (with_reducible refine HSP.out.mono ?_)
      rintro e w' ⟨rfl, hp⟩
      go_wp2_with fail
      refine bodyPost_ret (results_none rfl _ _ _) rfl ?_
      exact ⟨rfl, hp⟩
  · have HSZ : Hid (Calls Try.prog 21 #[.int .i64 n] w fun e w' => e = .returned (.bool false) ∧ w = w') := HZ.out.mono fun e w' h => ⟨by rw [h.1, decide_eq_false g], h.2⟩
    have HSP := Lib.hid (HSPA.out fun e => g ⟨e.1, e.2.1⟩)
    clear HSPA HPTA HZ g
    go_enter Try.func8, Try.ntmps8
    go_wp2_with fail
    (with_reducible refine HSZ.out.mono ?_)
    rintro e w' ⟨rfl, rfl⟩
    go_wp2_with fail
    (with_reducible refine HSP.out.mono ?_)
    rintro e w' ⟨rfl, hp⟩
    go_wp2_with fail
    refine bodyPost_ret (results_none rfl _ _ _) rfl ?_
    exact ⟨rfl, hp⟩

theorem outN_any (X : Nat → Prop) (w : World) (b : Nat) (s : Option (List Nat)) (q : Nat) (v n : Int) (h : OutAt X w b s q) (hq : q ≤ 40000) (hv : i64R v) (hn : i64R n) :
    Calls Try.prog 8 #[.pointer (some ⟨b, 0, none⟩), .int .i64 v, .int .i64 n] w (OutPost OutAt X w b (addO s (putN v n)) (q + 6)) := by
  refine outN_core _ w v n hv hn _ (fun e => ?_) (fun V N _ _ hN hp wr hB hsl => ?_)
  · have := spoil_any X w b s q (q + 6) h
    unfold fitsN at e
    unfold putN
    rw [if_neg e, addO_none]
    exact this
  · have hwl : (wideN V N).length = N := wideN_len _ _
    have hlt := h.2.1 b h.1
    have HPT := put_any X wr b s q (some ⟨w.heap.size, 0, none⟩) N (wideN V N) (h.keep (Fr.of_below (X := fun _ => False) hB) (fun _ _ h => h)) hsl fun r hr _ => by
      cases hr
      show w.heap.size ≠ b
      omega
    rw [hwl] at HPT
    refine HPT.mono ?_
    rintro e w' ⟨rfl, X', hX, hN', hF⟩
    refine ⟨rfl, X', ?_, fun j hj => ?_, (Fr.of_below hB).trans hF⟩
    · rw [hp]
      exact hX.mono (by omega)
    · have hb := hB.size
      rcases hN' j hj with h | h | ⟨r, hr, rfl⟩
      · exact .inl h
      · exact .inr (by omega)
      · cases hr
        exact .inr (Nat.le_refl _)
theorem outN_nil (w : World) (v n : Int) (hv : i64R v) (hn : i64R n) : Calls Try.prog 8 #[.pointer none, .int .i64 v, .int .i64 n] w fun e w' => e = .returned (.tuple #[]) ∧ Below w.heap.size w w' :=
  outN_core none w v n hv hn _ (fun _ => (spoil_nil w).mono fun e w' h => ⟨h.1, h.2 ▸ Below.refl _ _⟩) (fun V N _ _ _ _ wr hB _ => (put_nil _ _ _ wr).mono fun e w' h => ⟨h.1, h.2 ▸ hB⟩)
end Go.Proofs.Ytdfgdpgffblbpaa
