/-
  The document's numbers as bytes, walked.
-/
import Derived.Test.YtdfgdpgffblbpaaCdC
namespace Go.Proofs.Ytdfgdpgffblbpaa
open Go.ChangeShapes Go.WideShapes Go.ChangeAt Go.RowKit Go.Joins
set_option linter.unusedVariables false

theorem pow6 {k : Nat} (h : k ≤ 6) : 256 ^ k ≤ 281474976710656 := by
  have := Nat.pow_le_pow_right (n := 256) (by omega) h
  omega
theorem numN_take {l : List Nat} {k : Nat} (h : k < l.length) : numN (l.take (k + 1)) = numN (l.take k) * 256 + l[k] := by
  rw [List.take_succ_eq_append_getElem h, numN_snoc]
set_option maxRecDepth 100000 in
set_option maxHeartbeats 1000000 in
theorem number_any (a : Option Addr) (cap : Nat) (l : List Nat) (w : World) (hs : Sl w a cap l) (hl : l.length ≤ 6) :
    Calls Try.prog 19 #[.slice a l.length cap] w fun e w' => e = .returned (.int .u64 (numN l : Nat)) ∧ w = w' := by
  have HS := Lib.hid hs
  have hlm := hs.lt
  have HL := Lib.hid hl
  have h0 : Hid (numN (l.take 0) = 0) := rfl
  have hbt : Hid (∀ k, k ≤ l.length → numN (l.take k) < 281474976710656) := fun k hk => by
    have h1 := numN_lt (l.take k) fun x hx => hs.byte x (List.mem_of_mem_take hx)
    rw [List.length_take, Nat.min_eq_left hk] at h1
    have := pow6 (Nat.le_trans hk hl)
    omega
  clear hs
  go_enter Try.func19, Try.ntmps19
  go_wp2_with fail
  go_loop [3, 7] (fun v i => ∃ k q : Nat, k ≤ l.length ∧ v = .int .u64 q ∧ i = .int .i64 k ∧ Hid (numN (l.take k) = q)) (fun _ i => l.length - (intOf i).toNat)
  case atStart => exact ⟨0, 0, by omega, rfl, rfl, h0⟩
  case round =>
    obtain ⟨k, q, hk, rfl, rfl, HT⟩ := hrel
    clear h0
    by_cases hlt : k < l.length
    · obtain ⟨b, off, rfl, hb⟩ := HS.out.some hlt
      have hck := hb k hlt
      have hkz : (k : Int) < (l.length : Int) := by omega
      have hq : q < 281474976710656 := by rw [← HT.out]; exact hbt.out k hk
      have hx : l[k] < 256 := HS.out.byte _ (List.getElem_mem hlt)
      have HN : Hid (numN (l.take (k + 1)) = q * 256 + l[k]) := by show _ = _; rw [numN_take hlt, HT.out]
      have hq2 : q * 256 + l[k] < 281474976710656 := by rw [← HN.out]; exact hbt.out _ hlt
      obtain ⟨x, hxx⟩ : ∃ x, x = l[k] := ⟨_, rfl⟩
      rw [← hxx] at hck hx HN hq2
      clear hxx hb
      go_wp2_with fail
      go_round
      case rel => exact ⟨k + 1, q * 256 + x, by omega, by go_num, by go_num, HN⟩
      case measure => simp [intOf]; omega
    · obtain rfl : k = l.length := by omega
      have HF : Hid (numN l = q) := by
        show _ = _
        rw [← HT.out, List.take_length]
      have hdd : decide ((l.length : Int) < (l.length : Int)) = false := by simp
      have hzz : ¬ (l.length : Int) < (l.length : Int) := by omega
      go_wp2_with fail
      go_ret
      exact ⟨by rw [HF.out]; rfl, rfl⟩

theorem wideN_get : ∀ (n v j : Nat) (h : j < (wideN v n).length), j < n → (wideN v n)[j] = v / 256 ^ (n - 1 - j) % 256
  | 0, _, j, _, hj => by omega
  | n + 1, v, j, h, hj => by
    by_cases e : j = n
    · subst e
      have : (wideN v (j + 1))[j] = v % 256 := by simp [wideN, wideN_len]
      rw [this]; simp
    · have hj2 : j < (wideN (v / 256) n).length := by rw [wideN_len]; omega
      have : (wideN v (n + 1))[j] = (wideN (v / 256) n)[j] := by simp only [wideN]; exact List.getElem_append_left hj2
      rw [this, wideN_get n _ j hj2 (by omega), Nat.div_div_eq_div_mul, show n + 1 - 1 - j = n - 1 - j + 1 by omega, Nat.pow_succ, Nat.mul_comm]
/-- The last k bytes are there. -/
def backV (v n k j : Nat) : Value := if n - k ≤ j then vOf (wideN v n) j else zV j
set_option maxRecDepth 100000 in
set_option maxHeartbeats 1000000 in
theorem wide_any (v n : Nat) (w : World) (hv : v < 9223372036854775808) (hn : n ≤ 6) :
    Calls Try.prog 9 #[.int .u64 (v : Int), .int .i64 (n : Int)] w fun e w' => e = .returned (.slice (some ⟨w.heap.size, 0, none⟩) n n) ∧ NewTo w w' (wideN v n) n := by
  have hmk := make_row n (by omega) w
  have HB0 : Hid (Below w.heap.size w (w.alloc (.cells (rowArr n zV) 5))) := (Below.refl _ _).alloc (Nat.le_refl _) _
  have HR0 : Hid (Row (w.alloc (.cells (rowArr n zV) 5)) w.heap.size 5 n n (backV v n 0)) := (Row.new_whole w _ _ zV _ _ rfl rfl).mono (Nat.le_refl _) fun j hj => by
    unfold backV
    rw [if_neg (by omega)]
  obtain ⟨B, hB⟩ : ∃ B, B = w.heap.size := ⟨_, rfl⟩
  obtain ⟨w1, hw1⟩ : ∃ w1, w1 = w.alloc (.cells (rowArr n zV) 5) := ⟨_, rfl⟩
  have HBE := Lib.hid hB
  rw [← hB, ← hw1] at hmk
  rw [← hw1] at HB0 HR0
  rw [← hB] at HR0
  clear hw1 hB
  go_enter Try.func9, Try.ntmps9
  go_wp2_with fail
  clear hmk
  go_loopw [0, 6] (fun x i wr => ∃ k q : Nat, k ≤ n ∧ x = .int .u64 (q : Int) ∧ i = .int .i64 ((n : Int) - 1 - (k : Int)) ∧ q < 9223372036854775808 ∧ Hid (q = v / 256 ^ k) ∧ Hid (Row wr B 5 n n (backV v n k)) ∧ Hid (Below w.heap.size w wr)) (fun _ i _ => (intOf i + 1).toNat)
  case atStart => exact ⟨0, v, by omega, rfl, by go_num, hv, by show _ = _; simp, HR0, HB0⟩
  case round =>
    obtain ⟨k, q, hk, rfl, rfl, hq, HQ, HR, HB⟩ := hrel
    clear HR0 HB0
    by_cases hlt : k < n
    · obtain ⟨m, hm⟩ : ∃ m : Nat, (n : Int) - 1 - (k : Int) = (m : Int) := ⟨n - 1 - k, by omega⟩
      rw [hm]
      have hmn : m < n := by omega
      have hmz : (m : Int) < (n : Int) := by omega
      have hdd : decide ((0 : Int) ≤ (m : Int)) = true := by simp
      obtain ⟨_, c1⟩ := HR.out.has m hmn
      have f1 := HR.out.loose m
      have hmod : ((q : Int)).tmod 256 = ((q % 256 : Nat) : Int) := by rw [Int.tmod_eq_emod_of_nonneg (by omega)]; omega
      have hdiv : ((q : Int)).tdiv 256 = ((q / 256 : Nat) : Int) := by rw [Int.tdiv_eq_ediv_of_nonneg (by omega)]; omega
      have hr256 : q % 256 < 256 := Nat.mod_lt _ (by omega)
      have hq2 : q / 256 < 9223372036854775808 := by omega
      have HRN : Hid (Row (wr.setCell ⟨B, m, none⟩ (.int .u8 ((q % 256 : Nat) : Int))) B 5 n n (backV v n (k + 1))) := (HR.out.upd m hmn _).mono (Nat.le_refl _) fun j hj => by
        have hnk : n - (k + 1) = m := by omega
        by_cases e : j = m
        · subst e
          have hlen : j < (wideN v n).length := by rw [wideN_len]; exact hj
          simp only [if_true, backV, hnk, Nat.le_refl]
          rw [vOf_eq _ _ hlen, wideN_get n v j hlen hj, HQ.out, show n - 1 - j = k by omega]
        · simp only [e, if_false, backV, hnk]
          by_cases h : n - k ≤ j
          · rw [if_pos h, if_pos (by omega)]
          · rw [if_neg h, if_neg (by omega)]
      have HBN : Hid (Below w.heap.size w (wr.setCell ⟨B, m, none⟩ (.int .u8 ((q % 256 : Nat) : Int)))) := HB.out.setCell (p := ⟨B, m, none⟩) (by rw [← HBE.out]; exact Nat.le_refl _) _
      have HQN : Hid (q / 256 = v / 256 ^ (k + 1)) := by
        show _ = _
        rw [HQ.out, Nat.div_div_eq_div_mul, ← Nat.pow_succ]
      have HM := Lib.hid hm
      clear hm
      go_wp2_with fail
      go_roundw
      case rel => exact ⟨k + 1, q / 256, by omega, by first | rfl | go_num, by have := HM.out; first | (congr 1; omega) | go_num, hq2, HQN, HRN, HBN⟩
      case measure => simp [intOf]
    · obtain rfl : k = n := by omega
      have HN : Hid (NewTo w wr (wideN v k) k) := by
        refine ⟨HB.out, ?_⟩
        rw [← HBE.out, wideN_len]
        exact HR.out.mono (Nat.le_refl _) fun j hj => by unfold backV; rw [if_pos (by omega)]
      have hdd : decide ((0 : Int) ≤ (k : Int) - 1 - (k : Int)) = false := decide_eq_false (by omega)
      have hz : ¬ (0 : Int) ≤ (k : Int) - 1 - (k : Int) := by omega
      go_wp2_with fail
      go_ret
      exact ⟨by rw [← HBE.out]; rfl, HN.out⟩
end Go.Proofs.Ytdfgdpgffblbpaa
