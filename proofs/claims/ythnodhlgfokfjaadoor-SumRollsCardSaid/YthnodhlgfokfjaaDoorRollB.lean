/-
  The law SumRolls, walked: rolled on over any bytes, a window of any size has the CRC that it has by itself.
-/
import Derived.Test.YthnodhlgfokfjaaDoorRollA
namespace Go.Proofs.YthnodhlgfokfjaaDoor
open Go.ChangeShapes Go.WideShapes Go.ChangeAt Go.RowKit
set_option linter.unusedVariables false

/-- The window of n bytes at a place. -/
def win (l : List Nat) (n k : Nat) : List Nat := (l.drop k).take n

theorem win_length (l : List Nat) (n k : Nat) (h : k + n ≤ l.length) : (win l n k).length = n := by simp [win]; omega

theorem win_roll (l : List Nat) (n k : Nat) (hn : 1 ≤ n) (h : k + n < l.length) :
    feedN (crcN (win l n k) ^^^ 4294967295) l[k + n] ^^^ 4294967295 ^^^ leftN l[k] n = crcN (win l n (k + 1)) := by
  have h1 : win l n k = l[k] :: (l.drop (k + 1)).take (n - 1) := by
    unfold win
    obtain ⟨m, rfl⟩ : ∃ m, n = m + 1 := ⟨n - 1, by omega⟩
    rw [List.drop_eq_getElem_cons (by omega : k < l.length), List.take_succ_cons]
    rfl
  have h2 : win l n (k + 1) = (l.drop (k + 1)).take (n - 1) ++ [l[k + n]] := by
    unfold win
    obtain ⟨m, rfl⟩ : ∃ m, n = m + 1 := ⟨n - 1, by omega⟩
    rw [List.take_succ_eq_append_getElem (by simp; omega)]
    simp
    congr 1
    omega
  have h3 := roll l[k] l[k + n] ((l.drop (k + 1)).take (n - 1))
  have h4 : ((l.drop (k + 1)).take (n - 1)).length + 1 = n := by simp; omega
  rw [h4] at h3
  rw [h1, h2]
  exact h3

theorem win_bytes {l : List Nat} (h : IsByte l) (n k : Nat) : IsByte (win l n k) := fun c hc => h c (List.mem_of_mem_drop (List.mem_of_mem_take hc))

theorem win_in {w : World} {b off : Nat} {l : List Nat} (h : BytesIn w b off l) (n k : Nat) : BytesIn w b (off + k) (win l n k) := fun i hi => by
  have hlen : i < n ∧ k + i < l.length := by simp [win] at hi; omega
  have e : (win l n k)[i] = l[k + i] := by simp [win]
  rw [e, Nat.add_assoc]
  exact h (k + i) hlen.2

theorem crcN_lt {l : List Nat} (h : IsByte l) : crcN l < 4294967296 := turn_lt _ (feedAll_lt l _ (by omega) h)

set_option maxRecDepth 100000 in
set_option maxHeartbeats 1000000 in
theorem sumRolls_long (a : Option Addr) (cap : Nat) (l : List Nat) (n : Int) (w : World) (hl : l.length ≤ maxLen) (hF : Fours w) (hlen : 1000 < l.length) :
    Calls Tryd.prog 5 #[.slice a l.length cap, .int .i64 n] w fun e w' => e = .returned (.bool true) ∧ Below w.heap.size w w' := by
  unfold maxLen at hl
  have HF := Lib.hid hF
  have hlt := hF.lt
  clear hF
  go_enter Tryd.func5, Tryd.ntmps5
  go_wp2_with fail
  refine (awake_any _ HF.out).mono ?_
  rintro e w1 ⟨rfl, b1⟩
  go_wp2_with fail
  refine (awake_any _ (HF.out.below hlt b1)).mono ?_
  rintro e w2 ⟨rfl, b2⟩
  go_wp2_with fail
  go_ret
  exact ⟨rfl, b1.trans (b2.mono b1.size)⟩

set_option maxRecDepth 100000 in
set_option maxHeartbeats 1000000 in
theorem sumRolls_odd (a : Option Addr) (cap : Nat) (l : List Nat) (n : Int) (w : World) (hF : Fours w) (hlen : l.length ≤ 1000) (hn : n < 1 ∨ 256 < n) :
    Calls Tryd.prog 5 #[.slice a l.length cap, .int .i64 n] w fun e w' => e = .returned (.bool true) ∧ Below w.heap.size w w' := by
  have HF := Lib.hid hF
  have HN := Lib.hid hn
  have hd : decide (n < 1) = true ∨ (decide (n < 1) = false ∧ decide (256 < n) = true) := by simp; omega
  clear hF hn
  rcases hd with hd | ⟨hd, hd2⟩
  · go_enter Tryd.func5, Tryd.ntmps5
    go_wp2_with fail
    refine (awake_any _ HF.out).mono ?_
    rintro e w1 ⟨rfl, b1⟩
    go_wp2_with (first | (go_at_call 11; refine (new_none _ HN.out _).mono ?_; rintro e w' ⟨rfl, rfl⟩) | (go_at_call 12; refine (next_nil _ _ _ _).mono ?_; rintro e w' ⟨rfl, rfl⟩))
    go_ret
    exact ⟨rfl, b1⟩
  · go_enter Tryd.func5, Tryd.ntmps5
    go_wp2_with fail
    refine (awake_any _ HF.out).mono ?_
    rintro e w1 ⟨rfl, b1⟩
    go_wp2_with (first | (go_at_call 11; refine (new_none _ HN.out _).mono ?_; rintro e w' ⟨rfl, rfl⟩) | (go_at_call 12; refine (next_nil _ _ _ _).mono ?_; rintro e w' ⟨rfl, rfl⟩))
    go_ret
    exact ⟨rfl, b1⟩

set_option maxRecDepth 100000 in
set_option maxHeartbeats 1000000 in
theorem sumRolls_short (a : Option Addr) (cap : Nat) (l : List Nat) (n : Nat) (w : World) (hF : Fours w) (hlen : l.length ≤ 1000) (h1 : 1 ≤ n) (h2 : n ≤ 256) (hs : l.length < n) :
    Calls Tryd.prog 5 #[.slice a l.length cap, .int .i64 (n : Int)] w fun e w' => e = .returned (.bool true) ∧ Below w.heap.size w w' := by
  have HF := Lib.hid hF
  have hlt := hF.lt
  clear hF
  have hd1 : decide ((n : Int) < 1) = false := by simp; omega
  have hd2 : decide (256 < (n : Int)) = false := by simp; omega
  go_enter Tryd.func5, Tryd.ntmps5
  go_wp2_with fail
  refine (awake_any _ HF.out).mono ?_
  rintro e w1 ⟨rfl, b1⟩
  go_wp2_with fail
  refine (new_some n h1 h2 _ (HF.out.below hlt b1)).mono ?_
  rintro e w2 ⟨rfl, hR⟩
  have HR := Lib.hid hR
  clear hR
  go_wp2_with fail
  go_ret
  exact ⟨rfl, b1.trans (HR.out.below.mono b1.size)⟩

set_option maxRecDepth 100000 in
set_option maxHeartbeats 1000000 in
theorem sumRolls_main (b off cap : Nat) (l : List Nat) (n : Nat) (w : World) (hF : Fours w) (hb : IsByte l) (hc : BytesIn w b off l) (hlen : l.length ≤ 1000) (h1 : 1 ≤ n) (h2 : n ≤ 256) (hs : n ≤ l.length) (hcap : l.length ≤ cap) (hcm : cap ≤ maxLen) :
    Calls Tryd.prog 5 #[.slice (some ⟨b, off, none⟩) l.length cap, .int .i64 (n : Int)] w fun e w' => e = .returned (.bool true) ∧ Below w.heap.size w w' := by
  unfold maxLen at hcm
  have HF := Lib.hid hF
  have HB := Lib.hid hb
  have HC := Lib.hid hc
  have hlt := hF.lt
  clear hF hb hc
  have hd1 : decide ((n : Int) < 1) = false := by simp; omega
  have hd2 : decide (256 < (n : Int)) = false := by simp; omega
  go_enter Tryd.func5, Tryd.ntmps5
  go_wp2_with fail
  refine (awake_any _ HF.out).mono ?_
  rintro e w1 ⟨rfl, b1⟩
  go_wp2_with fail
  refine (new_some n h1 h2 _ (HF.out.below hlt b1)).mono ?_
  rintro e w2 ⟨rfl, hR⟩
  have HR := Lib.hid hR
  have b2 : Below w.heap.size w w2 := b1.trans (hR.below.mono b1.size)
  have HC2 : Hid (BytesIn w2 b off l) := HC.out.below (Nat.le_refl _) b2
  have HF2 : Hid (Fours w2) := HF.out.below hlt b2
  clear hR
  go_wp2_with fail
  have hcrc := crc_some b off cap (win l n 0) w2 (by rw [win_length _ _ _ (by omega)]; unfold maxLen; omega) (win_bytes HB.out _ _) (win_in HC2.out n 0) HF2.out
  rw [win_length _ _ _ (by omega)] at hcrc
  refine hcrc.mono ?_
  clear hcrc
  rintro e w3 ⟨rfl, rfl⟩
  have hcl := crcN_lt (win_bytes HB.out n 0)
  have HCL : Hid (crcN (win l n 0) = crcN (win l n 0)) := rfl
  go_wp2_with fail
  go_loopw [6, 7] (fun c i wr => ∃ k t : Nat, k + n ≤ l.length ∧ Hid (t = crcN (win l n k)) ∧ t < 4294967296 ∧ c = .int .u32 t ∧ i = .int .i64 k ∧ Hid (∃ q, wr = w2.drewN q)) (fun _ i _ => l.length - (intOf i).toNat)
  case atStart => exact ⟨0, _, by omega, rfl, hcl, rfl, rfl, ⟨0, rfl⟩⟩
  case round =>
    obtain ⟨k, t, hk, HT, htl, rfl, rfl, HQ⟩ := hrel
    by_cases hlt2 : k + n < l.length
    · have HCr : Hid (BytesIn wr b off l) := by obtain ⟨q, rfl⟩ := HQ.out; exact HC2.out
      have HFr : Hid (Fours wr) := by obtain ⟨q, rfl⟩ := HQ.out; exact HF2.out
      have HRr : Hid (RollAt w1 wr n 256) := by obtain ⟨q, rfl⟩ := HQ.out; exact HR.out.drew q
      have c1 := HCr.out k (by omega)
      have c2 := HCr.out (k + n) hlt2
      have y1 : l[k] < 256 := HB.out _ (List.getElem_mem (by omega))
      have y2 : l[k + n] < 256 := HB.out _ (List.getElem_mem hlt2)
      have HW := Lib.hid (win_roll l n k h1 hlt2)
      have hg := HRr.out.done l[k] y1
      have hgl := leftN_lt l[k] n y1
      generalize l[k] = o at *
      generalize l[k + n] = i at *
      have HN : Hid (∀ q, Calls Tryd.prog 12 #[.pointer (some ⟨w1.heap.size, 0, none⟩), .int .u32 (t : Int), .int .u8 (o : Int), .int .u8 (i : Int)] (wr.drewN q) fun e w' => e = .returned (.int .u32 ((crcN (win l n (k + 1)) : Nat) : Int)) ∧ ∃ m, w' = (wr.drewN q).drewN m) := fun q => by
        have := next_some w1.heap.size t o i (leftN o n) htl y1 y2 hgl (wr.drewN q) HFr.out hg
        rw [HT.out, HW.out] at this
        rw [HT.out]
        exact this
      have hcl2 := crcN_lt (win_bytes HB.out n (k + 1))
      have s1 : IntKind.i64.wrap ((k : Int) + (n : Int)) = (k : Int) + (n : Int) := IntWalk.i64_in _ (by omega)
      have s2 : ((k : Int) + (n : Int)).toNat = k + n := by omega
      have s3 : (0 : Int) ≤ (k : Int) + (n : Int) := by omega
      go_wp2
      go_quiet ((go_at_call 12; exact Calls.quiet_of (HN.out _)))
      clear s1 s2 s3
      go_wp2_with fail
      have hrf := ref_some b (off + (k + 1)) (cap - (k + 1)) (win l n (k + 1)) (wr.drewN nq) (by rw [win_length _ _ _ (by omega)]; unfold maxLen; omega) (win_bytes HB.out _ _) (win_in HCr.out n (k + 1))
      rw [win_length _ _ _ (by omega)] at hrf
      refine hrf.mono ?_
      clear hrf
      rintro e w3 ⟨rfl, rfl⟩
      have HX : Hid (crcN (win l n (k + 1)) = crcN (win l n (k + 1))) := rfl
      generalize hz : crcN (win l n (k + 1)) = z at *
      have HZ := Lib.hid hz
      clear hz
      go_wp2
      go_roundw
      case rel => exact ⟨k + 1, z, by omega, HZ.out.symm, hcl2, rfl, by go_num, by obtain ⟨q, rfl⟩ := HQ.out; exact ⟨q + nq, by rw [World.drewN_drewN]⟩⟩
      case measure => simp [intOf]; omega
    · go_wp2
      go_ret
      obtain ⟨q, rfl⟩ := HQ.out
      exact ⟨rfl, below_drewN b2 q⟩

theorem sumRolls_walk (a : Option Addr) (cap : Nat) (l : List Nat) (n : Int) (w : World) (hl : l.length ≤ maxLen) (hcap : l.length ≤ cap) (hcm : cap ≤ maxLen) (hb : IsByte l) (hc : BytesAt w a l) (hF : Fours w) :
    Calls Tryd.prog 5 #[.slice a l.length cap, .int .i64 n] w fun e w' => e = .returned (.bool true) ∧ Below w.heap.size w w' := by
  by_cases h1 : 1000 < l.length
  · exact sumRolls_long a cap l n w hl hF h1
  · by_cases h2 : n < 1 ∨ 256 < n
    · exact sumRolls_odd a cap l n w hF (by omega) h2
    · obtain ⟨m, rfl⟩ : ∃ m : Nat, n = (m : Int) := ⟨n.toNat, by omega⟩
      by_cases h3 : l.length < m
      · exact sumRolls_short a cap l m w hF (by omega) (by omega) (by omega) h3
      · rcases hc with rfl | ⟨b, off, rfl, hc⟩
        · simp at h3; omega
        · exact sumRolls_main b off cap l m w hF hb hc (by omega) (by omega) (by omega) (by omega) hcap hcm

end Go.Proofs.YthnodhlgfokfjaaDoor
