/-
  The laws of layer 6, walked.
-/
import Derived.Test.YtgpkefbglecgkaaRandA
import Derived.Test.YtgpkefbglecgkaaInts
namespace Go.Proofs.Ytgpkefbglecgkaa
open Go.ChangeShapes Go.WideShapes Go.ChangeAt Go.RowKit Go.Joins
set_option linter.unusedVariables false

theorem seed_any (k i : Nat) (hk : k < 65536) (hi : i < 4294967296) (w : World) : Calls Try.prog 13 #[.int .i64 (k : Int), .int .u32 (i : Int)] w fun e w' => e = .returned (.int .u32 ((seedN k i : Nat) : Int)) ∧ w = w' := by
  have HV : Hid (((i : Int) * 2654435761 % 4294967296 + (k : Int) * 40503) % 4294967296 = ((seedN k i : Nat) : Int)) := by
    show _ = _; unfold seedN; omega
  go_enter Try.func13, Try.ntmps13
  go_wp2_with fail
  go_ret
  rw [← HV.out]
  exact ⟨rfl, rfl⟩
theorem refSeed_any (k i : Nat) (hk : k < 65536) (hi : i < 4294967296) (w : World) : Calls Try.prog 14 #[.int .i64 (k : Int), .int .u32 (i : Int)] w fun e w' => e = .returned (.int .u32 ((seedN k i : Nat) : Int)) ∧ w = w' := by
  have HV : Hid (((i : Int) * 2654435761 + (k : Int) * 40503) % 4294967296 = ((seedN k i : Nat) : Int)) := by
    show _ = _; unfold seedN; omega
  go_enter Try.func14, Try.ntmps14
  go_wp2_with fail
  go_ret
  rw [← HV.out]
  exact ⟨rfl, rfl⟩

theorem randSeeds_walk (k i : Nat) (n : Int) (hk : k < 65536) (hi : i < 4294967296) (w : World) :
    Calls Try.prog 4 #[.int .u16 (k : Int), .int .u32 (i : Int), .int .i64 n] w fun e w' => e = .returned (.bool true) ∧ Below w.heap.size w w' := by
  have e1 := fun w => seed_any k i hk hi w
  have e2 := fun w => refSeed_any k i hk hi w
  generalize seedN k i = s at *
  go_enter Try.func4, Try.ntmps4
  go_wp2_with fail
  refine (awake_any _).mono ?_; rintro e w1 ⟨rfl, h1⟩
  have H1 := Lib.hid h1
  clear h1
  go_wp2_with (first | (go_at_call 13; refine (e1 _).mono ?_; rintro e w1 ⟨rfl, rfl⟩) | (go_at_call 14; refine (e2 _).mono ?_; rintro e w1 ⟨rfl, rfl⟩) | (go_at_call 9; refine (next_nil _).mono ?_; rintro e w1 ⟨rfl, rfl⟩) | (go_at_call 10; refine (below_nil _ _).mono ?_; rintro e w1 ⟨rfl, rfl⟩) | (go_at_call 11; refine (degree_nil _ _).mono ?_; rintro e w1 ⟨rfl, rfl⟩))
  go_ret
  exact ⟨rfl, H1.out⟩

/-- What holds at each round's head. -/
def GoesAt (W : World) (B : Nat) (y : Nat) (w : World) : Prop := y < 4294967296 ∧ RSt w B y ∧ Below W.heap.size W w

set_option maxHeartbeats 1000000 in
set_option maxRecDepth 100000 in
theorem randGoes_walk (s : Nat) (hs : s < 4294967296) (a : Option Addr) (cap : Nat) (ks : List Int) (w : World) (hk : Is w a cap ks) :
    Calls Try.prog 3 #[.int .u32 (s : Int), .slice a ks.length cap] w fun e w' => e = .returned (.bool true) ∧ Below w.heap.size w w' := by
  have hlm := hk.lt
  have HK := Lib.hid hk
  clear hk
  by_cases hl : 200 < ks.length
  · have hlt : (200 : Int) < (ks.length : Int) := by omega
    go_enter Try.func3, Try.ntmps3
    go_wp2_with fail
    (with_reducible refine (awake_any _).mono ?_)
    rintro e w1 ⟨rfl, h1⟩
    have H1 := Lib.hid h1
    clear h1
    go_wp2_with fail
    (with_reducible refine (awake_any _).mono ?_)
    rintro e w2 ⟨rfl, h2⟩
    have H2 := Lib.hid (H1.out.trans (h2.mono H1.out.size))
    clear h2
    go_wp2_with fail
    go_ret
    exact ⟨rfl, H2.out⟩
  · have hlt : ¬ (200 : Int) < (ks.length : Int) := by omega
    go_enter Try.func3, Try.ntmps3
    go_wp2_with fail
    (with_reducible refine (awake_any _).mono ?_)
    rintro e w1 ⟨rfl, h1⟩
    have H1 := Lib.hid h1
    clear h1
    go_wp2_with fail
    (with_reducible refine (new_any s hs _).mono ?_)
    rintro e w2 ⟨rfl, s2, b2, z2⟩
    have hB1 := H1.out.size
    generalize w1.heap.size = B at *
    have HG2 : Hid (GoesAt w B (beginN s) w2) := ⟨beginN_lt hs, s2, H1.out.trans (b2.mono hB1)⟩
    clear s2 b2 z2
    have e1 := fun w => refBegin_any s hs w
    generalize beginN s = y0 at *
    go_wp2_with fail
    (with_reducible refine (e1 _).mono ?_)
    rintro e w3 ⟨rfl, rfl⟩
    clear e1
    go_wp2_with fail
    go_loopw [6, 24] (fun x i wr => ∃ k y : Nat, k ≤ ks.length ∧ i = .int .i64 k ∧ x = .int .u64 (y : Int) ∧ Hid (GoesAt w B y wr)) (fun _ i _ => ks.length - (intOf i).toNat)
    case atStart => exact ⟨0, y0, by omega, rfl, rfl, HG2⟩
    case round =>
      obtain ⟨k, y, hkl, rfl, rfl, HG⟩ := hrel
      by_cases hlt2 : k < ks.length
      · obtain ⟨b, off, rfl, hbl, hc⟩ := (HK.out.below HG.out.2.2).some hlt2
        have hr := HK.out.rng _ (List.getElem_mem hlt2)
        generalize ks[k] = n at *
        have hy := HG.out.1
        have hy1 := nextN_lt hy
        have e0 := fun w => refNext_any y hy w
        have HB : Hid (∀ w2 y2, y2 < 4294967296 → RSt w2 B y2 → ROnly B wr w2 → GoesAt w B y2 w2) := fun w2 y2 h1 h2 h3 => ⟨h1, h2, HG.out.2.2.trans (h3.below hB1)⟩
        have h3 : (k : Int) % 3 = 0 ∨ (k : Int) % 3 = 1 ∨ (k : Int) % 3 = 2 := by omega
        rcases h3 with h3 | h3 | h3
        · have t0 : ((k : Int) % 3 == 0) = true := by rw [h3]; rfl
          have en := next_any hy HG.out.2.1
          clear h3
          generalize nextN y = y1 at *
          go_wp2_with (first | (go_at_call 8; refine (e0 _).mono ?_; rintro e w4 ⟨rfl, rfl⟩) | (go_at_call 9; (with_reducible refine en.mono ?_); rintro e w4 ⟨rfl, s4, o4⟩))
          have HG4 := Lib.hid (HB.out _ _ hy1 s4 o4)
          clear s4 o4
          go_roundw
          case rel => exact ⟨k + 1, y1, by omega, by go_num, rfl, HG4⟩
          case measure => simp [intOf]; omega
        · have t0 : ((k : Int) % 3 == 0) = false := by rw [h3]; rfl
          have t1 : ((k : Int) % 3 == 1) = true := by rw [h3]; rfl
          clear h3
          by_cases hn : 0 < n
          · have en := below_some n hy HG.out.2.1 (by omega) hr.2
            have hz0 : 0 ≤ ((nextN y : Nat) : Int) % n := Int.emod_nonneg _ (by omega)
            have hz1 : ((nextN y : Nat) : Int) % n < 4294967296 := by
              have h1 : ((nextN y : Nat) : Int) % n ≤ (nextN y : Nat) := by
                obtain ⟨m, rfl⟩ : ∃ m : Nat, n = (m : Int) := ⟨n.toNat, by omega⟩
                have := Nat.mod_le (nextN y) m
                rw [← Int.natCast_emod]
                omega
              omega
            generalize nextN y = y1 at *
            obtain ⟨z, hz⟩ : ∃ z, (y1 : Int) % n = z := ⟨_, rfl⟩
            rw [hz] at en hz0 hz1
            have hn0 : n ≠ 0 := by omega
            have hn2 : n < 18446744073709551616 := by omega
            go_wp2_with (first | (go_at_call 8; refine (e0 _).mono ?_; rintro e w4 ⟨rfl, rfl⟩) | (go_at_call 10; (with_reducible refine en.mono ?_); rintro e w4 ⟨rfl, s4, o4⟩))
            have HG4 := Lib.hid (HB.out _ _ hy1 s4 o4)
            clear s4 o4
            go_roundw
            case rel => exact ⟨k + 1, y1, by omega, by go_num, rfl, HG4⟩
            case measure => simp [intOf]; omega
          · have en := fun w => below_none n B (by omega) w
            go_wp2_with (first | (go_at_call 8; refine (e0 _).mono ?_; rintro e w4 ⟨rfl, rfl⟩) | (go_at_call 10; (with_reducible refine (en _).mono ?_); rintro e w4 ⟨rfl, rfl⟩))
            go_roundw
            case rel => exact ⟨k + 1, y, by omega, by go_num, rfl, HG⟩
            case measure => simp [intOf]; omega
        · have t0 : ((k : Int) % 3 == 0) = false := by rw [h3]; rfl
          have t1 : ((k : Int) % 3 == 1) = false := by rw [h3]; rfl
          clear h3
          have en := degree_any n hy HG.out.2.1
          have er := fun w => refDegree_any (nextN y % 1024) n (Nat.mod_lt _ (by omega)) w
          generalize nextN y = y1 at *
          have hm : ((y1 : Int) % 1024) = ((y1 % 1024 : Nat) : Int) := rfl
          generalize y1 % 1024 = d at *
          generalize capI (degN d) n = c at *
          go_wp2_with (first | (go_at_call 8; refine (e0 _).mono ?_; rintro e w4 ⟨rfl, rfl⟩) | (go_at_call 11; (with_reducible refine en.mono ?_); rintro e w4 ⟨rfl, s4, o4⟩) | (go_at_call 12; (with_reducible refine (er _).mono ?_); rintro e w5 ⟨rfl, rfl⟩))
          have HG4 := Lib.hid (HB.out _ _ hy1 s4 o4)
          clear s4 o4
          go_roundw
          case rel => exact ⟨k + 1, y1, by omega, by go_num, rfl, HG4⟩
          case measure => simp [intOf]; omega
      · go_wp2_with fail
        go_ret
        exact ⟨rfl, HG.out.2.2⟩
end Go.Proofs.Ytgpkefbglecgkaa
