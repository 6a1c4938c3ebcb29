/-
  The laws PathVolumes and PathRights, walked.
-/
import Derived.Test.YthpinjmlnongpaaDoorPaE
namespace Go.Proofs.YthpinjmlnongpaaDoor
open Go.ChangeShapes Go.WideShapes Go.ChangeAt Go.RowKit Go.Joins
set_option linter.unusedVariables false

theorem numN_cases (l : List UInt8) : numN l = -1 ∨ (0 ≤ numN l ∧ numN l ≤ 999 ∧ volS (numN l) = l ∧ Lib.hasSuffix l gysL = true) := by
  unfold numN
  split
  · rename_i h
    split
    · rename_i v hv
      split
      · rename_i he
        refine .inr ?_
        by_cases h2 : 0 ≤ v ∧ v ≤ 999
        · exact ⟨h2.1, h2.2, he, h⟩
        · unfold volS at he
          rw [if_neg h2] at he
          rw [← he] at h
          exact absurd h (by decide)
      · exact .inl rfl
    · exact .inl rfl
  · exact .inl rfl
theorem ret_true : Ending.returned (.bool true) = .returned (.bool true) := rfl
set_option maxRecDepth 100000 in
theorem pathVolumes_walk (s : ByteArray) (hs : s.size ≤ 9223372036854775807) (w : World) (hc : Cv w) :
    Calls Tryd.prog 7 #[.string s] w fun e w' => e = .returned (.bool true) ∧ Below w.heap.size w w' := by
  have HA : Hid (∀ w, Cv w → Calls Tryd.prog 20 #[] w fun e w' => e = .returned (.bool true) ∧ Below w.heap.size w w') := fun w hc => awake15_any w hc
  have HC := Lib.hid hc
  clear hc
  by_cases h5 : 500 < s.size
  · have d1 : decide ((500 : Int) < (s.size : Int)) = true := decide_eq_true (by omega)
    go_enter Tryd.func7, Tryd.ntmps7
    go_upto_region 2 with (go_at_call 20; refine (HA.out _ HC.out).mono ?_; rintro e w1 ⟨rfl, hb1⟩)
    have HC1 := Lib.hid (HC.out.below hb1)
    go_wp2_with (go_at_call 20; refine (HA.out _ HC1.out).mono ?_; rintro e w2 ⟨rfl, hb2⟩)
    go_ret
    exact ⟨rfl, hb1.trans (hb2.mono hb1.size)⟩
  have d1 : decide ((500 : Int) < (s.size : Int)) = false := decide_eq_false (by omega)
  have HN := Lib.hid (fun w hc => number_any s (by omega) w hc)
  have HV := Lib.hid (fun (v : Int) (w : World) (hc : Cv w) => volume_any v w hc)
  have HX := numN_cases s.data.toList
  obtain ⟨v, hv⟩ : ∃ v, v = numN s.data.toList := ⟨_, rfl⟩
  rw [← hv] at HN HX
  clear hv
  have HX : v = -1 ∨ (0 ≤ v ∧ v ≤ 999 ∧ strL (volS v) = s) := by
    rcases HX with h | ⟨h0, h1, h2, _⟩
    · exact .inl h
    · exact .inr ⟨h0, h1, by rw [h2, strL_eta]⟩
  go_enter Tryd.func7, Tryd.ntmps7
  go_upto_region 3 with (go_at_call 20; refine (HA.out _ HC.out).mono ?_; rintro e w1 ⟨rfl, hb1⟩)
  have HC1 := Lib.hid (HC.out.below hb1)
  go_upto_region 4 with (go_at_call 22; refine (HN.out _ HC1.out).mono ?_; rintro e w2 ⟨rfl, hb2⟩)
  have HC2 := Lib.hid (HC1.out.below hb2)
  have HB2 := Lib.hid (hb1.trans (hb2.mono hb1.size))
  clear hb1 hb2 HN HA
  rcases HX with rfl | ⟨h0, h1, hE⟩
  · go_wp2_with fail
    go_ret
    exact ⟨rfl, HB2.out⟩
  · have z1 : (v == -1) = false := beq_false_of_ne (by omega)
    have z2 : ¬ v = -1 := by omega
    go_wp2_with (go_at_call 24; refine (HV.out _ _ HC2.out).mono ?_; rintro e w3 ⟨rfl, hb3⟩)
    go_ret
    exact ⟨ret_bool (by simp), HB2.out.trans (hb3.mono HB2.out.size)⟩
/-- A name that may be begins with no stroke, is no dot, and is no volume's. -/
theorem name_first {l : List UInt8} (h : nameB l = true) : numN l = -1 ∧ ∃ c r, l = c :: r ∧ c.toNat ≠ 47 ∧ (c.toNat = 46 → r ≠ []) := by
  have hn := (nameB_iff l).1 h
  refine ⟨?_, ?_⟩
  · unfold numN
    rw [if_neg (by have := hn.2.1; unfold gysL; rw [this]; simp)]
  · cases l with
    | nil => rw [nameB_nil] at h; cases h
    | cons c r =>
      refine ⟨c, r, rfl, fun e => ?_, fun e hr => ?_⟩
      · have hc : c = 47 := UInt8.toNat_inj.1 e
        have := hn.2.2.2.1 [] (by rw [hc, show (47 : UInt8) :: r = [] ++ 47 :: r from rfl, partsN_cut r (by simp)]; simp)
        cases this
      · have hc : c = 46 := UInt8.toNat_inj.1 e
        have := hn.2.2.2.1 [46] (by rw [hc, hr, partsN_none (by simp)]; simp)
        cases this
set_option maxRecDepth 100000 in
theorem pathRights_walk (s : ByteArray) (hs : s.size ≤ 9223372036854775807) (w : World) (hc : Cv w) :
    Calls Tryd.prog 5 #[.string s] w fun e w' => e = .returned (.bool true) ∧ Below w.heap.size w w' := by
  have HA : Hid (∀ w, Cv w → Calls Tryd.prog 20 #[] w fun e w' => e = .returned (.bool true) ∧ Below w.heap.size w w') := fun w hc => awake15_any w hc
  have HC := Lib.hid hc
  clear hc
  by_cases h5 : 500 < s.size
  · have d1 : decide ((500 : Int) < (s.size : Int)) = true := decide_eq_true (by omega)
    go_enter Tryd.func5, Tryd.ntmps5
    go_upto_region 2 with (go_at_call 20; refine (HA.out _ HC.out).mono ?_; rintro e w1 ⟨rfl, hb1⟩)
    have HC1 := Lib.hid (HC.out.below hb1)
    go_wp2_with (go_at_call 20; refine (HA.out _ HC1.out).mono ?_; rintro e w2 ⟨rfl, hb2⟩)
    go_ret
    exact ⟨rfl, hb1.trans (hb2.mono hb1.size)⟩
  have d1 : decide ((500 : Int) < (s.size : Int)) = false := decide_eq_false (by omega)
  have HN := Lib.hid (fun w hc => number_any s (by omega) w hc)
  have HR := Lib.hid (fun w hm => right_path s hs w hm)
  have HP := Lib.hid (fun w => refPath_any s hs w)
  have HF : Hid (nameB s.data.toList = true → numN s.data.toList = -1 ∧ ∃ c r, s.data.toList = c :: r ∧ c.toNat ≠ 47 ∧ (c.toNat = 46 → r ≠ [])) := name_first
  have HI := Lib.hid (fun k hk => str_index s k hk)
  have hl : s.data.toList.length = s.size := Array.length_toList
  obtain ⟨q, hq⟩ : ∃ q, q = nameB s.data.toList := ⟨_, rfl⟩
  rw [← hq] at HR HP HF
  clear hq
  go_enter Tryd.func5, Tryd.ntmps5
  go_upto_region 3 with (go_at_call 20; refine (HA.out _ HC.out).mono ?_; rintro e w1 ⟨rfl, hb1⟩)
  have HC1 := Lib.hid (HC.out.below hb1)
  go_upto_region 4 with (go_at_call 21; refine (HR.out _ HC1.out.mx).mono ?_; rintro e w2 ⟨rfl, hb2⟩)
  have HC2 := Lib.hid (HC1.out.below hb2)
  have HB2 := Lib.hid (hb1.trans (hb2.mono hb1.size))
  clear hb1 hb2 HA HR
  cases q
  · go_wp2_with (go_at_call 23; refine (HP.out _).mono ?_; rintro e w3 ⟨rfl, hb3⟩)
    go_ret
    exact ⟨ret_bool (by simp), HB2.out.trans (hb3.mono HB2.out.size)⟩
  · obtain ⟨hn, c, r, hcr, h47, h46⟩ := HF.out rfl
    rw [hn] at HN
    have hpos : 0 < s.size := by rw [← hl, hcr]; simp
    obtain ⟨x, hx, hix, y, hy, hyk⟩ := HI.out 0 hpos
    obtain rfl : y = c := by rw [hcr] at hyk; exact (Option.some.inj hyk).symm
    have z1 : ((x : Int) == 47) = false := beq_false_of_ne (by omega)
    have HZ : Hid (x = 46 → 2 ≤ s.size) := fun h => by
      have := h46 (by omega)
      rw [← hl, hcr]
      cases r with
      | nil => exact absurd rfl this
      | cons _ _ => simp
    have hix0 : ∀ W, (Instr.index 9 (.string s) (.int .i64 0)).run Tryd.prog W = .ok (.int .u8 (x : Int)) W := hix
    clear hcr hyk hn HF HI hl hy h47 h46 hix
    by_cases h46 : x = 46
    · have h2 := HZ.out h46
      have z2 : ((x : Int) == 46) = true := beq_iff_eq.2 (by omega)
      have d2 : decide ((s.size : Int) < 2) = false := decide_eq_false (by omega)
      clear HZ h46
      go_wp2_with first
        | (go_at_call 22; refine (HN.out _ HC2.out).mono ?_; rintro e w3 ⟨rfl, hb3⟩)
        | (go_at_call 23; refine (HP.out _).mono ?_; rintro e w4 ⟨rfl, hb4⟩)
      go_ret
      exact ⟨ret_bool (by simp), (HB2.out.trans (hb3.mono HB2.out.size)).trans (hb4.mono (Nat.le_trans HB2.out.size hb3.size))⟩
    · have z2 : ((x : Int) == 46) = false := beq_false_of_ne (by omega)
      clear HZ h46
      go_wp2_with first
        | (go_at_call 22; refine (HN.out _ HC2.out).mono ?_; rintro e w3 ⟨rfl, hb3⟩)
        | (go_at_call 23; refine (HP.out _).mono ?_; rintro e w4 ⟨rfl, hb4⟩)
      go_ret
      exact ⟨ret_bool (by simp), (HB2.out.trans (hb3.mono HB2.out.size)).trans (hb4.mono (Nat.le_trans HB2.out.size hb3.size))⟩
end Go.Proofs.YthpinjmlnongpaaDoor
