/-
  The law PathNumbers, walked.
-/
import Derived.Test.YthpinjmlnongpaaDoorPaF
namespace Go.Proofs.YthpinjmlnongpaaDoor
open Go.ChangeShapes Go.WideShapes Go.ChangeAt Go.RowKit Go.Joins
set_option linter.unusedVariables false

theorem one_byte (a : Nat) (ha : a < 10) (W : World) : (convert 36 9 (.slice (some ⟨W.heap.size, 0, none⟩) 1 1)).run Tryd.prog (W.alloc (.cells #[.int .u8 (48 + (a : Int))] 5)) = .ok (.string (strL [UInt8.ofNat (48 + a)])) (W.alloc (.cells #[.int .u8 (48 + (a : Int))] 5)) := by
  have h : Sl (W.alloc (.cells #[.int .u8 (48 + (a : Int))] 5)) (some ⟨W.heap.size, 0, none⟩) 1 [48 + a] := by
    refine ⟨fun n hn => ?_, by simp, by unfold maxLen; omega, by simp, .inr ⟨W.heap.size, 0, rfl, fun k hk => ?_⟩⟩
    · obtain rfl : n = 48 + a := by simpa using hn
      omega
    · obtain rfl : k = 0 := by simpa using hk
      rw [World.cell?_alloc_new]
      simp
  have := conv_sl _ _ 1 [48 + a] h
  exact this
theorem one_at (a : Nat) (ha : a < 10) (A : ByteArray) (hA : A = strL [UInt8.ofNat (48 + a)]) (W : World) (g : Nat) (hg : g = W.heap.size) : (convert 36 9 (.slice (some ⟨g, 0, none⟩) 1 1)).run Tryd.prog (W.alloc (.cells #[.int .u8 (48 + (a : Int))] 5)) = .ok (.string A) (W.alloc (.cells #[.int .u8 (48 + (a : Int))] 5)) := by
  rw [hg, hA]; exact one_byte a ha W
theorem at1 : ∀ a, a < 10 → Lib.atoiAll [UInt8.ofNat (48 + a)] = .ok (a : Int) := by decide +kernel
theorem at2 : ∀ b, b < 10 → ∀ a, a < 10 → Lib.atoiAll [UInt8.ofNat (48 + b), UInt8.ofNat (48 + a)] = .ok ((10 * b + a : Nat) : Int) := by decide +kernel
theorem at3 : ∀ c, c < 10 → ∀ b, b < 10 → ∀ a, a < 10 → Lib.atoiAll [UInt8.ofNat (48 + c), UInt8.ofNat (48 + b), UInt8.ofNat (48 + a)] = .ok ((100 * c + 10 * b + a : Nat) : Int) := by decide +kernel
theorem atoi_dd {k : Nat} (hk : k ≤ 999) : Lib.atoiAll (Lib.decDigits k) = .ok (k : Int) := by
  by_cases h1 : k < 10
  · rw [dd1 h1, at1 k h1]
  · by_cases h2 : k < 100
    · rw [dd2 (by omega) h2, at2 (k / 10) (by omega) (k % 10) (by omega)]
      congr 2; omega
    · rw [dd3 (by omega) (by omega), at3 (k / 10 / 10) (by omega) (k / 10 % 10) (by omega) (k % 10) (by omega)]
      congr 2; omega
theorem suffix_app (a b : List UInt8) : Lib.hasSuffix (a ++ b) b = true ∧ Lib.trimSuffix (a ++ b) b = a := by
  have h : Lib.hasSuffix (a ++ b) b = true := by
    unfold Lib.hasSuffix
    rw [List.isSuffixOf_iff_suffix]
    exact List.suffix_append _ _
  refine ⟨h, ?_⟩
  unfold Lib.trimSuffix
  rw [if_pos h]
  simp
theorem numN_vol {k : Nat} (hk : k ≤ 999) : numN (volS (k : Int)) = k := by
  have e : volS (k : Int) = Lib.decDigits k ++ gysL := by
    unfold volS
    rw [if_pos (by omega)]
    rfl
  unfold numN
  rw [e, if_pos (suffix_app _ _).1, (suffix_app _ _).2, atoi_dd hk]
  show (if volS (k : Int) = _ then (k : Int) else -1) = _
  rw [e, if_pos rfl]
set_option maxRecDepth 100000 in
theorem pathNumbers_walk (n : Int) (hn : -9223372036854775808 ≤ n ∧ n ≤ 9223372036854775807) (s : ByteArray) (hs : s.size ≤ 9223372036854775807) (w : World) (hc : Cv w) :
    Calls Tryd.prog 6 #[.int .i64 n, .string s] w fun e w' => e = .returned (.bool true) ∧ Below w.heap.size w w' := by
  have HA : Hid (∀ w, Cv w → Calls Tryd.prog 20 #[] w fun e w' => e = .returned (.bool true) ∧ Below w.heap.size w w') := fun w hc => awake15_any w hc
  have HC := Lib.hid hc
  clear hc
  by_cases h5 : 100 < s.size
  · have d1 : decide ((100 : Int) < (s.size : Int)) = true := decide_eq_true (by omega)
    go_enter Tryd.func6, Tryd.ntmps6
    go_upto_region 2 with (go_at_call 20; refine (HA.out _ HC.out).mono ?_; rintro e w1 ⟨rfl, hb1⟩)
    have HC1 := Lib.hid (HC.out.below hb1)
    go_wp2_with (go_at_call 20; refine (HA.out _ HC1.out).mono ?_; rintro e w2 ⟨rfl, hb2⟩)
    go_ret
    exact ⟨rfl, hb1.trans (hb2.mono hb1.size)⟩
  have d1 : decide ((100 : Int) < (s.size : Int)) = false := decide_eq_false (by omega)
  have HV := Lib.hid (fun (w : World) (hc : Cv w) => volume_any n w hc)
  have HF := Lib.hid (fun (w : World) (hc : Cv w) => fresh_any n w hc)
  have HS := Lib.hid (fun (w : World) (hc : Cv w) => aside_any s (by omega) n w hc)
  go_enter Tryd.func6, Tryd.ntmps6
  go_upto_region 3 with (go_at_call 20; refine (HA.out _ HC.out).mono ?_; rintro e w1 ⟨rfl, hb1⟩)
  have HC1 := Lib.hid (HC.out.below hb1)
  have HB1 := Lib.hid hb1
  clear HC hb1 HA
  by_cases hk : 0 ≤ n ∧ n ≤ 999
  · obtain ⟨k, rfl⟩ : ∃ k : Nat, n = (k : Int) := ⟨n.toNat, by omega⟩
    have hk9 : k ≤ 999 := by omega
    have z1 : decide ((999 : Int) < (k : Int)) = false := decide_eq_false (by omega)
    have HNum : Hid (∀ w, Cv w → Calls Tryd.prog 22 #[.string (strL (volS (k : Int)))] w fun e w' => e = .returned (.int .i64 (k : Int)) ∧ Below w.heap.size w w') := fun w hc => by
      have hz : (strL (volS (k : Int))).size ≤ 100000 := by
        rw [strL_size]
        unfold volS
        rw [if_pos hk, List.length_append]
        have := dd_len hk9
        show (Lib.decDigits k).length + gysL.length ≤ _
        unfold gysL
        simp
        omega
      have := number_any (strL (volS (k : Int))) hz w hc
      rw [strL_data, numN_vol hk9] at this
      exact this
    have eV : strL (Lib.decDigits k) ++ ⟨#[46, 103, 121, 115]⟩ = strL (volS (k : Int)) := by
      unfold volS
      rw [if_pos hk]
      exact strL_append _ gysL
    have eF : ⟨#[116, 109, 112, 47]⟩ ++ strL (Lib.decDigits k) = strL (freshS (k : Int)) := by
      unfold freshS
      rw [if_pos hk]
      exact strL_append tmpL _
    have eS : ⟨#[111, 108, 100, 47]⟩ ++ strL (Lib.decDigits k) ++ ⟨#[47]⟩ ++ s = strL (asideS s.data.toList (k : Int)) := by
      unfold asideS
      rw [if_pos hk, ← strL_append, ← strL_append, ← strL_append, strL_eta]
      rfl
    have hz := dd_size hk9
    have HE := Lib.hid (And.intro eV (And.intro eF eS))
    clear eV eF eS hk
    obtain ⟨a, ha⟩ : ∃ a, a = k % 10 := ⟨_, rfl⟩
    have a10 : a < 10 := by omega
    have r1 : ((k : Int)).tmod 10 = (a : Int) := by rw [Int.tmod_eq_emod_of_nonneg (by omega)]; omega
    have r2 : (k : Int) % 10 = (a : Int) := by omega
    obtain ⟨A, hA⟩ : ∃ A, A = strL [UInt8.ofNat (48 + a)] := ⟨_, rfl⟩
    have HO := one_at a a10 A hA
    have sA : A.size ≤ 1 := by rw [hA, strL_size]; simp
    obtain ⟨b, hb⟩ : ∃ b, b = k / 10 % 10 := ⟨_, rfl⟩
    have b10 : b < 10 := by omega
    have r3 : ((k : Int)).tdiv 10 = ((k / 10 : Nat) : Int) := by rw [Int.tdiv_eq_ediv_of_nonneg (by omega)]; rfl
    obtain ⟨q, hq⟩ : ∃ q, q = k / 10 := ⟨_, rfl⟩
    rw [← hq] at r3 hb
    have q99 : q ≤ 99 := by omega
    have r4 : ((q : Int)).tmod 10 = (b : Int) := by rw [Int.tmod_eq_emod_of_nonneg (by omega)]; omega
    have r5 : (q : Int) % 10 = (b : Int) := by omega
    obtain ⟨B, hB⟩ : ∃ B, B = strL [UInt8.ofNat (48 + b)] := ⟨_, rfl⟩
    have HO2 := one_at b b10 B hB
    have sB : B.size ≤ 1 := by rw [hB, strL_size]; simp
    obtain ⟨c, hc⟩ : ∃ c, c = k / 100 := ⟨_, rfl⟩
    have c10 : c < 10 := by omega
    have r6 : ((k : Int)).tdiv 100 = (c : Int) := by rw [Int.tdiv_eq_ediv_of_nonneg (by omega)]; omega
    have r7 : (k : Int) / 10 = (q : Int) := by omega
    have r8 : (k : Int) / 100 = (c : Int) := by omega
    obtain ⟨C, hC⟩ : ∃ C, C = strL [UInt8.ofNat (48 + c)] := ⟨_, rfl⟩
    have HO3 := one_at c c10 C hC
    have sC : C.size ≤ 1 := by rw [hC, strL_size]; simp
    have HX1 : Hid (k < 10 → A = strL (Lib.decDigits k)) := fun h => by
      rw [hA, dd1 h, ha, Nat.mod_eq_of_lt h]
    have HX2 : Hid (10 ≤ k → k < 100 → B ++ A = strL (Lib.decDigits k)) := fun h1 h2 => by
      rw [hA, hB, dd2 h1 h2, strL_append, ha, hb, hq, Nat.mod_eq_of_lt (by omega : k / 10 < 10)]; rfl
    have HX3 : Hid (100 ≤ k → C ++ (B ++ A) = strL (Lib.decDigits k)) := fun h1 => by
      rw [hA, hB, hC, dd3 h1 (by omega), strL_append, strL_append, ha, hb, hq, hc, Nat.div_div_eq_div_mul]; rfl
    clear ha hb hq hc hA hB hC
    by_cases k10 : k < 10
    case' pos =>
      have y1 : decide ((9 : Int) < (k : Int)) = false := decide_eq_false (by omega)
      have y2 : decide ((99 : Int) < (k : Int)) = false := decide_eq_false (by omega)
      have HX := Lib.hid (HX1.out k10)
      clear HX1 HX2 HX3
      go_upto_region 10 with fail
      rw [HX.out]
      obtain ⟨w2, hw2⟩ : ∃ w2, w2 = w1.alloc (.cells #[.int .u8 (48 + (a : Int))] 5) := ⟨_, rfl⟩
      rw [← hw2]
      have hb2 : Below w1.heap.size w1 w2 := by rw [hw2]; exact (Below.refl _ _).alloc (Nat.le_refl _) _
      clear hw2
    case' neg =>
      have y1 : decide ((9 : Int) < (k : Int)) = true := decide_eq_true (by omega)
      by_cases k100 : k < 100
      case' pos =>
        have y2 : decide ((99 : Int) < (k : Int)) = false := decide_eq_false (by omega)
        have HX := Lib.hid (HX2.out (by omega) k100)
        clear HX1 HX2 HX3
        go_upto_region 10 with fail
        rw [HX.out]
        obtain ⟨w2, hw2⟩ : ∃ w2, w2 = (w1.alloc (.cells #[.int .u8 (48 + (a : Int))] 5)).alloc (.cells #[.int .u8 (48 + (b : Int))] 5) := ⟨_, rfl⟩
        rw [← hw2]
        have hb2 : Below w1.heap.size w1 w2 := by rw [hw2]; exact ((Below.refl _ _).alloc (Nat.le_refl _) _).alloc (by simp) _
        clear hw2
      case' neg =>
        have y2 : decide ((99 : Int) < (k : Int)) = true := decide_eq_true (by omega)
        have HX := Lib.hid (HX3.out (by omega))
        clear HX1 HX2 HX3
        go_upto_region 10 with fail
        rw [HX.out]
        obtain ⟨w2, hw2⟩ : ∃ w2, w2 = ((w1.alloc (.cells #[.int .u8 (48 + (a : Int))] 5)).alloc (.cells #[.int .u8 (48 + (b : Int))] 5)).alloc (.cells #[.int .u8 (48 + (c : Int))] 5) := ⟨_, rfl⟩
        rw [← hw2]
        have hb2 : Below w1.heap.size w1 w2 := by rw [hw2]; exact (((Below.refl _ _).alloc (Nat.le_refl _) _).alloc (by simp) _).alloc (by simp; omega) _
        clear hw2
    all_goals
      obtain ⟨eV, eF, eS⟩ := HE.out
      have HC2 := Lib.hid (HC1.out.below hb2)
      have HB2 := Lib.hid (HB1.out.trans (hb2.mono HB1.out.size))
      clear hb2 HE HX HO HO2 HO3
      go_wp2_with first
        | (go_at_call 24; refine (HV.out _ HC2.out).mono ?_; rintro e w3 ⟨rfl, hb3⟩; have HC3 := Lib.hid (HC2.out.below hb3); have HB3 := Lib.hid (HB2.out.trans (hb3.mono HB2.out.size)); clear hb3)
        | (go_at_call 22; refine (HNum.out _ HC3.out).mono ?_; rintro e w4 ⟨rfl, hb4⟩; have HC4 := Lib.hid (HC3.out.below hb4); have HB4 := Lib.hid (HB3.out.trans (hb4.mono HB3.out.size)); clear hb4)
        | (go_at_call 25; refine (HF.out _ HC4.out).mono ?_; rintro e w5 ⟨rfl, hb5⟩; have HC5 := Lib.hid (HC4.out.below hb5); have HB5 := Lib.hid (HB4.out.trans (hb5.mono HB4.out.size)); clear hb5)
        | (go_at_call 26; refine (HS.out _ HC5.out).mono ?_; rintro e w6 ⟨rfl, hb6⟩; have HB6 := Lib.hid (HB5.out.trans (hb6.mono HB5.out.size)); clear hb6)
      go_ret
      exact ⟨ret_bool (by simp), HB6.out⟩
  · have HN : Hid (volS n = [] ∧ freshS n = [] ∧ asideS s.data.toList n = []) := by
      show _ ∧ _ ∧ _
      unfold volS freshS asideS
      rw [if_neg hk, if_neg hk, if_neg hk]
      exact ⟨rfl, rfl, rfl⟩
    rw [HN.out.1] at HV
    rw [HN.out.2.1] at HF
    rw [HN.out.2.2] at HS
    have z : n < 0 ∨ (¬ n < 0 ∧ 999 < n) := by omega
    have e0 : (strL []).toList.isEmpty = true := by rw [ByteArray.toList_eq]; rfl
    rcases z with z | ⟨z, z2⟩
    all_goals
      go_wp2_with first
        | (go_at_call 24; refine (HV.out _ HC1.out).mono ?_; rintro e w2 ⟨rfl, hb2⟩; have HC2 := Lib.hid (HC1.out.below hb2); have HB2 := Lib.hid (HB1.out.trans (hb2.mono HB1.out.size)); clear hb2)
        | (go_at_call 25; refine (HF.out _ HC2.out).mono ?_; rintro e w3 ⟨rfl, hb3⟩; have HC3 := Lib.hid (HC2.out.below hb3); have HB3 := Lib.hid (HB2.out.trans (hb3.mono HB2.out.size)); clear hb3)
        | (go_at_call 26; refine (HS.out _ HC3.out).mono ?_; rintro e w4 ⟨rfl, hb4⟩; have HB4 := Lib.hid (HB3.out.trans (hb4.mono HB3.out.size)); clear hb4)
      go_ret
      exact ⟨ret_bool (by simp), HB4.out⟩
end Go.Proofs.YthpinjmlnongpaaDoor
